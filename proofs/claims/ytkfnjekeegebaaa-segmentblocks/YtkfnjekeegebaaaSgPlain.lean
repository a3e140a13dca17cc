/- What is sealed of a block: plain's contract, over any world. -/
import Derived.Test.YtkfnjekeegebaaaSgAskOf
import Derived.Test.YtkfnjekeegebaaaVPut
import Derived.Deep.DeepCutAuto
import Derived.Deep.CutBlock
namespace Go.Proofs.Ytkfnjekeegebaaa
open Go.RowKit
set_option linter.unusedSimpArgs false

def encTo (x : N5) (j : Nat) : List Nat := (x.list.take j).flatMap fun n => vEnc n.toNat

theorem enc_all (x : N5) : encTo x 5 = x.enc := by simp [encTo, N5.list, N5.enc]

theorem arr_at (x : N5) {j : Nat} (hj : j < 5) (w : World) : (Instr.index 38 x.val (.int .i64 (j : Int))).run Try.prog w = .ok (.int .i64 (x.list.getD j 0)) w := by
  rcases (by omega : j = 0 ∨ j = 1 ∨ j = 2 ∨ j = 3 ∨ j = 4) with rfl | rfl | rfl | rfl | rfl <;> kernel_rfl

theorem rdU_new {w : World} {ty : TypeId} {x g : Nat} (hx : x ≤ 18446744073709551615) (hg : g = w.heap.size) :
    RdU (w.alloc (.cells #[.int .u64 (x : Int)] ty)) (some ⟨g, 0, none⟩) 1 [x] := by
  subst hg
  refine ⟨rfl, by simp; omega, fun _ => ⟨_, _, rfl, fun j hj => ?_⟩⟩
  rw [World.cell?_alloc_new]
  obtain rfl : j = 0 := by omega
  rfl

theorem wrapU {m : Nat} (h : m ≤ 18446744073709551615) : IntKind.u64.wrap (m : Int) = m := by rw [IntKind.wrap_u64]; omega

theorem plain_none (w : World) :
    Calls Try.prog 11 #[.nilIface] w fun e w' => Below w.heap.size w w' ∧ e = .returned (.tuple #[.slice none 0 0, .bool false]) := by
  have HA := Lib.hid (ask_none w)
  go_enter Try.func11, Try.ntmps11
  go_wp2_with fail
  refine HA.out.mono ?_
  rintro e w1 ⟨rfl, hb1⟩
  simp only [N5.val]
  go_wp2
  go_ret2
  exact ⟨hb1.trans ((Below.alloc0 w1 _).mono hb1.size), rfl⟩

set_option maxHeartbeats 1000000 in
set_option maxRecDepth 100000 in
theorem plain_data (a : Option Addr) (n c : Nat) (l : List Nat) (w : World) (h : Rd w a n l) :
    Calls Try.prog 11 #[.iface 32 (.slice a n c)] w fun e w' => Below w.heap.size w w' ∧
      (((Sg.data l).ok = false ∧ e = .returned (.tuple #[.slice none 0 0, .bool false])) ∨ ((Sg.data l).ok = true ∧ ∃ s, e = .returned (.tuple #[s, .bool true]) ∧ Own w' w.heap.size s (Sg.data l).plain)) := by
  have HA := Lib.hid (ask_of 32 (.slice a n c) 80 68 0 0 0 0 0 a n c w (fun _ => by kernel_rfl) (fun _ => by kernel_rfl) (fun W => dataNums_any a n c W))
  have HO : Hid ((Sg.data l).ok = (decide (1 ≤ n) && decide (n ≤ 160))) := Lib.hid (by rw [← h.1]; rfl)
  have HR := Lib.hid h
  have HP : Hid ((Sg.data l).plain = [68] ++ l) := Lib.hid rfl
  obtain ⟨P, hP⟩ : ∃ P, P = (Sg.data l).plain := ⟨_, rfl⟩
  obtain ⟨B, hB⟩ : ∃ B, B = (Sg.data l).ok := ⟨_, rfl⟩
  rw [← hP] at HP ⊢
  rw [← hB] at HO ⊢
  clear hP hB h
  by_cases h1 : (decide (1 ≤ n) && decide (n ≤ 160)) = true
  · have hI := fun W => isData_any a n c W
    rw [h1] at hI HO
    have hBt := HO.out
    subst hBt
    have HI := Lib.hid hI
    have hn : 1 ≤ n ∧ n ≤ 160 := by simpa using h1
    clear hI h1 HO
    go_enter Try.func11, Try.ntmps11
    go_wp2_with fail
    refine HA.out.mono ?_
    rintro e w1 ⟨rfl, hb1⟩
    simp only [N5.val]
    have HB1 := Lib.hid hb1
    clear hb1
    obtain ⟨u, hu⟩ : ∃ u, u = w1.alloc (.cells #[.int .i64 0, .int .i64 0, .int .i64 0, .int .i64 0, .int .i64 0] 38) := ⟨_, rfl⟩
    have HU : Hid (w1.alloc (.cells #[.int .i64 0, .int .i64 0, .int .i64 0, .int .i64 0, .int .i64 0] 38) = u) := Lib.hid hu.symm
    have HBU : Hid (Below w.heap.size w u) := Lib.hid (by rw [hu]; exact HB1.out.trans ((Below.alloc0 w1 _).mono HB1.out.size))
    clear hu
    go_upto_region 2 with fail
    rw [HU.out]
    go_wp2_with fail
    refine (HI.out _).mono ?_
    rintro e w2 ⟨rfl, rfl⟩
    go_wp2_with (at_builtin; refine wpList_append_rd rfl (.tmp 33) (.tmp 34) rfl _ rfl a n c rfl w.heap.size [68] (Own.mono (own_one (w := u.alloc (.cells #[.int .u8 68] 5)) (g := u.heap.size) (x := 68) (by omega) (heap_alloc_new u _)) HBU.out.size) (by have := HBU.out.size; simp; omega) l ((HR.out.later HBU.out).later (Below.alloc0 u _)) (by simp; omega) ?_; intro v2 x2 hv2 hx2; have HX2 : Hid (Below w.heap.size w x2) := Lib.hid ((HBU.out.trans ((Below.alloc0 u _).mono HBU.out.size)).trans hx2); have HV2 : Hid (Own x2 w.heap.size v2 ([68] ++ l)) := Lib.hid hv2; clear hv2 hx2)
    go_ret2
    exact ⟨HX2.out, .inr ⟨trivial, v2, rfl, by rw [HP.out]; exact HV2.out⟩⟩
  · have h2 : (decide (1 ≤ n) && decide (n ≤ 160)) = false := by simpa using h1
    have hI := fun W => isData_any a n c W
    rw [h2] at hI HO
    have hBt := HO.out
    subst hBt
    have HI := Lib.hid hI
    clear hI h1 h2 HO
    go_enter Try.func11, Try.ntmps11
    go_wp2_with fail
    refine HA.out.mono ?_
    rintro e w1 ⟨rfl, hb1⟩
    simp only [N5.val]
    have HB1 := Lib.hid hb1
    clear hb1
    go_wp2_with fail
    refine (HI.out _).mono ?_
    rintro e w2 ⟨rfl, rfl⟩
    go_wp2
    go_ret2
    exact ⟨HB1.out.trans ((Below.alloc0 w1 _).mono HB1.out.size), .inl ⟨trivial, rfl⟩⟩

set_option maxHeartbeats 1000000 in
set_option maxRecDepth 100000 in
theorem plain_nums (T : TypeId) (v : Value) (f : FuncId) (k : Nat) (x : N5) (w : World) (hk : k < 256) (h68 : k ≠ 68)
    (hm : ∀ w : World, (method 231 T v "revenant/segment.numbers").run Try.prog w = .ok (f, v) w)
    (hf : ∀ w : World, (callFunc f #[v]).run Try.prog w = .ok (.enter f #[v]) w)
    (hc : ∀ W : World, Calls Try.prog f #[v] W fun r w' => r = .returned (.tuple #[.int .u8 (k : Int), x.val, .slice none 0 0]) ∧ Below W.heap.size W w') :
    Calls Try.prog 11 #[.iface T v] w fun e w' => Below w.heap.size w w' ∧
      ((x.ok = false ∧ e = .returned (.tuple #[.slice none 0 0, .bool false])) ∨ (x.ok = true ∧ ∃ s, e = .returned (.tuple #[s, .bool true]) ∧ Own w' w.heap.size s (k :: x.enc))) := by
  have HA := Lib.hid (ask_of T v f k x.n0 x.n1 x.n2 x.n3 x.n4 none 0 0 w hm hf hc)
  have HIX : Hid (∀ j : Nat, j < 5 → ∀ w : World, (Instr.index 38 x.val (.int .i64 (j : Int))).run Try.prog w = .ok (.int .i64 (x.list.getD j 0)) w) := Lib.hid fun j hj w => arr_at x hj w
  have HLT : Hid (∀ j : Nat, j < 5 → x.list.take (j + 1) = x.list.take j ++ [x.list.getD j 0]) := Lib.hid fun j hj => list_at x hj
  have HEA : Hid (∀ j : Nat, encTo x j = (x.list.take j).flatMap fun n => vEnc n.toNat) := Lib.hid fun _ => rfl
  have HEN := Lib.hid (enc_all x)
  have HOK := Lib.hid (ok_all x)
  have hll : x.list.length = 5 := rfl
  have HLL := Lib.hid hll
  have k1 : ((k : Int) == 68) = false := by simp; omega
  have k2 : ¬ (k : Int) = 68 := by omega
  clear hm hf hc hll
  simp only [N5.val] at HA HIX
  obtain ⟨n0, n1, n2, n3, n4⟩ := x
  simp only at HA HIX
  obtain ⟨EN, hEN⟩ : ∃ E, E = N5.enc ⟨n0, n1, n2, n3, n4⟩ := ⟨_, rfl⟩
  obtain ⟨ET, hET⟩ : ∃ E, E = encTo ⟨n0, n1, n2, n3, n4⟩ := ⟨_, rfl⟩
  obtain ⟨OK, hOK⟩ : ∃ E, E = N5.ok ⟨n0, n1, n2, n3, n4⟩ := ⟨_, rfl⟩
  obtain ⟨L, hL⟩ : ∃ E, E = N5.list ⟨n0, n1, n2, n3, n4⟩ := ⟨_, rfl⟩
  rw [← hEN, ← hET] at HEN
  rw [← hL, ← hOK] at HOK
  rw [← hET, ← hL] at HEA
  rw [← hL] at HIX HLT HLL
  rw [← hEN, ← hOK]
  clear hEN hET hOK hL
  go_enter Try.func11, Try.ntmps11
  go_wp2_with fail
  refine HA.out.mono ?_
  rintro e w1 ⟨rfl, hb1⟩
  have HB1 := Lib.hid hb1
  clear hb1
  obtain ⟨u, hu⟩ : ∃ u, u = w1.alloc (.cells #[.int .i64 n0, .int .i64 n1, .int .i64 n2, .int .i64 n3, .int .i64 n4] 38) := ⟨_, rfl⟩
  obtain ⟨q, hq⟩ : ∃ q, q = w1.heap.size := ⟨_, rfl⟩
  have HU : Hid (w1.alloc (.cells #[.int .i64 n0, .int .i64 n1, .int .i64 n2, .int .i64 n3, .int .i64 n4] 38) = u ∧ w1.heap.size = q) := Lib.hid ⟨hu.symm, hq.symm⟩
  have HBU : Hid (Below w.heap.size w u) := Lib.hid (by rw [hu]; exact HB1.out.trans ((Below.alloc0 w1 _).mono HB1.out.size))
  have HQU : Hid (u.heap[q]? = some (.cells #[.int .i64 n0, .int .i64 n1, .int .i64 n2, .int .i64 n3, .int .i64 n4] 38 (0, 0))) := Lib.hid (by rw [hu, hq]; exact heap_alloc_new w1 _)
  clear hu hq
  go_upto_region 2 with fail
  rw [HU.out.1]
  try rw [HU.out.2]
  have c0 : ∀ o, (u.alloc o).cell? ⟨q, 0, none⟩ = some (.int .i64 n0) ∧ (u.alloc o).cell? ⟨q, 1, none⟩ = some (.int .i64 n1) ∧ (u.alloc o).cell? ⟨q, 2, none⟩ = some (.int .i64 n2) ∧ (u.alloc o).cell? ⟨q, 3, none⟩ = some (.int .i64 n3) ∧ (u.alloc o).cell? ⟨q, 4, none⟩ = some (.int .i64 n4) := fun o => five_cells ((heap_alloc_old u o (lt_of_block HQU.out)).trans HQU.out)
  go_wp2_with fail
  have HD0 : Hid (Own (u.alloc (.cells #[.int .u8 (k : Int)] 5)) w.heap.size (.slice (some ⟨u.heap.size, 0, none⟩) 1 1) (k :: ET 0) ∧ Below w.heap.size w (u.alloc (.cells #[.int .u8 (k : Int)] 5))) := by
    refine Lib.hid ⟨?_, HBU.out.trans ((Below.alloc0 u _).mono HBU.out.size)⟩
    have e0 : ET 0 = [] := by rw [HEA.out]; rfl
    rw [e0]
    exact Own.mono (own_one (x := k) hk (heap_alloc_new u _)) HBU.out.size
  clear c0
  go_loopg [8, 39] 5 (fun gk d i wr => ∃ j : Nat, gk = 5 - j ∧ j ≤ 5 ∧ i = .int .i64 (j : Int) ∧ Hid (Own wr w.heap.size d (k :: ET j) ∧ Below w.heap.size w wr ∧ (L.take j).all numOk = true))
  case atStart => exact ⟨0, rfl, Nat.zero_le _, rfl, Lib.hid ⟨HD0.out.1, HD0.out.2, by simp⟩⟩
  case round =>
    obtain ⟨j, hgk, hj, rfl, HI⟩ := hrel
    have HGK := Lib.hid hgk
    clear hgk
    by_cases hlt : j < 5
    · have hlt' : (j : Int) < 5 := by omega
      have hix := HIX.out j hlt
      have hls := HLT.out j hlt
      obtain ⟨m, hm⟩ : ∃ m, m = L.getD j 0 := ⟨_, rfl⟩
      rw [← hm] at hix hls
      have hnum : numOk m = false → OK = false := by
        intro h
        rw [← HOK.out, List.all_eq_false]
        refine ⟨m, ?_, by simp [h]⟩
        rw [hm]
        have : j < L.length := by rw [HLL.out]; exact hlt
        simp [List.getD, this]
      have HLS := Lib.hid hls
      clear hls hm
      by_cases m1 : m < 0
      · have hX := hnum (by simp [numOk]; omega)
        subst hX
        clear hnum
        go_wp2
        go_ret2
        exact ⟨HI.out.2.1, rfl⟩
      by_cases m2 : 1073741824 < m
      · have hX := hnum (by simp [numOk]; omega)
        subst hX
        clear hnum
        go_wp2
        go_ret2
        exact ⟨HI.out.2.1, rfl⟩
      clear hnum
      obtain ⟨b, rfl⟩ : ∃ b : Nat, m = (b : Int) := ⟨m.toNat, by omega⟩
      have hb2 : b ≤ 1073741824 := by omega
      have hu1 := wrapU (m := b) (by omega)
      have HBB := Lib.hid hb2
      have HLen : Hid ((k :: ET j).length ≤ 101) := by
        refine Lib.hid ?_
        rw [HEA.out]
        have h1 : ∀ (M : List Int), M.all numOk = true → (M.flatMap fun n => vEnc n.toNat).length ≤ 10 * M.length := by
          intro M
          induction M with
          | nil => simp
          | cons y r ih =>
            intro hy
            simp only [List.all_cons, Bool.and_eq_true] at hy
            obtain ⟨t, rfl, ht⟩ := numOk_nat hy.1
            have e1 := vEnc_len10 (n := t) (by omega)
            have e2 := ih hy.2
            simp only [List.flatMap_cons, List.length_append, List.length_cons, Int.toNat_natCast]
            omega
        have h2 := h1 _ HI.out.2.2
        have h3 : (L.take j).length ≤ j := List.length_take_le _ _
        simp only [List.length_cons]
        omega
      obtain ⟨ad, cd, hde, hrd, _⟩ := HI.out.1.sl
      subst hde
      have HRD := Lib.hid hrd
      clear hb2 hrd
      go_wp2_with fail
      refine (put_any ad _ cd (k :: ET j) _ 1 1 [b] _ (HRD.out.later (Below.alloc0 _ _)) (rdU_new (by have := HBB.out; omega) rfl) (by have := HLen.out; omega) (by omega)).mono ?_
      rintro e w4 ⟨v4, rfl, ho4, hb4⟩
      have HN : Hid (Own w4 w.heap.size v4 (k :: ET (j + 1)) ∧ Below w.heap.size w w4 ∧ (L.take (j + 1)).all numOk = true) := by
        refine Lib.hid ⟨?_, ?_, ?_⟩
        · have e4 : k :: ET (j + 1) = (k :: ET j) ++ [b].flatMap vEnc := by
            rw [HEA.out, HEA.out, HLS.out, List.flatMap_append]
            simp
          rw [e4]
          exact ho4.mono (by have := HI.out.2.1.size; simp; omega)
        · exact (HI.out.2.1.trans ((Below.alloc0 _ _).mono HI.out.2.1.size)).trans (hb4.mono (by have := HI.out.2.1.size; simp; omega))
        · rw [HLS.out, List.all_append, HI.out.2.2]
          have := HBB.out
          simp [numOk]
          omega
      clear ho4 hb4
      go_wp2
      go_roundg (5 - (j + 1))
      case measure => have := HGK.out; omega
      case rel => exact ⟨j + 1, rfl, by omega, by go_num, HN⟩
    · obtain rfl : j = 5 := by omega
      have hX : OK = true := by
        rw [← HOK.out]
        have := HI.out.2.2
        rw [List.take_of_length_le (by have := HLL.out; omega)] at this
        exact this
      subst hX
      go_wp2
      go_ret2
      exact ⟨HI.out.2.1, _, rfl, by rw [← HEN.out]; exact HI.out.1⟩

/-- What is sealed of a block. -/
theorem plain_any (v : Value) (x : Sg) (w : World) (h : SgV w v (some x)) :
    Calls Try.prog 11 #[v] w fun e w' => Below w.heap.size w w' ∧
      ((x.ok = false ∧ e = .returned (.tuple #[.slice none 0 0, .bool false])) ∨ (x.ok = true ∧ ∃ s, e = .returned (.tuple #[s, .bool true]) ∧ Own w' w.heap.size s x.plain)) := by
  rcases x with ⟨a, b, c, d, e⟩ | ⟨a, b, c, d, z⟩ | ⟨l⟩
  · subst h
    exact plain_nums _ _ 78 72 ⟨a, b, c, d, e⟩ w (by omega) (by omega) (fun _ => by kernel_rfl) (fun _ => by kernel_rfl) (fun W => headNums_any a b c d e W)
  · subst h
    exact plain_nums _ _ 79 84 ⟨a, b, c, d, bit z⟩ w (by omega) (by omega) (fun _ => by kernel_rfl) (fun _ => by kernel_rfl) (fun W => tailNums_any a b c d z W)
  · obtain ⟨a, n, c, rfl, hr, _⟩ := h
    exact plain_data a n c l w hr

end Go.Proofs.Ytkfnjekeegebaaa
