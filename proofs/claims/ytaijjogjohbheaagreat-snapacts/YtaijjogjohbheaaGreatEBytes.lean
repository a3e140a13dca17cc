/- The contract of a set's Bytes, over any world; its numbers, plainly. -/
import Derived.Test.YtaijjogjohbheaaGreatGESortToEHas
import Derived.Test.YtaijjogjohbheaaGreatVPut
import Derived.Deep.RegionHeld3
import Derived.Deep.DeepCutAuto
import Derived.Deep.Onto
namespace Go.Proofs.YtaijjogjohbheaaGreat
open Go.RowKit
set_option maxRecDepth 100000

theorem info_u64 : (Tryz.prog.info? 104).map (fun i => (i.zero, i.size, i.bytes)) = some (some (.int .u64 0), 1, 8) := by kernel_rfl

def cU (L : List Nat) : List Value := L.map fun x : Nat => Value.int .u64 (x : Int)

theorem cU_append (a b : List Nat) : cU (a ++ b) = cU a ++ cU b := by simp [cU]

/-- The value v owns the numbers L. -/
def OwnU (w : World) (base : Nat) (v : Value) (L : List Nat) : Prop := (∀ x ∈ L, x ≤ 18446744073709551615) ∧ w.ownsRow base 104 1 v L.length (cU L)

theorem OwnU.rd {w : World} {base : Nat} {v : Value} {L : List Nat} (h : OwnU w base v L) : ∃ a c, v = .slice a L.length c ∧ RdU w a L.length L := by
  obtain ⟨hb, h0⟩ := h
  have h1 := h0
  rcases h0.2 with ⟨rfl, hl⟩ | ⟨g, cap, cur, rfl, _⟩
  · have : L = [] := List.eq_nil_of_length_eq_zero hl
    subst this
    exact ⟨none, 0, rfl, rfl, by simp, by simp⟩
  · refine ⟨_, cap, rfl, rfl, hb, fun _ => ⟨g, 0, rfl, fun j hj => ?_⟩⟩
    have := h1.cells (g := g) rfl j (.int .u64 ((L.getD j 0 : Nat) : Int)) (by simp [cU, List.getD, hj])
    rw [← add_plain]; exact this

/-- The numbers of some runs, behind a number. -/
def numsGo : Int → List Rn → List Nat
  | _, [] => []
  | p, r :: L => (r.f - p).toNat :: (r.t - r.f).toNat :: numsGo r.t L

/-- Where the last of some runs ends. -/
def lastT : Int → List Rn → Int
  | p, [] => p
  | _, r :: L => lastT r.t L

theorem numsGo_snoc (p : Int) (L : List Rn) (r : Rn) : numsGo p (L ++ [r]) = numsGo p L ++ [(r.f - lastT p L).toNat, (r.t - r.f).toNat] := by
  induction L generalizing p with
  | nil => rfl
  | cons q L ih => simp only [List.cons_append, numsGo, lastT, ih]

theorem lastT_snoc (p : Int) (L : List Rn) (r : Rn) : lastT p (L ++ [r]) = r.t := by
  induction L generalizing p with
  | nil => rfl
  | cons q L ih => simp only [List.cons_append, lastT, ih]

theorem numsGo_length (p : Int) (L : List Rn) : (numsGo p L).length = 2 * L.length := by
  induction L generalizing p with
  | nil => rfl
  | cons q L ih => simp only [numsGo, List.length_cons, ih]; omega

/-- The numbers that a set's bytes are. -/
def setNums (M : List Rn) : List Nat := M.length :: numsGo 0 M

/-- A set of numbers that are not below 0. -/
def Pos (M : List Rn) : Prop := Canon (-1) M

theorem lastT_take {M : List Rn} (h : Pos M) : ∀ j, j < M.length → 0 ≤ lastT 0 (M.take j) ∧ lastT 0 (M.take j) ≤ (M.getD j default).f ∧ (M.getD j default).f < (M.getD j default).t := by
  intro j hj
  have h1 := h.get j hj
  cases j with
  | zero =>
    simp only [List.take_zero, lastT]
    exact ⟨Int.le_refl _, by omega, h1.2.1⟩
  | succ k =>
    have hk := takeR_succ (L := M) (j := k) (by omega) rfl
    rw [hk, lastT_snoc]
    have h2 := h.get k (by omega)
    have h3 := h2.2.2 (k + 1) (by omega) hj
    exact ⟨by omega, by omega, h1.2.1⟩

theorem heap_alloc2' (w : World) (o1 o2 : Obj) : ((w.alloc o1).alloc o2).drew.heap[w.heap.size + 1]? = some o2 := by
  have := heap_alloc_new (w.alloc o1) o2
  rw [World.size_alloc] at this
  exact this

set_option maxHeartbeats 2000000 in
set_option maxRecDepth 100000 in
theorem setBytes_any (a : Option Addr) (n c : Nat) (M : List Rn) (w : World) (h : RdR w a n M) (hn : n ≤ 400) (hs : Pos M) (hok : ∀ r ∈ M, r.ok) :
    Calls Tryz.prog 78 #[.slice a n c] w fun e w' => ∃ v, e = .returned v ∧ Own w' w.heap.size v ((setNums M).flatMap vEnc) ∧ Below w.heap.size w w' := by
  obtain ⟨i0, hi0, hz0, hz1, hz2⟩ := info_parts info_u64
  have HR := Lib.hid h
  have HS := Lib.hid (lastT_take hs)
  have HOk := Lib.hid hok
  clear h hs hok
  go_enter Tryz.func78, Tryz.ntmps78
  go_wp2
  go_loopg [3, 4, 13] n (fun k s la i wr => ∃ (j p : Nat) (sv : Value), sv = s ∧ k = n - j ∧ j ≤ n ∧ i = .int .i64 (j : Int) ∧ la = .int .i64 (p : Int) ∧ Hid ((p : Int) = lastT 0 (M.take j)) ∧ Hid (OwnU wr w.heap.size sv (n :: numsGo 0 (M.take j))) ∧ Hid (Below w.heap.size w wr))
  case atStart =>
    refine ⟨0, 0, _, rfl, rfl, Nat.zero_le _, rfl, rfl, Lib.hid (by simp [lastT]), Lib.hid ⟨by simp [numsGo]; omega, ?_⟩, Lib.hid (Below.alloc0 _ _)⟩
    have h1 := World.ownsRow_lit (base := w.heap.size) (e := 104) (size := 1) w #[.int .u64 (n : Int)] 1 (Nat.le_refl _) (by simp [maxLen]) (by simp)
    simpa [numsGo, cU] using h1
  case round =>
    obtain ⟨j, p, sv, rfl, hk, hj, rfl, rfl, HPl, HO, HB⟩ := hrel
    have HK := Lib.hid hk
    clear hk
    by_cases hlt : j < n
    · obtain ⟨b, o, r, rfl, hre, hbl, e0, e1⟩ := (HR.out.later HB.out).at_ (Below.refl _ _) hlt
      have hjl : j < M.length := by have := HR.out.1; omega
      obtain ⟨s1, s2, s3⟩ := HS.out j hjl
      rw [← HPl.out, ← hre] at s2
      rw [← hre] at s3
      have hrk : r.ok := by rw [hre]; exact HOk.out _ (getD_mem hjl)
      have hst := takeR_succ hjl hre
      obtain ⟨xi, yi⟩ := r
      simp only at e0 e1 s2 s3
      obtain ⟨x, rfl⟩ : ∃ x : Nat, xi = (x : Int) := ⟨xi.toNat, by omega⟩
      obtain ⟨y, rfl⟩ : ∃ y : Nat, yi = (y : Int) := ⟨yi.toNat, by omega⟩
      have hpx : p ≤ x := by omega
      have hxy : x < y := by omega
      have hyb : y ≤ 1099511627776 := by obtain ⟨_, _, _, h4⟩ := hrk; simp only at h4; omega
      have hnum : n :: numsGo 0 (M.take (j + 1)) = (n :: numsGo 0 (M.take j)) ++ [x - p, y - x] := by
        rw [hst, numsGo_snoc, ← HPl.out]
        simp only [List.cons_append]
        congr 4 <;> omega
      have hlast : ((y : Nat) : Int) = lastT 0 (M.take (j + 1)) := by rw [hst, lastT_snoc]
      have hlen : (n :: numsGo 0 (M.take j)).length ≤ 801 := by
        rw [List.length_cons, numsGo_length, List.length_take]
        omega
      obtain ⟨A, hA⟩ : ∃ A, A = n :: numsGo 0 (M.take j) := ⟨_, rfl⟩
      rw [← hA] at hnum HO hlen
      have HNum := Lib.hid hnum
      have HLast := Lib.hid hlast
      have HRk := Lib.hid hrk
      have HSt := Lib.hid hA
      clear hst hrk hre hnum hlast hjl hA s1 s2 s3
      go_upto_region 6 with fail
      obtain ⟨w2, hw2⟩ : ∃ w2, w2 = wr.alloc (.cells #[.int .i64 (x : Int), .int .i64 (y : Int)] 67) := ⟨_, rfl⟩
      rw [← hw2]
      have hb2 : Below wr.heap.size wr w2 := by rw [hw2]; exact Below.alloc0 _ _
      have hbx : BoxR w2 wr.heap.size ⟨(x : Int), (y : Int)⟩ := by rw [hw2]; exact BoxR.new wr _ _ 67
      have hgs : wr.heap.size < w2.heap.size := by rw [hw2]; simp
      have HB2 : Hid (Below w.heap.size w w2) := Lib.hid (HB.out.trans (hb2.mono HB.out.size))
      have HROW : Hid (∀ W, Below w2.heap.size w2 W → W.ownsRow w.heap.size 104 1 sv A.length (cU A)) := Lib.hid fun W hW => by
        have h1 := HO.out.2.kept (row := none) (grownBy_of_below hb2 none) (by
          cases hv : sv.ownBlock with
          | none => exact .inl rfl
          | some k => exact .inr (by simp))
        exact h1.kept (row := none) (grownBy_of_below hW none) (by
          cases hv : sv.ownBlock with
          | none => exact .inl rfl
          | some k => exact .inr (by simp))
      have HKP : Hid (∀ W, Below w2.heap.size w2 W → W.cell? ⟨wr.heap.size, 0, none⟩ = some (.int .i64 (x : Int)) ∧ W.cell? ⟨wr.heap.size, 1, none⟩ = some (.int .i64 (y : Int))) := Lib.hid fun W hW => hbx.below hW
      have hown : ∀ k, sv.ownBlock = some k → k < wr.heap.size := fun k hk => (World.ownsRow.lt HO.out.2 k hk).2
      have HGR : Hid (∀ W w7, Below w2.heap.size w2 W → W.grownBy w7 sv.ownBlock → w7.cell? ⟨wr.heap.size, 0, none⟩ = some (.int .i64 (x : Int)) ∧ w7.cell? ⟨wr.heap.size, 1, none⟩ = some (.int .i64 (y : Int))) := Lib.hid fun W w7 hW h7 => by
        obtain ⟨k0, k1⟩ := hbx.below hW
        have hne : some wr.heap.size ≠ sv.ownBlock := fun e => by have := hown _ e.symm; omega
        exact ⟨h7.cell k0 hne, h7.cell k1 hne⟩
      have HBe : ∀ k, sv.ownBlock = some k → w.heap.size ≤ k := fun k hk => (World.ownsRow.lt HO.out.2 k hk).1
      have HBE := Lib.hid HBe
      have HUp := Lib.hid HO.out.1
      obtain ⟨b0, b1⟩ := hbx
      simp only at b0 b1
      obtain ⟨d, hd⟩ : ∃ d : Nat, d = y - x := ⟨_, rfl⟩
      have HRL : Hid (∀ W, Calls Tryz.prog 99 #[.agg #[.int .i64 (x : Int), .int .i64 (y : Int)]] W fun e w' => e = .returned (.int .i64 (d : Int)) ∧ w' = W.alloc (.cells #[.int .i64 (x : Int), .int .i64 (y : Int)] 67)) := Lib.hid fun W => runLen_yes x y d W (by omega) HRk.out (by omega)
      have HD := Lib.hid hd
      have hdb : d ≤ 1099511627776 := by omega
      clear hw2 hb2 HO HB hown HBe hd e0 e1
      go_cut [3] (fun s wx => ∃ v, v = s ∧ Hid (OwnU wx w.heap.size v (A ++ [x - p, d])) ∧ Hid (Below w.heap.size w wx) ∧ wx.cell? ⟨wr.heap.size, 0, none⟩ = some (.int .i64 (x : Int)) ∧ wx.cell? ⟨wr.heap.size, 1, none⟩ = some (.int .i64 (y : Int)))
      case first =>
        go_region_held3 (fun W => W.cell? ⟨wr.heap.size, 0, none⟩ = some (.int .i64 (x : Int)) ∧ W.cell? ⟨wr.heap.size, 1, none⟩ = some (.int .i64 (y : Int)))
          (first | exact k7 | (refine HKP.out _ ?_; (repeat (first | exact Below.refl _ _ | refine Below.drew ?_ | refine Below.alloc ?_ (by first | (simp; done) | (simp; omega)) _)); done) | go_keep)
          (first
            | (go_at_call 99; refine (HRL.out _).mono ?_; rintro e w' ⟨rfl, rfl⟩)
            | (refine step_append_lies _ (by rfl) _ _ _ (by rfl) w.heap.size 104 i0 _ 1 8 Tryz.underlying170 hi0 hz0 hz1 hz2 rfl (by omega) sv A.length (cU A) (by rfl) (HROW.out _ (by (repeat (first | exact Below.refl _ _ | refine Below.drew ?_ | refine Below.alloc ?_ (by first | (simp; done) | (simp; omega)) _)))) ⟨w2.heap.size + 1, 0, none⟩ 2 2 [.int .u64 (IntKind.u64.wrap (IntKind.i64.wrap ((x : Int) - (p : Int)))), .int .u64 (IntKind.u64.wrap (d : Int))] (by rfl) (by rfl) (World.news_of_block (cs := #[.int .u64 (IntKind.u64.wrap (IntKind.i64.wrap ((x : Int) - (p : Int)))), .int .u64 (IntKind.u64.wrap (d : Int))]) (t := 104) (fr := (0, 0)) (by exact heap_alloc2' w2 _ _)) (by simp [Value.oneCell']) (by omega) (by unfold maxLen; omega) (by omega) (by have := HB2.out.size; simp; omega) _ rfl ?_; intro gg cap w7 hown hgrow hat hlt7; have k7 := HGR.out _ _ (by (repeat (first | exact Below.refl _ _ | refine Below.drew ?_ | refine Below.alloc ?_ (by first | (simp; done) | (simp; omega)) _))) hgrow))
        go_wp2_with fail
        go_meet
        refine ⟨_, rfl, Lib.hid ⟨?_, ?_⟩, Lib.hid ?_, k7.1, k7.2⟩
        · intro z hz
          rcases List.mem_append.1 hz with h | h
          · exact HUp.out z h
          · simp only [List.mem_cons, List.not_mem_nil, or_false] at h
            rcases h with rfl | rfl <;> omega
        · rw [cU_append, List.length_append]
          have e1 : cU [x - p, d] = [.int .u64 (IntKind.u64.wrap (IntKind.i64.wrap ((x : Int) - (p : Int)))), .int .u64 (IntKind.u64.wrap (d : Int))] := by
            have a1 : IntKind.u64.wrap (IntKind.i64.wrap ((x : Int) - (p : Int))) = ((x - p : Nat) : Int) := by
              rw [IntKind.wrap_i64, IntKind.wrap_u64]; omega
            have a2 : IntKind.u64.wrap (d : Int) = (d : Int) := by rw [IntKind.wrap_u64]; omega
            rw [a1, a2]
            rfl
          rw [e1]
          exact hown
        · refine (((HB2.out.alloc HB2.out.size _).alloc (by have := HB2.out.size; simp; omega) _).drew).grown hgrow (by have := HB2.out.size; simp; omega) HBE.out
      case rest =>
        obtain ⟨v3, rfl, HO3, HB3, k0, k1⟩ := hcut
        clear HROW HKP HGR HBE HRL HB2 b0 b1
        go_wp2
        go_roundg (n - (j + 1))
        case measure => have := HK.out; omega
        case rel => exact ⟨j + 1, y, _, rfl, rfl, by omega, by go_num, rfl, HLast, Lib.hid (by rw [HNum.out, ← HD.out]; exact HO3.out), HB3⟩
    · obtain rfl : j = n := by omega
      have h1 := HO.out
      rw [List.take_of_length_le (by have := HR.out.1; omega)] at h1
      have h2 : j :: numsGo 0 M = setNums M := by unfold setNums; rw [HR.out.1]
      rw [h2] at h1
      obtain ⟨a1, c1, hv, hrd⟩ := h1.rd
      obtain ⟨q, hq⟩ : ∃ q, q = (setNums M).length := ⟨_, rfl⟩
      rw [← hq] at hrd hv
      have hq2 : q ≤ 1000 := by
        rw [hq]; unfold setNums
        rw [List.length_cons, numsGo_length, HR.out.1]
        omega
      subst hv
      have HRd := Lib.hid hrd
      clear h1 h2 hrd hq
      go_wp2_with fail
      refine (put_any none 0 0 [] a1 q c1 (setNums M) wr ⟨rfl, by simp, by omega⟩ HRd.out (by omega) hq2).mono ?_
      rintro e w2 ⟨v, rfl, ho2, hb2⟩
      rw [List.nil_append] at ho2
      have HO2 := Lib.hid ho2
      have HB2 := Lib.hid hb2
      clear ho2 hb2
      go_wp2
      go_ret
      refine ⟨v, rfl, ⟨HO2.out.1, World.ownsRow.mono HO2.out.2 HB.out.size⟩, HB.out.trans (HB2.out.mono HB.out.size)⟩

end Go.Proofs.YtaijjogjohbheaaGreat
