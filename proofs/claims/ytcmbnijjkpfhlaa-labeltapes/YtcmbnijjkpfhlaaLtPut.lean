/- A tape of a library labelled: the contract of Put, over any world. -/
import Derived.Test.YtcmbnijjkpfhlaaLtInv
import Derived.Test.YtcmbnijjkpfhlaaLbBytes
namespace Go.Proofs.Ytcmbnijjkpfhlaa
open Go.RowKit
set_option linter.unusedSimpArgs false

/-- A block put, and a mark behind it. -/
def labPut (s : Pw) (t : Tst) (B : List Nat) : Pw × Tst × Nat :=
  if (Tst.put s t B).2.2 = 0 then Tst.write (Tst.put s t B).1 (Tst.put s t B).2.1 [] else Tst.put s t B

/-- The position that is returned. -/
def labPos (R : Pw × Tst × Nat) : Nat := if R.2.2 = 0 then R.2.1.pos else 0

section
variable {w W : World} {gl gp gt gm gq : Nat} {sp sm : Pw} {tp tm : Tst}

set_option maxHeartbeats 1000000 in
set_option maxRecDepth 100000 in
/-- A label that may not be. -/
theorem lput_no (h : Duos w W gl gp gt gm gq sp tp sm tm) (z : Int) (x : Lab) (hf : x.fits) (hl : x.p.length ≤ 1000000) (hok : x.ok = false) :
    Calls Try.prog 24 #[.pointer (some ⟨gl, 0, none⟩), .int .i64 z, lbV x] W fun e W' => e = .returned (.tuple #[.int .i64 0, .int .i64 1]) ∧ Hid (Duos w W' gl gp gt gm gq sp tp sm tm ∧ Below W.heap.size W W') := by
  have HB : Hid (∀ W1, Below W.heap.size W W1 → Calls Try.prog 8 #[lbV x] W1 fun e w' => e = .returned (.tuple #[.slice none 0 0, .int .i64 1]) ∧ Hid (Below W.heap.size W w')) := by
    refine Lib.hid fun W1 hW => (lbytes_any x W1 hf hl).mono ?_
    rintro e w' ⟨hb, h⟩
    rcases h with ⟨_, he⟩ | ⟨h, _⟩
    · exact ⟨he, Lib.hid (hW.trans (hb.mono hW.size))⟩
    · rw [hok] at h; cases h
  have HD := Lib.hid h
  clear h hf hl hok
  obtain ⟨p, g, m⟩ := x
  simp only [lbV] at HB ⊢
  go_enter Try.func24, Try.ntmps24
  go_wp2_with fail
  refine (HB.out _ (Below.alloc0 _ _)).mono ?_
  rintro e W2 ⟨rfl, HB2⟩
  go_wp2
  go_ret2
  exact ⟨rfl, Lib.hid ⟨HD.out.later HB2.out, HB2.out⟩⟩

set_option maxHeartbeats 1000000 in
set_option maxRecDepth 100000 in
/-- A slot that isn't there. -/
theorem lput_slot (h : Duos w W gl gp gt gm gq sp tp sm tm) (z : Int) (hz : z ≠ 0) (x : Lab) (hf : x.fits) (hl : x.p.length ≤ 1000000) (hok : x.ok = true) :
    Calls Try.prog 24 #[.pointer (some ⟨gl, 0, none⟩), .int .i64 z, lbV x] W fun e W' => e = .returned (.tuple #[.int .i64 0, .int .i64 1]) ∧ Hid (Duos w W' gl gp gt gm gq sp tp sm tm ∧ Below W.heap.size W W') := by
  have HB : Hid (∀ W1, Below W.heap.size W W1 → Calls Try.prog 8 #[lbV x] W1 fun e w' => ∃ a c, e = .returned (.tuple #[.slice a x.bytes.length c, .int .i64 0]) ∧ Hid (Below W.heap.size W w')) := by
    refine Lib.hid fun W1 hW => (lbytes_any x W1 hf hl).mono ?_
    rintro e w' ⟨hb, h⟩
    rcases h with ⟨h, _⟩ | ⟨_, a, c, he, _⟩
    · rw [hok] at h; cases h
    · exact ⟨a, c, he, Lib.hid (hW.trans (hb.mono hW.size))⟩
  have HD := Lib.hid h
  have HL : Hid (∀ W1, Below W.heap.size W W1 → Calls Try.prog 20 #[.pointer (some ⟨gl, 0, none⟩), .int .i64 z] W1 fun e W' => e = .returned (.int .i64 1) ∧ W' = W1) := Lib.hid fun W1 hW => (h.later hW).loadNo z hz
  obtain ⟨n, hn⟩ : ∃ n, n = x.bytes.length := ⟨_, rfl⟩
  rw [← hn] at HB
  clear h hf hl hok hn hz
  obtain ⟨p, g, m⟩ := x
  simp only [lbV] at HB ⊢
  go_enter Try.func24, Try.ntmps24
  go_wp2_with fail
  refine (HB.out _ (Below.alloc0 _ _)).mono ?_
  rintro e W2 ⟨a, c, rfl, HB2⟩
  go_wp2_with fail
  refine (HL.out _ HB2.out).mono ?_
  rintro e _ ⟨rfl, rfl⟩
  go_wp2
  go_ret2
  exact ⟨rfl, Lib.hid ⟨HD.out.later HB2.out, HB2.out⟩⟩

set_option maxHeartbeats 2000000 in
set_option maxRecDepth 100000 in
/-- The tape labelled. -/
theorem lput_yes (h : Duos w W gl gp gt gm gq sp tp sm tm) (ho : sp.on = true) (N : Nat) (hwi : sp.within N) (hN : N + 1 ≤ 1000000) (x : Lab) (hf : x.fits) (hl : x.p.length ≤ 1000000) (hok : x.ok = true) :
    Calls Try.prog 24 #[.pointer (some ⟨gl, 0, none⟩), .int .i64 0, lbV x] W fun e W' => e = .returned (.tuple #[.int .i64 (labPos (labPut sp tp.rewound x.bytes) : Int), .int .i64 ((labPut sp tp.rewound x.bytes).2.2 : Int)]) ∧ Hid (Duos w W' gl gp gt gm gq (labPut sp tp.rewound x.bytes).1 (labPut sp tp.rewound x.bytes).2.1 sm tm) := by
  obtain ⟨g, t, F, v, H, G, h⟩ := h
  have HB : Hid (∀ W1, Below W.heap.size W W1 → Calls Try.prog 8 #[lbV x] W1 fun e w' => ∃ a c, e = .returned (.tuple #[.slice a x.bytes.length c, .int .i64 0]) ∧ Hid (Below W.heap.size W w' ∧ Rd w' a x.bytes.length x.bytes ∧ x.bytes.length ≤ c ∧ ∀ b o, a = some ⟨b, o, none⟩ → W.heap.size ≤ b)) := by
    refine Lib.hid fun W1 hW => (lbytes_any x W1 hf hl).mono ?_
    rintro e w' ⟨hb, h⟩
    rcases h with ⟨h, _⟩ | ⟨_, a, c, he, hO⟩
    · rw [hok] at h; cases h
    · obtain ⟨a', c', hv, hr, hc, hlo⟩ := hO.lies
      injection hv with e1 e2 e3
      subst e1 e3
      exact ⟨a, c, he, Lib.hid ⟨hW.trans (hb.mono hW.size), hr, hc, fun b o e => Nat.le_trans hW.size (hlo b o e)⟩⟩
  have HL : Hid (∀ W1, Below W.heap.size W W1 → Calls Try.prog 20 #[.pointer (some ⟨gl, 0, none⟩), .int .i64 0] W1 fun e W' => e = .returned (.int .i64 0) ∧ W'.cell? ⟨gl, 0, none⟩ = some (.pointer (some ⟨gt, 0, none⟩)) ∧ Hid ((∃ t', Duo w W' gl gp gt gm gq sp tp.rewound sm tm g t' F v H G) ∧ Save H W1 W')) := by
    refine Lib.hid fun W1 hW => ?_
    have h1 := h.later hW
    refine (load_yes h1.lib 0 (by omega) ho).mono ?_
    rintro e W' ⟨rfl, h2, h3⟩
    have h4 := h1.libr h2 h1.gt0 (tp' := tp.rewound) (by rw [upd_same, h1.tp0]) (h3.mono (by simp +contextual)) (fun k hk => .inl hk)
    exact ⟨rfl, h4.drive, Lib.hid ⟨⟨_, h4⟩, h3⟩⟩
  have HLT : Hid (∀ k ∈ gp :: H, k < W.heap.size) := Lib.hid fun k hk => (h.lts k (.inl hk)).2
  have HFH : Hid (∀ k ∈ gp :: F 0, k ∈ gp :: H) := Lib.hid fun k hk => by
    simp only [List.mem_cons] at hk ⊢
    exact hk.imp id (fun hk => (h.lib.fit 0 (by omega) k hk).1)
  have hpl := put_like sp tp.rewound x.bytes N hwi
  have HOK1 := Lib.hid (hwi.ok (by omega))
  have HOK2 := Lib.hid (hpl.2.ok (by omega))
  obtain ⟨L, hL⟩ : ∃ L, L = x.bytes := ⟨_, rfl⟩
  rw [← hL] at HB hpl HOK2 ⊢
  obtain ⟨n, hn⟩ : ∃ n, n = L.length := ⟨_, rfl⟩
  rw [← hn] at HB
  have HR0 : Hid (labPut sp tp.rewound L = if (Tst.put sp tp.rewound L).2.2 = 0 then Tst.write (Tst.put sp tp.rewound L).1 (Tst.put sp tp.rewound L).2.1 [] else Tst.put sp tp.rewound L) := Lib.hid rfl
  obtain ⟨R, hR⟩ : ∃ R, R = labPut sp tp.rewound L := ⟨_, rfl⟩
  rw [← hR] at HR0 ⊢
  obtain ⟨A, hA⟩ : ∃ A, A = Tst.put sp tp.rewound L := ⟨_, rfl⟩
  have HA := Lib.hid hA
  rw [← hA] at HR0 HOK2
  clear h hf hl hok hn hL ho hwi hpl hR hA
  obtain ⟨p, gg, m⟩ := x
  simp only [lbV] at HB ⊢
  go_enter Try.func24, Try.ntmps24
  go_wp2_with fail
  refine (HB.out _ (Below.alloc0 _ _)).mono ?_
  rintro e W2 ⟨a, c, rfl, HB2⟩
  go_wp2_with fail
  refine (HL.out _ HB2.out.1).mono ?_
  rintro e W3 ⟨rfl, c0, H3⟩
  have HPUT : Hid (Calls Try.prog 42 #[.pointer (some ⟨gt, 0, none⟩), .slice a n c] W3 fun e W' => e = .returned (.int .i64 (A.2.2 : Int)) ∧ Hid (Duos w W' gl gp gt gm gq A.1 A.2.1 sm tm)) := by
    obtain ⟨t', h3⟩ := H3.out.1
    have hrd := HB2.out.2.1.save H3.out.2 (fun b o e hx => by have h1 := HB2.out.2.2.2 b o e; have h2 := HLT.out b (by simp [hx]); omega)
    refine Lib.hid ((tput_any W3 gt gp sp tp.rewound (F 0) h3.tap a n c L hrd (fun _ b o e hx => by have h1 := HB2.out.2.2.2 b o e; have h2 := HLT.out b (HFH.out b hx); omega) HB2.out.2.2.1 HOK1.out).mono ?_)
    rintro e W' ⟨rfl, F', h5, h6, h7⟩
    obtain ⟨t2, F2, H', h8⟩ := h3.prog (Below.refl _ _) h5 h6 h7
    exact ⟨by rw [HA.out], Lib.hid ⟨g, t2, F2, v, H', G, by rw [HA.out]; exact h8⟩⟩
  clear HL HB
  go_wp2_with fail
  refine HPUT.out.mono ?_
  rintro e W4 ⟨rfl, H4⟩
  clear c0 HPUT
  obtain ⟨s1, t1, E1⟩ := A
  simp only at HR0 H4 HOK2 ⊢
  by_cases hE : E1 = 0
  · subst hE
    have hR : R = Tst.write s1 t1 [] := by have := HR0.out; simpa using this
    have HRR := Lib.hid hR
    clear hR
    have c0 := H4.out.drive
    have HMK : Hid (Calls Try.prog 43 #[.pointer (some ⟨gt, 0, none⟩)] W4 fun e W' => e = .returned (.int .i64 (R.2.2 : Int)) ∧ Hid (Duos w W' gl gp gt gm gq R.1 R.2.1 sm tm)) := by
      rw [HRR.out]
      exact Lib.hid ((H4.out.mark HOK2.out).mono fun e W' ⟨h1, h2⟩ => ⟨h1, Lib.hid h2⟩)
    go_wp2_with fail
    refine HMK.out.mono ?_
    rintro e W5 ⟨rfl, H5⟩
    clear c0 HMK HRR HR0
    obtain ⟨s2, t2, E2⟩ := R
    simp only at H5 ⊢
    by_cases hE2 : E2 = 0
    · subst hE2
      have c0 := H5.out.drive
      have HPL : Hid (Calls Try.prog 49 #[.pointer (some ⟨gt, 0, none⟩)] W5 fun e W' => e = .returned (.int .i64 (t2.pos : Int)) ∧ W' = W5) := Lib.hid H5.out.place
      go_wp2_with fail
      refine HPL.out.mono ?_
      rintro e _ ⟨rfl, rfl⟩
      go_wp2
      go_ret2
      exact ⟨rfl, H5⟩
    · have hE3 : ((E2 : Int) != 0) = true := by simp; omega
      have HPOS : Hid (labPos (s2, t2, E2) = 0) := Lib.hid (by simp [labPos, hE2])
      clear hE2
      go_wp2
      go_ret2
      exact ⟨by rw [HPOS.out]; rfl, H5⟩
  · have hE3 : ((E1 : Int) != 0) = true := by simp; omega
    have hR : R = (s1, t1, E1) := by have := HR0.out; simpa [hE] using this
    subst hR
    have HPOS : Hid (labPos (s1, t1, E1) = 0) := Lib.hid (by simp [labPos, hE])
    clear hE
    go_wp2
    go_ret2
    exact ⟨by rw [HPOS.out]; rfl, H4⟩

end

end Go.Proofs.Ytcmbnijjkpfhlaa
