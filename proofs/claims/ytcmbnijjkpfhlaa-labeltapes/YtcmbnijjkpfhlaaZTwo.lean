/- The program's tape and the document's, side by side, among other things: what was there ahead of w and is not in Z stays. -/
import Derived.Test.YtcmbnijjkpfhlaaGModelPut
import Derived.Test.YtcmbnijjkpfhlaaGTapeGetNew
import Derived.Test.YtcmbnijjkpfhlaaKeep
namespace Go.Proofs.Ytcmbnijjkpfhlaa
open Go.RowKit
set_option linter.unusedSimpArgs false

/-- The document's Put, whatever the piece. -/
theorem mput_any (w : World) (gm gq : Nat) (s : Pw) (t : Tst) (F A : List Nat) (hM : Mta w gm t F) (hP : MP w gq s) (hgq : gq ∉ F) (a : Option Addr) (n c : Nat) (l : List Nat) (mk : Bool) (hmk : mk = true → n = 0) (hrd : Rd w a n l) (hab : 0 < n → ∀ b o, a = some ⟨b, o, none⟩ → b ∈ A ∧ b ≠ gm ∧ b ≠ gq) (hnc : n ≤ c) (hok : s.ok) (hnw : t.nw.length ≤ 1000000) :
    Calls Try.prog 25 #[.pointer (some ⟨gm, 0, none⟩), .pointer (some ⟨gq, 0, none⟩), .agg #[.slice a n c, .bool mk]] w fun e w' => e = .returned (.int .i64 ((Tst.mput s t mk l).2.2 : Int)) ∧ ∃ F', Mta w' gm (Tst.mput s t mk l).2.1 F' ∧ MP w' gq (Tst.mput s t mk l).1 ∧ Save [gm, gq] w w' ∧ ∀ k ∈ F', k ∈ F ∨ k ∈ A ∨ w.heap.size ≤ k := by
  have hln := hrd.1
  have hsame : ∀ w', Save [] w w' → ∃ F', Mta w' gm t F' ∧ MP w' gq s ∧ Save [gm, gq] w w' ∧ ∀ k ∈ F', k ∈ F ∨ k ∈ A ∨ w.heap.size ≤ k := fun w' hs => ⟨F, hM.save hs (by simp), hP.save hs (by simp), hs.mono (by simp), fun k hk => .inl hk⟩
  by_cases h1 : mk = false ∧ n = 0
  · have e : Tst.mput s t mk l = (s, t, 1) := by unfold Tst.mput; rw [if_pos ⟨h1.1, by omega⟩]
    rw [e]
    obtain ⟨rfl, rfl⟩ := h1
    refine (mput_arg w gm gq a c).mono ?_
    rintro e w' ⟨rfl, hs⟩
    exact ⟨rfl, hsame w' hs⟩
  have h1' : mk = true ∨ 0 < n := by
    cases mk with
    | true => exact .inl rfl
    | false => exact .inr (Nat.pos_of_ne_zero fun h => h1 ⟨rfl, h⟩)
  by_cases h2 : 200 < n
  · have e : Tst.mput s t mk l = (s, t, 5) := by unfold Tst.mput; rw [if_neg (by rw [hln]; exact h1), if_pos (by omega)]
    rw [e]
    refine (mput_long w gm gq a n c mk h2).mono ?_
    rintro e w' ⟨rfl, hs⟩
    exact ⟨rfl, hsame w' hs⟩
  have e : Tst.mput s t mk l = Tst.write s t l := by unfold Tst.mput; rw [if_neg (by rw [hln]; exact h1), if_neg (by omega)]
  rw [e]
  have h2' : n ≤ 200 := by omega
  by_cases ho' : s.on = false
  · have e : Tst.write s t l = (s, t, 11) := by unfold Tst.write; rw [if_pos ho']
    rw [e]
    refine (mput_off w gm gq s hP a n c mk h2' h1' ho').mono ?_
    rintro e w' ⟨rfl, hs⟩
    exact ⟨rfl, hsame w' hs⟩
  have ho : s.on = true := by simpa using ho'
  by_cases hf : t.room < t.used + (4 + n)
  · have e : Tst.write s t l = (s, t, 9) := by unfold Tst.write; rw [if_neg ho', hln, if_pos hf]
    rw [e]
    refine (mput_end w gm gq s t F hM hP a n c mk h2' h1' ho hf).mono ?_
    rintro e w' ⟨rfl, hs⟩
    exact ⟨rfl, hsame w' hs⟩
  have hfit : t.used + (4 + n) ≤ t.room := by omega
  rcases write_cases ho (4 + n) with ⟨hE, hM0⟩ | ⟨k, hk, hM0, hE⟩
  · by_cases hin : (t.pos : Int) ∈ t.nw
    · cases mk with
      | true => exact mroom_in_t w gm gq s t F A hM hP hgq a n c l hrd hab hnc ho hok h2' (hmk rfl) hfit hnw hE hM0 hin
      | false => exact mroom_in_f w gm gq s t F A hM hP hgq a n c l hrd hab hnc ho hok h2' (h1'.elim (fun h => by cases h) id) hfit hnw hE hM0 hin
    · cases mk with
      | true => exact mroom_ok_t w gm gq s t F A hM hP hgq a n c l hrd hab hnc ho hok h2' (hmk rfl) hfit hnw hE hM0 hin
      | false => exact mroom_ok_f w gm gq s t F A hM hP hgq a n c l hrd hab hnc ho hok h2' (h1'.elim (fun h => by cases h) id) hfit hnw hE hM0 hin
  · by_cases hk4 : k ≤ 4
    · cases mk with
      | true => exact mroom_fall_t w gm gq s t F A hM hP hgq a n c l hrd hab hnc ho hok h2' (hmk rfl) hfit hnw k hE hM0 hk4
      | false => exact mroom_fall_f w gm gq s t F A hM hP hgq a n c l hrd hab hnc ho hok h2' (h1'.elim (fun h => by cases h) id) hfit hnw k hE hM0 hk4
    · cases mk with
      | true => have := hmk rfl; omega
      | false => exact mroom_torn w gm gq s t F A hM hP hgq a n c l hrd hab hnc ho hok h2' (h1'.elim (fun h => by cases h) id) hfit hnw k hk hE hM0 (by omega)

def Pw.within (s : Pw) (N : Nat) : Prop := (∀ k t, s.plan = some (k, t) → k < 9223372036854775808) ∧ s.count ≤ N

theorem Pw.within.ok {s : Pw} {N : Nat} (h : s.within N) (hN : N ≤ 1000000) : s.ok := ⟨h.1, Nat.lt_of_le_of_lt h.2 (by omega)⟩

theorem Pw.within.mono {s : Pw} {N M : Nat} (h : s.within N) (hN : N ≤ M) : s.within M := ⟨h.1, Nat.le_trans h.2 hN⟩

theorem Pw.within.write {s : Pw} {N : Nat} (h : s.within N) (m : Int) : (s.write m).1.within (N + 1) := by
  obtain ⟨on, plan, count⟩ := s
  obtain ⟨h1, h2⟩ := h
  simp only at h1 h2
  unfold Pw.write
  split
  · exact ⟨h1, by simp only; omega⟩
  · split
    · exact ⟨h1, by simp only; omega⟩
    · split
      · exact ⟨by simp, by simp only; omega⟩
      · exact ⟨by simp, by simp only; omega⟩
      · rename_i k t hp
        refine ⟨?_, by simp only; omega⟩
        intro j u e
        simp only [Option.some.injEq, Prod.mk.injEq] at e
        have := h1 (k + 1) t hp
        omega

theorem Pw.within.planned {s : Pw} {N : Nat} (h : s.within N) {a : Int} (t : Int) (ha : a < 9223372036854775808) : (s.planned a t).within N := by
  refine ⟨fun k t' e => ?_, h.2⟩
  by_cases h0 : 0 ≤ a
  · rw [planned_yes _ _ h0] at e; simp at e; omega
  · rw [planned_no _ _ (by omega)] at e; cases e

theorem Pw.within.up {s : Pw} {N : Nat} (h : s.within N) : s.up.within N := ⟨fun k t e => (by cases e), h.2⟩

/-- What a tape's plan is stays. -/
def Tst.like (t t' : Tst) : Prop := t'.room = t.room ∧ t'.early = t.early ∧ t'.nw = t.nw ∧ t'.nr = t.nr

theorem Tst.like_refl (t : Tst) : Tst.like t t := ⟨rfl, rfl, rfl, rfl⟩
theorem Tst.like_trans {t t' t'' : Tst} (h : Tst.like t t') (h' : Tst.like t' t'') : Tst.like t t'' := ⟨h'.1.trans h.1, h'.2.1.trans h.2.1, h'.2.2.1.trans h.2.2.1, h'.2.2.2.trans h.2.2.2⟩

theorem write_like (s : Pw) (t : Tst) (l : List Nat) (N : Nat) (h : s.within N) : Tst.like t (Tst.write s t l).2.1 ∧ (Tst.write s t l).1.within (N + 1) := by
  unfold Tst.write
  split
  · exact ⟨Tst.like_refl t, h.mono (by omega)⟩
  · split
    · exact ⟨Tst.like_refl t, h.mono (by omega)⟩
    · split
      · split
        · exact ⟨⟨rfl, rfl, rfl, rfl⟩, h.write _⟩
        · exact ⟨⟨rfl, rfl, rfl, rfl⟩, h.write _⟩
      · split
        · exact ⟨⟨rfl, rfl, rfl, rfl⟩, h.write _⟩
        · exact ⟨⟨rfl, rfl, rfl, rfl⟩, h.write _⟩

theorem mput_put (s : Pw) (t : Tst) (l : List Nat) : Tst.mput s t false l = Tst.put s t l := by
  unfold Tst.mput Tst.put
  simp

theorem mput_mark (s : Pw) (t : Tst) : Tst.mput s t true [] = Tst.write s t [] := by
  unfold Tst.mput
  simp

theorem put_like (s : Pw) (t : Tst) (l : List Nat) (N : Nat) (h : s.within N) : Tst.like t (Tst.put s t l).2.1 ∧ (Tst.put s t l).1.within (N + 1) := by
  unfold Tst.put
  split
  · exact ⟨Tst.like_refl t, h.mono (by omega)⟩
  · split
    · exact ⟨Tst.like_refl t, h.mono (by omega)⟩
    · exact write_like s t l N h

theorem get_like (s : Pw) (t : Tst) : Tst.like t (Tst.get s t).1 := by
  unfold Tst.get
  split
  · exact Tst.like_refl t
  · split
    · exact Tst.like_refl t
    · split
      · exact Tst.like_refl t
      · split <;> exact ⟨rfl, rfl, rfl, rfl⟩

theorem seek_like (s : Pw) (t : Tst) (z : Int) : Tst.like t (Tst.seek s t z).1 := by
  unfold Tst.seek
  split
  · exact Tst.like_refl t
  · split
    · exact Tst.like_refl t
    · exact ⟨rfl, rfl, rfl, rfl⟩

theorem skip_like (s : Pw) (t : Tst) (z : Int) : Tst.like t (Tst.skip s t z).1 := by
  unfold Tst.skip
  split
  · exact Tst.like_refl t
  · split
    · exact Tst.like_refl t
    · split
      · exact Tst.like_refl t
      · exact ⟨rfl, rfl, rfl, rfl⟩

theorem Save.keep {Z Y : List Nat} {w W W' : World} (h : Save Z w W) (hs : Save Y W W') (hY : ∀ k ∈ Y, k ∈ Z ∨ w.heap.size ≤ k) : Save Z w W' :=
  ⟨hs.os.trans h.os, hs.tape.trans h.tape, hs.output.trans h.output, Nat.le_trans h.size hs.size, fun k hk hx => (hs.block k (Nat.lt_of_lt_of_le hk h.size) (fun hy => (hY k hy).elim hx (fun h => by omega))).trans (h.block k hk hx)⟩

/-- A tape among other things: what it has is in Z, or lies behind w. -/
structure Liv (Z : List Nat) (w W : World) (gt gp : Nat) (s : Pw) (t : Tst) (F : List Nat) : Prop where
  tap : Tap W gt gp s t F
  own : ∀ k ∈ F, k ∈ Z ∨ w.heap.size ≤ k
  gpo : gp ∈ Z ∨ w.heap.size ≤ gp
  bel : Save Z w W

section
variable {Z : List Nat} {w W W' : World} {gt gp : Nat} {s s' : Pw} {t t' : Tst} {F F' : List Nat}

theorem Liv.later (h : Liv Z w W gt gp s t F) (hb : Below W.heap.size W W') : Liv Z w W' gt gp s t F :=
  ⟨h.tap.later hb, h.own, h.gpo, h.bel.trans (Save.of_below hb _)⟩

theorem Liv.gplt (h : Liv Z w W gt gp s t F) : gp < W.heap.size := by
  obtain ⟨v, X, bW, bR, h⟩ := h.tap
  exact h.pow.lt

theorem Liv.fl (h : Liv Z w W gt gp s t F) : ∀ k ∈ F, k < W.heap.size := by
  obtain ⟨v, X, bW, bR, h⟩ := h.tap
  exact h.fl

theorem Liv.belF (h : Liv Z w W gt gp s t F) (hs : Save (gp :: F) W W') : Save Z w W' := by
  refine h.bel.keep hs ?_
  intro k hk
  simp only [List.mem_cons] at hk
  rcases hk with rfl | hk
  · exact h.gpo
  · exact h.own k hk

theorem Liv.next (h : Liv Z w W gt gp s t F) (hT : Tap W' gt gp s' t' F') (hs : Save (gp :: F) W W') (hF : ∀ k ∈ F', k ∈ F ∨ W.heap.size ≤ k) : Liv Z w W' gt gp s' t' F' :=
  ⟨hT, fun k hk => (hF k hk).elim (h.own k) (fun h2 => .inr (Nat.le_trans h.bel.size h2)), h.gpo, h.belF hs⟩

end

/-- The program's tape, and the document's; what is theirs lies apart, and in Z, or behind w. -/
structure Two (Z : List Nat) (w W : World) (gt gp gm gq : Nat) (sp : Pw) (tp : Tst) (F : List Nat) (sm : Pw) (tm : Tst) (G : List Nat) : Prop where
  liv : Liv Z w W gt gp sp tp F
  mod : Mta W gm tm G
  mpw : MP W gq sm
  gown : ∀ k ∈ G, k ∈ Z ∨ w.heap.size ≤ k
  gqo : gq ∈ Z ∨ w.heap.size ≤ gq
  gqG : gq ∉ G
  gqF : gq ∉ gp :: F
  dis : ∀ k ∈ G, k ∉ gp :: F

section
variable {Z : List Nat} {w W W' : World} {gt gp gm gq : Nat} {sp sp' sm sm' : Pw} {tp tp' tm tm' : Tst} {F F' G G' A Y : List Nat}

theorem Two.gmG (h : Two Z w W gt gp gm gq sp tp F sm tm G) : gm ∈ G := by
  obtain ⟨v, X, aW, aR, nW, cW, nR, cR, h⟩ := h.mod
  exact h.ft

theorem Two.save (h : Two Z w W gt gp gm gq sp tp F sm tm G) (hS : Save Y W W') (hY : ∀ k ∈ Y, (k ∈ Z ∨ w.heap.size ≤ k) ∧ k ∉ gp :: F ∧ k ∉ G ∧ k ≠ gq) : Two Z w W' gt gp gm gq sp tp F sm tm G := by
  have hb : Save Z w W' := h.liv.bel.keep hS (fun k hk => (hY k hk).1)
  refine ⟨⟨h.liv.tap.save hS (fun k hk hy => (hY k hy).2.1 (by simp [hk])) (fun hy => (hY gp hy).2.1 (by simp)), h.liv.own, h.liv.gpo, hb⟩, h.mod.save hS (fun k hk hy => (hY k hy).2.2.1 hk), h.mpw.save hS (fun hy => (hY gq hy).2.2.2 rfl), h.gown, h.gqo, h.gqG, h.gqF, h.dis⟩

theorem Two.later (h : Two Z w W gt gp gm gq sp tp F sm tm G) (hb : Below W.heap.size W W') : Two Z w W' gt gp gm gq sp tp F sm tm G :=
  h.save (Y := []) (Save.of_below hb _) (by simp)

theorem Two.prog (h : Two Z w W gt gp gm gq sp tp F sm tm G) (hT : Tap W' gt gp sp' tp' F') (hS : Save (gp :: F) W W') (hF : ∀ k ∈ F', k ∈ F ∨ W.heap.size ≤ k) : Two Z w W' gt gp gm gq sp' tp' F' sm tm G := by
  have hfl := h.mod.fl
  have hq := h.mpw.lt
  have hnot : ∀ k, k < W.heap.size → k ∉ gp :: F → k ∉ gp :: F' := by
    intro k hk hn
    simp only [List.mem_cons, not_or] at hn ⊢
    exact ⟨hn.1, fun hF' => (hF k hF').elim hn.2 (fun h => by omega)⟩
  exact ⟨h.liv.next hT hS hF, h.mod.save hS h.dis, h.mpw.save hS h.gqF, h.gown, h.gqo, h.gqG, hnot gq hq h.gqF, fun k hk => hnot k (hfl k hk) (h.dis k hk)⟩

theorem Two.model (h : Two Z w W gt gp gm gq sp tp F sm tm G) (hM : Mta W' gm tm' G') (hP : MP W' gq sm') (hS : Save [gm, gq] W W') (hG : ∀ k ∈ G', k ∈ G ∨ k ∈ A ∨ W.heap.size ≤ k) (hA : ∀ k ∈ A, (k ∈ Z ∨ w.heap.size ≤ k) ∧ k ∉ gp :: F ∧ k ≠ gq) : Two Z w W' gt gp gm gq sp tp F sm' tm' G' := by
  have hgm := h.dis gm h.gmG
  have hfl := h.liv.fl
  have hgp := h.liv.gplt
  have hq := h.mpw.lt
  have hX : ∀ k ∈ F, k ∉ [gm, gq] := by
    intro k hk
    simp only [List.mem_cons, List.not_mem_nil, or_false, not_or]
    exact ⟨by rintro rfl; exact hgm (by simp [hk]), by rintro rfl; exact h.gqF (by simp [hk])⟩
  have hgX : gp ∉ [gm, gq] := by
    simp only [List.mem_cons, List.not_mem_nil, or_false, not_or]
    exact ⟨by rintro rfl; exact hgm (by simp), by rintro rfl; exact h.gqF (by simp)⟩
  have hb : Save Z w W' := h.liv.bel.keep hS (by
    intro k hk
    simp only [List.mem_cons, List.not_mem_nil, or_false] at hk
    rcases hk with rfl | rfl
    · exact h.gown _ h.gmG
    · exact h.gqo)
  refine ⟨⟨h.liv.tap.save hS hX hgX, h.liv.own, h.liv.gpo, hb⟩, hM, hP, ?_, h.gqo, ?_, h.gqF, ?_⟩
  · intro k hk
    rcases hG k hk with h1 | h1 | h1
    · exact h.gown k h1
    · exact (hA k h1).1
    · exact .inr (Nat.le_trans h.liv.bel.size h1)
  · intro hk
    rcases hG gq hk with h1 | h1 | h1
    · exact h.gqG h1
    · exact (hA gq h1).2.2 rfl
    · omega
  · intro k hk
    rcases hG k hk with h1 | h1 | h1
    · exact h.dis k h1
    · exact (hA k h1).2.1
    · simp only [List.mem_cons, not_or]
      exact ⟨by omega, fun hF => by have := hfl k hF; omega⟩

end

end Go.Proofs.Ytcmbnijjkpfhlaa
