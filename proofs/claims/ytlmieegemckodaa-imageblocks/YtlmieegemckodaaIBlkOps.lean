/- Put and Clear of an image, whatever the number and the bytes. -/
import Derived.Test.YtlmieegemckodaaIMade
import Derived.OpenShut
namespace Go.Proofs.Ytlmieegemckodaa
open Go.RowKit

/-- Whether a Put, a Clear goes through. -/
def okP (i : Int) (m : Nat) : Bool := decide (0 ≤ i ∧ i < 256 ∧ m ≤ 32)
def okC (i : Int) : Bool := decide (0 ≤ i ∧ i < 256)
def errB (k : Bool) : Int := if k then 0 else 1
def putF (k : Bool) (F : List (List Nat)) (i : Int) (x : List Nat) : List (List Nat) := if k then F.set i.toNat (padB x) else F
def clrF (k : Bool) (F : List (List Nat)) (i : Int) : List (List Nat) := if k then F.set i.toNat [] else F

theorem putR_any (w : World) (g b n : Nat) (F : List (List Nat)) (i : Int) (a : Option Addr) (m c : Nat) (x : List Nat) (h : Img w g b n F) (hn : n < 100000) (hr : Rd w a m x) :
    Calls Try.prog 9 #[.pointer (some ⟨g, 0, none⟩), .int .i64 i, .slice a m c] w fun e w' => ∃ n', e = .returned (.int .i64 (errB (okP i m))) ∧ n' ≤ n + 1 ∧ Img w' g b n' (putF (okP i m) F i x) ∧ Save [b] w w' := by
  by_cases hk : 0 ≤ i ∧ i < 256 ∧ m ≤ 32
  · have e : okP i m = true := by simp [okP]; omega
    rw [e]
    have ej : i = ((i.toNat : Nat) : Int) := by omega
    have h1 := imgPut_yes w g b n F i.toNat a m c x h hn (by omega) hk.2.2 hr
    rw [← ej] at h1
    refine h1.mono ?_
    rintro e w' ⟨rfl, h2, h3⟩
    exact ⟨n + 1, rfl, Nat.le_refl _, h2, h3⟩
  · have e : okP i m = false := by simp [okP]; omega
    rw [e]
    refine (imgPut_no w g b n F i a m c h (by omega)).mono ?_
    rintro e w' ⟨rfl, rfl⟩
    exact ⟨n, rfl, by omega, h, Save.refl _ _⟩

theorem clearR_any (w : World) (g b n : Nat) (F : List (List Nat)) (i : Int) (h : Img w g b n F) :
    Calls Try.prog 10 #[.pointer (some ⟨g, 0, none⟩), .int .i64 i] w fun e w' => e = .returned (.int .i64 (errB (okC i))) ∧ Img w' g b n (clrF (okC i) F i) ∧ Save [b] w w' := by
  by_cases hk : 0 ≤ i ∧ i < 256
  · have e : okC i = true := by simp [okC]; omega
    rw [e]
    have ej : i = ((i.toNat : Nat) : Int) := by omega
    have h1 := clear_yes w g b n F i.toNat h (by omega)
    rw [← ej] at h1
    refine h1.mono ?_
    rintro e w' ⟨rfl, h2, h3⟩
    exact ⟨rfl, h2, h3⟩
  · have e : okC i = false := by simp [okC]; omega
    rw [e]
    refine (clear_no w g b n F i h (by omega)).mono ?_
    rintro e w' ⟨rfl, rfl⟩
    exact ⟨rfl, h, Save.refl _ _⟩

theorem wrap_next {I : Int} (h : (Lit.int .i64 I).wf = true) : okC (IntKind.i64.wrap (I + 1)) = decide (-1 ≤ I ∧ I < 255) ∧ (okC (IntKind.i64.wrap (I + 1)) = true → IntKind.i64.wrap (I + 1) = I + 1) := by
  have hb := bounds_i64 h
  rw [IntKind.wrap_i64]
  refine ⟨?_, fun hk => ?_⟩
  · unfold okC
    refine decide_eq_decide.2 ?_
    omega
  · unfold okC at hk
    have := of_decide_eq_true hk
    omega

end Go.Proofs.Ytlmieegemckodaa
