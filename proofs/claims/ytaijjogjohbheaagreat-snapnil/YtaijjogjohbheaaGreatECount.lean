/- The contracts of counted and Of, over any world. -/
import Derived.Test.YtaijjogjohbheaaGreatERowAll
import Derived.Test.YtaijjogjohbheaaGreatESort
import Derived.BigQuiet
namespace Go.Proofs.YtaijjogjohbheaaGreat
open Go.RowKit
set_option maxRecDepth 100000

theorem dropR_cons {L : List Rn} {j : Nat} {r : Rn} (hj : j < L.length) (hr : r = L.getD j default) : L.drop j = r :: L.drop (j + 1) := by
  rw [List.drop_eq_getElem_cons hj, hr]; simp [List.getD, hj]

theorem goesOn_no {L : List Rn} {j : Nat} {x : Rn} (h : L.length ≤ j) : goesOn x (L.drop j) = false := by
  rw [List.drop_eq_nil_of_le h]; rfl

theorem goesOn_yes {L : List Rn} {j : Nat} {x : Rn} (h : j < L.length) : goesOn x (L.drop j) = decide ((L.getD j default).f = x.f) := by
  rw [dropR_cons h rfl]; rfl

set_option maxHeartbeats 2000000 in
set_option maxRecDepth 100000 in
theorem counted_any (least : Int) (a : Option Addr) (n c : Nat) (S : List Rn) (w : World) (base : Nat) (hbase : base ≤ w.heap.size) (hn : S.length = n) (hb : n ≤ 1000000) (hs1 : ∀ s ∈ S, -1 ≤ s.t ∧ s.t ≤ 1) (h : OwnR w base 179 (.slice a n c) S) :
    Calls Tryz.prog 94 #[.int .i64 least, .slice a n c] w fun e w' => ∃ v S', e = .returned v ∧ S'.Perm S ∧ RisS S' ∧ OwnR w' w.heap.size 67 v (scanS least S' 0 false 0) ∧ Below base w w' := by
  obtain ⟨i0, hi0, hz0, hz1, hz2⟩ := info_parts info_run
  have HSo := Lib.hid (sort_any a n c S w base hbase hn (by omega) h)
  have HN := Lib.hid hn
  have HS1 := Lib.hid hs1
  clear h hn hs1
  go_enter Tryz.func94, Tryz.ntmps94
  go_wp2_with fail
  refine HSo.out.mono ?_
  rintro e w1 ⟨rfl, S', hp, hri, hrd, hb1⟩
  have HP := Lib.hid hp
  have HRi := Lib.hid hri
  have HRd := Lib.hid hrd
  have HB1 := Lib.hid hb1
  have hS' : ∀ s ∈ S', -1 ≤ s.t ∧ s.t ≤ 1 := fun s hs => HS1.out s (hp.mem_iff.1 hs)
  have HS' := Lib.hid hS'
  have hsz1 : w.heap.size ≤ w1.heap.size := hb1.size
  have HSz := Lib.hid hsz1
  clear HSo hp hri hrd hb1 hS' HS1 HN hsz1
  go_wp2
  go_loopg [5, 6, 7, 8, 16] n (fun k s fr op ct i wr => ∃ (j : Nat) (f : Int) (o : Bool) (q : Int) (acc : List Rn), k = n - j ∧ j ≤ n ∧ i = .int .i64 (j : Int) ∧ fr = .int .i64 f ∧ op = .bool o ∧ ct = .int .i64 q ∧ Hid (-(j : Int) ≤ q ∧ q ≤ j) ∧ Hid (acc.length ≤ j) ∧ OwnR wr w1.heap.size 67 s acc ∧ Below w1.heap.size w1 wr ∧ Hid (acc ++ scanS least (S'.drop j) q o f = scanS least S' 0 false 0))
  case atStart => exact ⟨0, 0, false, 0, [], rfl, Nat.zero_le _, rfl, rfl, rfl, rfl, Lib.hid ⟨by omega, by omega⟩, Lib.hid (by simp), OwnR.nil _ _ _, Below.refl _ _, Lib.hid (by simp)⟩
  case round =>
    obtain ⟨j, f, o, q, acc, hk, hj, rfl, rfl, rfl, rfl, HQ, HAl, ho, hbr, HE⟩ := hrel
    have HK := Lib.hid hk
    have HO := Lib.hid ho
    have HB := Lib.hid hbr
    clear hk ho hbr
    by_cases hlt : j < n
    · have hrr := HRd.out.later HB.out
      obtain ⟨b, oo, r, rfl, hre, hbl, e0, e1⟩ := hrr.at_ (Below.refl _ _) hlt
      have hjl : j < S'.length := by have := HRd.out.1; omega
      have hst : S'.drop j = r :: S'.drop (j + 1) := dropR_cons hjl hre
      have hrt : -1 ≤ r.t ∧ r.t ≤ 1 := by rw [hre]; exact HS'.out _ (getD_mem hjl)
      have HST := Lib.hid hst
      obtain ⟨x, d⟩ := r
      simp only at e0 e1 hrt
      have HQ2 : Hid (-((j : Int) + 1) ≤ q + d ∧ q + d ≤ (j : Int) + 1) := by
        have := HQ.out
        exact Lib.hid (by omega)
      obtain ⟨q2, hq2⟩ : ∃ q2, q2 = q + d := ⟨_, rfl⟩
      have hwr : wrap64 (q + d) = q2 := by
        have := HQ.out
        rw [hq2]
        unfold wrap64
        omega
      rw [← hq2] at HQ2
      have HQE := Lib.hid hq2
      obtain ⟨G, hG⟩ : ∃ G, G = goesOn (⟨x, d⟩ : Rn) (S'.drop (j + 1)) := ⟨_, rfl⟩
      have HG := Lib.hid hG
      have HRR := Lib.hid hrr
      clear hst hre hjl hq2 hrt hG hrr
      go_upto_region 8 with fail
      rw [hwr]
      clear hwr
      obtain ⟨w2, hw2⟩ : ∃ w2, w2 = wr.alloc (.cells #[.int .i64 x, .int .i64 d] 179) := ⟨_, rfl⟩
      rw [← hw2]
      have hb2 : Below wr.heap.size wr w2 := by rw [hw2]; exact Below.alloc0 _ _
      have hbx : BoxR w2 wr.heap.size ⟨x, d⟩ := by rw [hw2]; exact BoxR.new wr x d 179
      obtain ⟨b0, b1⟩ := hbx
      simp only at b0 b1
      have HB2 : Hid (Below w1.heap.size w1 w2) := Lib.hid (HB.out.trans (hb2.mono HB.out.size))
      have HO2 := Lib.hid (HO.out.kept hb2)
      have HR2 := Lib.hid (HRR.out.later hb2)
      clear hw2 hb2 e0 e1 HO HB HRR
      go_cut [40] (fun g wx => g = .bool G ∧ Below w2.heap.size w2 wx)
      case first =>
        rcases Nat.lt_or_ge (j + 1) n with h1 | h1
        · obtain ⟨b', o', r2, he, hre, _, c0, c1⟩ := HR2.out.at_ (Below.refl _ _) h1
          injection he with he
          injection he with he1 he2
          subst he1
          subst he2
          have hg2 : G = decide (r2.f = x) := by
            rw [HG.out, goesOn_yes (by have := HR2.out.1; omega), ← hre]
          obtain ⟨y, y2⟩ := r2
          simp only at c0 c1 hg2
          have hlt' : decide ((j : Int) + 1 < (n : Int)) = true := by simp; omega
          have HG2 := Lib.hid hg2
          clear hre hg2
          go_quiet (fail)
          go_wp2_with fail
          go_meet
          exact ⟨by rw [HG2.out]; rfl, (Below.refl _ _).trans ⟨rfl, rfl, rfl, Nat.le_refl _, fun _ _ => rfl⟩⟩
        · have hlt' : decide ((j : Int) + 1 < (n : Int)) = false := by simp; omega
          go_quiet (fail)
          go_wp2_with fail
          go_meet
          exact ⟨by rw [HG.out, goesOn_no (by have := HR2.out.1; omega)], (Below.refl _ _).trans ⟨rfl, rfl, rfl, Nat.le_refl _, fun _ _ => rfl⟩⟩
      case rest =>
        obtain ⟨rfl, hb3⟩ := hcut
        have b0' : wc.cell? ⟨wr.heap.size, 0, none⟩ = some (.int .i64 x) := (hb3.cell (World.block_lt_of_cell? w2 _ b0)).trans b0
        have HO3 := Lib.hid (HO2.out.kept hb3)
        have HB3 : Hid (Below w1.heap.size w1 wc) := Lib.hid (HB2.out.trans (hb3.mono HB2.out.size))
        clear hb3 b0 b1 HO2 HB2 HR2
        cases G with
        | true =>
          go_wp2
          go_roundg (n - (j + 1))
          case measure => have := HK.out; omega
          case rel => exact ⟨j + 1, f, o, q2, acc, rfl, by omega, by go_num, rfl, rfl, rfl, Lib.hid (by have := HQ2.out; omega), Lib.hid (by have := HAl.out; omega), HO3.out, HB3.out, Lib.hid (by rw [← HE.out, HST.out, scanS, ← HG.out, if_pos rfl, HQE.out])⟩
        | false =>
          by_cases hin : least ≤ q2
          · have hin' : decide (least ≤ q2) = true := by simpa using hin
            have hsc : scanS least (S'.drop j) q o f = scanS least (S'.drop (j + 1)) q2 true (if o then f else x) := by
              rw [HST.out, scanS, ← HG.out]
              simp only [Bool.false_eq_true, if_false, ← HQE.out]
              rw [if_pos hin]
            have HSC := Lib.hid hsc
            clear hsc
            cases o with
            | true =>
              go_wp2
              go_roundg (n - (j + 1))
              case measure => have := HK.out; omega
              case rel => exact ⟨j + 1, f, true, q2, acc, rfl, by omega, by go_num, rfl, rfl, rfl, Lib.hid (by have := HQ2.out; omega), Lib.hid (by have := HAl.out; omega), HO3.out, HB3.out, Lib.hid (by rw [← HE.out, HSC.out]; rfl)⟩
            | false =>
              go_wp2
              go_roundg (n - (j + 1))
              case measure => have := HK.out; omega
              case rel => exact ⟨j + 1, x, true, q2, acc, rfl, by omega, by go_num, rfl, rfl, rfl, Lib.hid (by have := HQ2.out; omega), Lib.hid (by have := HAl.out; omega), HO3.out, HB3.out, Lib.hid (by rw [← HE.out, HSC.out]; rfl)⟩
          · have hin' : decide (least ≤ q2) = false := by simpa using hin
            have hin2 : q2 < least := by omega
            have hsc : scanS least (S'.drop j) q o f = if o then ⟨f, x⟩ :: scanS least (S'.drop (j + 1)) q2 false f else scanS least (S'.drop (j + 1)) q2 false f := by
              rw [HST.out, scanS, ← HG.out]
              simp only [Bool.false_eq_true, if_false, ← HQE.out]
              rw [if_neg hin]
            have HSC := Lib.hid hsc
            clear hsc hin
            cases o with
            | false =>
              go_wp2
              go_roundg (n - (j + 1))
              case measure => have := HK.out; omega
              case rel => exact ⟨j + 1, f, false, q2, acc, rfl, by omega, by go_num, rfl, rfl, rfl, Lib.hid (by have := HQ2.out; omega), Lib.hid (by have := HAl.out; omega), HO3.out, HB3.out, Lib.hid (by rw [← HE.out, HSC.out]; rfl)⟩
            | true =>
              have hbr2 : w1.heap.size ≤ wc.heap.size := HB3.out.size
              have hal : acc.length ≤ 1000000 := by have := HAl.out; omega
              go_wp2_with (at_builtin; have _t := hlt; refine wpList_append_own_at _ rfl (.tmp 56) (.tmp 61) 59 rfl w1.heap.size 67 i0 _ 2 16 Tryz.underlying59 hi0 hz0 hz1 hz2 rfl (by omega) _ acc.length (cR acc) rfl (HO3.out.kept (Below.alloc0 _ _)) ⟨wc.heap.size, 0, none⟩ 1 1 (cR [⟨f, x⟩]) rfl ?hlen (World.news_of_block (cs := #[.int .i64 f, .int .i64 x]) (t := 67) (fr := (0, 0)) (heap_alloc_new wc _)) ?one ?h63 ?hby ?hbase ?next)
              case hlen => rfl
              case one => exact cR_one _
              case h63 => unfold maxLen; omega
              case hby => omega
              case hbase => first | omega | (simp; omega)
              case next =>
                intro v' w' hown hg _ _
                have HO4 : Hid (OwnR w' w1.heap.size 67 v' (acc ++ [⟨f, x⟩])) := Lib.hid (OwnR.of_append rfl hown)
                have HB4 : Hid (Below w1.heap.size w1 w') := Lib.hid ((HB3.out.alloc hbr2 _).grown hg (by simp; omega) (fun k hk => (World.ownsRow.lt HO3.out k hk).1))
                clear hown hg
                go_wp2
                go_roundg (n - (j + 1))
                case measure => have := HK.out; omega
                case rel => exact ⟨j + 1, f, false, q2, acc ++ [⟨f, x⟩], rfl, by omega, by go_num, rfl, rfl, rfl, Lib.hid (by have := HQ2.out; omega), Lib.hid (by have := HAl.out; simp; omega), HO4.out, HB4.out, Lib.hid (by rw [← HE.out, HSC.out]; simp)⟩
    · obtain rfl : j = n := by omega
      go_wp2
      go_ret
      refine ⟨_, S', rfl, HP.out, HRi.out, ?_, HB1.out.trans (HB.out.mono (Nat.le_trans hbase HSz.out))⟩
      have h1 := HE.out
      rw [List.drop_eq_nil_of_le (by have := HRd.out.1; omega)] at h1
      simp only [scanS, List.append_nil] at h1
      rw [← h1]
      exact HO.out.mono HSz.out

theorem low_exists (S : List Rn) : ∃ a : Int, ∀ s ∈ S, a < s.f := by
  induction S with
  | nil => exact ⟨0, by simp⟩
  | cons s S ih =>
    obtain ⟨a, ha⟩ := ih
    refine ⟨min a (s.f - 1), fun q hq => ?_⟩
    rcases List.mem_cons.1 hq with rfl | hq
    · omega
    · have := ha q hq; omega

theorem scanS_len (least : Int) (S : List Rn) : ∀ (c : Int) (o : Bool) (f : Int), (scanS least S c o f).length ≤ S.length := by
  induction S with
  | nil => intro c o f; simp [scanS]
  | cons x S ih =>
    intro c o f
    rw [scanS]
    split
    · have := ih (c + x.t) o f; simp; omega
    · split
      · have := ih (c + x.t) true (if o then f else x.f); simp; omega
      · split
        · have := ih (c + x.t) false f; simp; omega
        · have := ih (c + x.t) false f; simp; omega

/-- Runs that are a set. -/
def IsSet (M : List Rn) : Prop := ∃ a, Canon a M

/-- What a set made of steps has. -/
theorem counted_set {least : Int} {S S' : List Rn} (hp : S'.Perm S) (hr : RisS S') (hs : sumS S = 0) (hl : 0 < least) :
    IsSet (scanS least S' 0 false 0) ∧ (∀ z, inR (scanS least S' 0 false 0) z ↔ least ≤ cntS S z) ∧ (scanS least S' 0 false 0).length ≤ S.length := by
  obtain ⟨h1, h2⟩ := scan_all hr (by rw [sumS_perm hp]; exact hs) hl
  obtain ⟨a, ha⟩ := low_exists S'
  refine ⟨⟨a, h1 a ha⟩, fun z => ?_, ?_⟩
  · rw [h2 z, cntS_perm hp]
  · have := scanS_len least S' 0 false 0
    rw [hp.length_eq] at this
    exact this

/-- The ends of a set's runs, by its numbers. -/
theorem IsSet.ends {M : List Rn} (h : IsSet M) {lo hi : Int} (hb : ∀ z, inR M z → lo ≤ z ∧ z < hi) : ∀ r ∈ M, lo ≤ r.f ∧ r.f < r.t ∧ r.t ≤ hi := by
  obtain ⟨a, ha⟩ := h
  have key : ∀ (M : List Rn) (a : Int), Canon a M → ∀ r ∈ M, r.f < r.t := by
    intro M
    induction M with
    | nil => intro a _ r hr; cases hr
    | cons q M ih =>
      intro a h r hr
      rcases List.mem_cons.1 hr with rfl | hr
      · exact h.2.1
      · exact ih _ h.2.2 r hr
  intro r hr
  have h1 := key M a ha r hr
  have h2 := hb r.f ⟨r, hr, ⟨Int.le_refl _, h1⟩⟩
  have h3 := hb (r.t - 1) ⟨r, hr, ⟨by omega, by omega⟩⟩
  omega

theorem IsSet.unique {M N : List Rn} (hM : IsSet M) (hN : IsSet N) (h : ∀ z, inR M z ↔ inR N z) : M = N := by
  obtain ⟨a, ha⟩ := hM
  obtain ⟨b, hb⟩ := hN
  exact ha.unique hb h

theorem IsSet.ok {M L : List Rn} (hM : IsSet M) (h : ∀ z, inR M z → inR L z) (hL : ∀ r ∈ L, r.ok) : ∀ r ∈ M, r.ok := by
  intro r hr
  have := hM.ends (lo := -1099511627776) (hi := 1099511627776) (fun z hz => by
    obtain ⟨q, hq, h1, h2⟩ := h z hz
    obtain ⟨k1, k2, k3, k4⟩ := hL q hq
    omega) r hr
  exact ⟨by omega, by omega, by omega, by omega⟩

set_option maxHeartbeats 1000000 in
theorem of_any (a : Option Addr) (n c : Nat) (L : List Rn) (w : World) (h : RdR w a n L) (hn : n ≤ 100000) (hok : ∀ r ∈ L, r.ok) :
    Calls Tryz.prog 93 #[.slice a n c] w fun e w' => ∃ v M, e = .returned v ∧ OwnR w' w.heap.size 67 v M ∧ IsSet M ∧ (∀ z, inR M z ↔ inR L z) ∧ M.length ≤ 2 * n ∧ Below w.heap.size w w' := by
  have HA := Lib.hid (addSteps_any (.slice none 0 0) w.heap.size [] 1 (.inl rfl) a n c L w (OwnR.nil _ _ _) (Nat.le_refl _) h (fun _ _ _ _ h => h) hok (by simp; omega))
  have HL := Lib.hid h.1
  clear h hok
  go_enter Tryz.func93, Tryz.ntmps93
  go_wp2_with fail
  refine HA.out.mono ?_
  rintro e w1 ⟨v, rfl, ho, hb⟩
  rw [List.nil_append] at ho
  obtain ⟨a1, c1, hv, _⟩ := ho.rd
  have hlen := stepsR_len 1 L
  have HC := Lib.hid (counted_any 1 a1 (stepsR 1 L).length c1 (stepsR 1 L) w1 w.heap.size hb.size rfl (by have := HL.out; omega) (fun s hs => by rcases stepsR_small hs with h | h <;> omega) (by rw [← hv]; exact ho))
  subst hv
  have HB := Lib.hid hb
  have HLen := Lib.hid hlen
  clear ho hb hlen HA
  go_wp2_with fail
  refine HC.out.mono ?_
  rintro e w2 ⟨v2, S', rfl, hp, hr, ho2, hb2⟩
  obtain ⟨g1, g2, g3⟩ := counted_set (least := 1) hp hr (stepsR_sum 1 L) (by omega)
  have HG := Lib.hid (And.intro g1 (And.intro g2 g3))
  have HO2 := Lib.hid ho2
  have HB2 := Lib.hid hb2
  obtain ⟨M, hM⟩ : ∃ M, M = scanS 1 S' 0 false 0 := ⟨_, rfl⟩
  rw [← hM] at HG HO2
  clear g1 g2 g3 hp hr ho2 hb2 HC hM
  go_wp2
  go_ret
  refine ⟨v2, M, rfl, HO2.out.mono HB.out.size, HG.out.1, fun z => ?_, ?_, HB.out.trans HB2.out⟩
  · rw [HG.out.2.1 z, stepsR_cnt, ← occR_pos]
    omega
  · have h1 := HG.out.2.2
    have h2 := HLen.out
    have h3 := HL.out
    omega

end Go.Proofs.YtaijjogjohbheaaGreat
