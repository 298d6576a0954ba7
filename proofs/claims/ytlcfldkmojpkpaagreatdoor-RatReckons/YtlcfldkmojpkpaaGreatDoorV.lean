/- quoMag: the quotient of two magnitudes, and what is left. -/
import Derived.Test.YtlcfldkmojpkpaaGreatDoorQ
import Derived.Test.YtlcfldkmojpkpaaGreatDoorD
namespace Go.Proofs.YtlcfldkmojpkpaaGreatDoor
open Go.RowKit
attribute [local go_sem] eqnil_some eqnil_none nenil_some nenil_none

set_option maxHeartbeats 800000 in
theorem clone_empty (ad : Addr) (cap : Nat) (w : World) :
    Calls Tryz.prog 66 #[.slice (some ad) 0 cap] w fun e w' => ∃ v, e = .returned v ∧ Below w.heap.size w w' ∧ Mg w' v [] := by
  obtain ⟨i0, hi, hz0, hz1, hz2⟩ := info_parts info32
  go_enter Tryz.func66, Tryz.ntmps66
  go_wp2_with (at_builtin; refine wpList_append_own _ rfl _ _ 24 rfl w.heap.size 88 i0 (.int .u32 0) 1 4 Tryz.underlying24 hi hz0 hz1 hz2 rfl (by decide) _ _ _ rfl (World.ownsRow_made w #[] 0 (Nat.le_refl _) (Nat.zero_le _) rfl) ad 0 cap [] rfl (by simp) (by intro j u h; simp at h) (by simp) (by unfold maxLen; omega) (by omega) (by simp) ?_)
  intro v' w1 hown' hgrow _
  have hB := ((Below.refl w.heap.size w).alloc (Nat.le_refl _) (.cells #[] 88)).grown hgrow (by simp) (fun k hk => by cases hk; exact Nat.le_refl _)
  have hM : Mg w1 v' [] := Mg.of_owns (base := w.heap.size) (by simpa using hown')
  clear hgrow hown'
  go_wp2
  go_ret
  exact ⟨_, rfl, hB, hM⟩
set_option maxHeartbeats 400000 in
theorem clone_nil (cap : Nat) (w : World) :
    Calls Tryz.prog 66 #[.slice none 0 cap] w fun e w' => e = .returned (.slice none 0 0) ∧ w' = w := by
  go_enter Tryz.func66, Tryz.ntmps66
  go_wp2
  go_ret
  exact ⟨rfl, rfl⟩
theorem clone_any (v : Value) (xs : List Int) (w : World) (hm : Mg w v xs) (hl : xs.length ≤ 100000) :
    Calls Tryz.prog 66 #[v] w fun e w' => ∃ v', e = .returned v' ∧ Below w.heap.size w w' ∧ Mg w' v' xs := by
  obtain ⟨a, cap, rfl, hc, hat⟩ := hm
  by_cases hne : xs = []
  · subst hne
    cases a with
    | none =>
      refine (clone_nil cap w).mono ?_
      rintro e w1 ⟨rfl, rfl⟩
      exact ⟨_, rfl, Below.refl _ _, Mg.nil _ _ _⟩
    | some ad => exact clone_empty ad cap w
  · obtain ⟨b, off, rfl, hb, hcell⟩ := hat hne
    refine (clone_some b off xs.length cap xs w rfl hb hcell hl).mono ?_
    rintro e w1 ⟨v, rfl, hB, hown, _⟩
    exact ⟨v, rfl, hB, Mg.of_owns hown⟩

/-- What a quotient of magnitudes is. -/
def QuoPost (w : World) (xs ys : List Int) (e : Ending) (w' : World) : Prop :=
  ∃ q r qs rs, e = .returned (.tuple #[q, r]) ∧ Below w.heap.size w w' ∧ Mg w' q qs ∧ Dig qs ∧ Norm qs ∧ Mg w' r rs ∧ Dig rs ∧ Norm rs ∧ val qs * val ys + val rs = val xs ∧ val rs < val ys ∧ qs.length ≤ xs.length
/-- The division of the school, for a divisor of two digits at least. -/
def QuoLongSaid : Prop := ∀ (vx vy : Value) (xs ys : List Int) (w : World), Mg w vx xs → Mg w vy ys → Dig xs → Dig ys → Norm xs → Norm ys → xs.length ≤ 10000 → 2 ≤ ys.length → val ys ≤ val xs →
  Calls Tryz.prog 107 #[vx, vy] w (QuoPost w xs ys)

theorem lt_of_cmp {x y : Int} (h : x < y) : cmpI x y < 0 := by rw [cmpI_lt h]; omega
theorem ge_of_cmp {x y : Int} (h : y ≤ x) : 0 ≤ cmpI x y := by
  unfold cmpI
  rw [if_neg (by omega)]
  split <;> omega

set_option maxRecDepth 100000 in
set_option maxHeartbeats 1000000 in
theorem quoMag_any (hql : QuoLongSaid) (vx vy : Value) (xs ys : List Int) (w : World) (hmx : Mg w vx xs) (hmy : Mg w vy ys) (hdx : Dig xs) (hdy : Dig ys) (hnx : Norm xs) (hny : Norm ys) (hlx : xs.length ≤ 10000) (hly : ys.length ≤ 10000) (hne : ys ≠ []) :
    Calls Tryz.prog 94 #[vx, vy] w (QuoPost w xs ys) := by
  obtain ⟨ax, cx, rfl, hcx, hax⟩ := id hmx
  obtain ⟨ay, cy, rfl, hcy, hay⟩ := id hmy
  obtain ⟨b, off, rfl, hb, hcell⟩ := hay hne
  have hc := cmpMag_any _ _ xs ys w hmx hmy hdx hdy hnx hny (by omega) (by omega)
  have hyp : 0 < val ys := by
    have := le_val hdy hny hne
    have := pw_pos (ys.length - 1)
    omega
  have hx0 := val_nonneg hdx
  clear hax hay
  by_cases hlt : val xs < val ys
  · have hcv := lt_of_cmp hlt
    generalize cmpI (val xs) (val ys) = cv at *
    have HC := hide hc
    clear hc
    go_enter Tryz.func94, Tryz.ntmps94
    go_wp2_with fail
    refine (unhide HC).mono ?_
    rintro e w1 ⟨rfl, hb1⟩
    go_wp2_with fail
    refine (clone_any _ xs w1 (hmx.below hb1) (by omega)).mono ?_
    rintro e w2 ⟨v2, rfl, hb2, hm2⟩
    go_wp2
    go_ret2
    exact ⟨_, _, [], xs, rfl, hb1.trans (hb2.mono hb1.size), Mg.nil _ _ _, Dig.nil, Norm.nil, hm2, hdx, hnx, by simp [val], hlt, by simp⟩
  · have hcv := ge_of_cmp (show val ys ≤ val xs by omega)
    have hcd : decide (cmpI (val xs) (val ys) < 0) = false := by simp; omega
    generalize cmpI (val xs) (val ys) = cv at *
    have HC := hide hc
    clear hc
    by_cases h1 : ys.length = 1
    · have hle : ((ys.length : Int) == 1) = true := by simp; omega
      obtain ⟨t, ht, t0, t1⟩ := hdy.get 0
      have hc0 := hcell 0 (by omega)
      rw [ht, Nat.add_zero] at hc0
      have hvt : val ys = t := by
        have := val_take_succ' ys 0
        rw [List.take_of_length_le (by omega), ht] at this
        simpa [val, pw] using this
      have HT := hide hvt
      have H1 := hide h1
      have hly0 : (0 : Int) < (ys.length : Int) := by omega
      have htp : 0 < t := by omega
      clear hvt h1 ht hcell
      go_enter Tryz.func94, Tryz.ntmps94
      go_wp2_with fail
      refine (unhide HC).mono ?_
      rintro e w1 ⟨rfl, hb1⟩
      have hc1 := (hb1.cell (p := ⟨b, off, none⟩) hb).trans hc0
      have hat1 : xs ≠ [] → ∃ b off, ax = some ⟨b, off, none⟩ ∧ b < w1.heap.size ∧ At w1 b off xs := fun h => by
        obtain ⟨a', c', e', _, ha'⟩ := hmx.below hb1
        simp only [Value.slice.injEq] at e'
        obtain ⟨rfl, _, _⟩ := e'
        exact ha' h
      go_wp2_with fail
      refine (quoDigit_any ax cx xs t w1 hdx (by omega) htp t1 hat1).mono ?_
      rintro e w2 ⟨v2, zs, r, rfl, hb2, q1, q2, q3, q4, q5, q6, q7⟩
      have HQ := hide q4
      clear q4
      go_wp2_with fail
      refine (magOf_any r w2 q5 (by omega)).mono ?_
      rintro e w3 ⟨v3, rs, rfl, hb3, s1, s2, s3, s4, s5⟩
      have HS := hide s4
      clear s4
      go_wp2
      go_ret2
      refine ⟨_, _, zs, rs, rfl, (hb1.trans (hb2.mono hb1.size)).trans (hb3.mono (Nat.le_trans hb1.size hb2.size)), q1.below hb3, q2, q3, s1, s2, s3, ?_, ?_, q7⟩
      · rw [unhide HT, unhide HS]; exact unhide HQ
      · rw [unhide HT, unhide HS]; exact q6
    · have hle : ((ys.length : Int) == 1) = false := by simp; omega
      have hlen2 : 2 ≤ ys.length := by
        have := List.length_pos_iff.2 hne
        omega
      go_enter Tryz.func94, Tryz.ntmps94
      go_wp2_with fail
      refine (unhide HC).mono ?_
      rintro e w1 ⟨rfl, hb1⟩
      go_wp2_with fail
      refine (hql _ _ xs ys w1 (hmx.below hb1) (hmy.below hb1) hdx hdy hnx hny hlx hlen2 (by omega)).mono ?_
      rintro e w2 ⟨q, r, qs, rs, rfl, hb2, p1, p2, p3, p4, p5, p6, p7, p8, p9⟩
      have HP := hide (And.intro p7 p8)
      clear p7 p8
      go_wp2
      go_ret2
      exact ⟨_, _, qs, rs, rfl, hb1.trans (hb2.mono hb1.size), p1, p2, p3, p4, p5, p6, (unhide HP).1, (unhide HP).2, p9⟩

end Go.Proofs.YtlcfldkmojpkpaaGreatDoor
