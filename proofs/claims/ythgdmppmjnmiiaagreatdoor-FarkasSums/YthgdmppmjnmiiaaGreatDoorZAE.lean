/- quoMag: the quotient of two magnitudes, and what is left. -/
import Derived.Test.YthgdmppmjnmiiaaGreatDoorZAD
import Derived.Test.YthgdmppmjnmiiaaGreatDoorZAB
import Derived.Deep.QuietTactic
import Derived.BigQuiet
import Derived.Laws.IdiomStrings
import Derived.Test.YthgdmppmjnmiiaaGreatDoorZAA
import Derived.BigRegion
set_option linter.unusedVariables false
set_option linter.unusedSimpArgs false

/- Add of numbers the first of which is great. -/
namespace Go.Proofs.YthgdmppmjnmiiaaGreatDoor.Nm
open Go.RowKit
attribute [local go_sem] eqnil_some eqnil_none nenil_some nenil_none

/-- A way that goes on, and what holds there. -/
def nrm (R : Act → World → Prop) : Exit → Act → World → Prop
  | .normal, a, w => R a w
  | _, _, _ => False
theorem nrm_mk {R : Act → World → Prop} {a : Act} {w : World} (h : R a w) : nrm R .normal a w := h
theorem nrm_out {R : Act → World → Prop} {e : Exit} {a : Act} {w : World} (h : nrm R e a w) : e = .normal ∧ R a w := by
  cases e with
  | normal => exact ⟨rfl, h⟩
  | _ => exact h.elim
theorem add_same {n za zb : Int} {xs ys zs : List Int} (hs : (za < 0) = (zb < 0)) (hn : (n < 0) = (za < 0)) (hx : val xs = za.natAbs) (hy : val ys = zb.natAbs) (hz : val zs = val xs + val ys) : (if decide (n < 0) = true then - val zs else val zs) = za + zb := by
  rw [hz, hx, hy]
  by_cases h : za < 0
  · have h2 : zb < 0 := by rw [← hs]; exact h
    rw [if_pos (by simp [hn, h])]; omega
  · have h2 : ¬ zb < 0 := by rw [← hs]; exact h
    rw [if_neg (by simp [hn, h])]; omega
theorem add_diff {n za zb : Int} {xs ys zs : List Int} (hs : ¬ (za < 0) = (zb < 0)) (hn : (n < 0) = (za < 0)) (_hle : val ys ≤ val xs) (hx : val xs = za.natAbs) (hy : val ys = zb.natAbs) (hz : val zs = val xs - val ys) : (if decide (n < 0) = true then - val zs else val zs) = za + zb := by
  rw [hz, hx, hy]
  by_cases h : za < 0
  · have h2 : ¬ zb < 0 := fun h2 => hs (by simp [h, h2])
    rw [if_pos (by simp [hn, h])]; omega
  · have h2 : zb < 0 := by
      apply Classical.byContradiction
      intro h2
      exact hs (by simp [h, h2])
    rw [if_neg (by simp [hn, h])]; omega
theorem add_diff2 {n za zb : Int} {xs ys zs : List Int} (hs : ¬ (za < 0) = (zb < 0)) (hn : (n < 0) = (zb < 0)) (hle : val xs ≤ val ys) (hx : val xs = za.natAbs) (hy : val ys = zb.natAbs) (hz : val zs = val ys - val xs) : (if decide (n < 0) = true then - val zs else val zs) = za + zb := by
  rw [add_diff (fun h => hs h.symm) hn hle hy hx hz]
  omega
theorem len_mono {xs ys : List Int} (hx : Dig xs) (hy : Dig ys) (ny : Norm ys) (h : val ys ≤ val xs) : ys.length ≤ xs.length := by
  apply Nat.le_of_not_lt
  intro hl
  have := val_lt_of_len hx hy ny hl
  omega
theorem ne_of_signs {xs ys : List Int} {za zb : Int} (hs : ¬ (za < 0) = (zb < 0)) (hx : val xs = za.natAbs) (hy : val ys = zb.natAbs) (h : val ys ≤ val xs) : xs ≠ [] := by
  rintro rfl
  simp only [val] at hx h
  apply hs
  have h1 : za = 0 := by omega
  have h2 : zb = 0 := by omega
  rw [h1, h2]

set_option maxRecDepth 100000 in
set_option maxHeartbeats 4000000 in
theorem add_big1 (na nb : Int) (ada : Addr) (la ca : Nat) (ab : Option Addr) (lb cb : Nat) (za zb : Int) (w : World) (hA : IsI w (.agg #[.int .i64 na, .slice (some ada) la ca]) za) (hB : IsI w (.agg #[.int .i64 nb, .slice ab lb cb]) zb) (hza : (za.natAbs : Int) < pw 4000) (hzb : (zb.natAbs : Int) < pw 4000) :
    Calls Tryz.prog 45 #[.agg #[.int .i64 na, .slice (some ada) la ca], .agg #[.int .i64 nb, .slice ab lb cb]] w fun e w' => ∃ r, e = .returned r ∧ Below w.heap.size w w' ∧ IsI w' r (za + zb) := by
  have HZA := hide hza
  have HZB := hide hzb
  clear hza hzb
  obtain ⟨W1, hW0, S⟩ := setup2 w (.int .i64 na) (.slice (some ada) la ca) (.int .i64 nb) (.slice ab lb cb)
  have HW := hide hW0
  clear hW0
  go_enter Tryz.func45, Tryz.ntmps45
  go_wp2
  rw [unhide HW]
  refine wp_mono (Q := nrm (fun a' W' => ∃ m1 m2 xs ys, a' = { tmps := #[.agg #[.int .i64 na, .slice (some ada) la ca], .agg #[.int .i64 nb, .slice ab lb cb], .pointer (some ⟨w.heap.size, 0, none⟩), .pointer (some ⟨w.heap.size + 1, 0, none⟩), .pointer (some ⟨w.heap.size + 1 + 1, 0, none⟩), undef, m1, m2, .pointer (some ⟨w.heap.size, 1, none⟩), .slice (some ada) la ca, .bool false, .bool false, undef, undef, undef, .bool false, undef, undef, undef, undef, undef, undef, undef, undef, undef, undef, undef, undef, undef, undef, undef, undef, undef, .agg #[.int .i64 na, .slice (some ada) la ca], m1, .agg #[.int .i64 nb, .slice ab lb cb], m2, undef, undef, undef, undef, undef, undef, undef, undef, undef, undef, undef, undef, undef, undef, undef, undef, undef, undef, undef, undef, undef, undef, undef, undef, undef, undef, undef, undef, undef, undef, undef, undef], defers := [] } ∧ Below W1.heap.size W1 W' ∧ Mg W' m1 xs ∧ Dig xs ∧ Norm xs ∧ val xs = za.natAbs ∧ Mg W' m2 ys ∧ Dig ys ∧ Norm ys ∧ val ys = zb.natAbs)) ?reg ?go
  case reg =>
    obtain ⟨hB0, gA0, gA1, gB0, gB1, gR0, gR1, gf0, gf1, hRb, hz0, hz1, hz2⟩ := S
    have HRb := hide hRb
    have hA0 : IsI W1.drew (.agg #[.int .i64 na, .slice (some ada) la ca]) za := hA.below hB0.drew
    have hB1 : IsI W1.drew (.agg #[.int .i64 nb, .slice ab lb cb]) zb := hB.below hB0.drew
    clear hRb hA hB
    go_region_with (first
      | (go_at_call_of 60 (Value.agg #[Value.int IntKind.i64 na, Value.slice (some ada) la ca]); refine (magnitude_any _ za _ ?_).mono ?_; exact hA0; rintro e w1 ⟨m1, xs, rfl, hb1, hm1, hd1, hn1, hv1⟩; have HV1 := hide hv1; clear hv1; have hbT1 := hb1; have kB01 := (hbT1.cell (p := ⟨w.heap.size + 1, 0, none⟩) hz1).trans gB0; have kB11 := (hbT1.cell (p := ⟨w.heap.size + 1, 1, none⟩) hz1).trans gB1)
      | (go_at_call_of 60 (Value.agg #[Value.int IntKind.i64 nb, Value.slice ab lb cb]); refine (magnitude_any _ zb _ ?_).mono ?_; exact hB1.below hb1; rintro e w2 ⟨m2, ys, rfl, hb2, hm2, hd2, hn2, hv2⟩; have HV2 := hide hv2; clear hv2; have hbT2 := hbT1.trans (hb2.mono hbT1.size)))
    all_goals exact nrm_mk ⟨m1, m2, xs, ys, rfl, ⟨hbT2.os, hbT2.tape, hbT2.output, hbT2.size, hbT2.block⟩, hm1.below hb2, hd1, hn1, unhide HV1, hm2, hd2, hn2, unhide HV2⟩
  case go =>
    intro e a' W2 h9
    obtain ⟨rfl, h9⟩ := nrm_out h9
    obtain ⟨m1, m2, xs, ys, rfl, hb2, hm1, hd1, hn1, hv1, hm2, hd2, hn2, hv2⟩ := h9
    have HV1 := hide hv1
    have HV2 := hide hv2
    clear hv1 hv2
    obtain ⟨hB0, fA0, fA1, fB0, fB1, fR0, fR1, ff0, ff1, hRb1, hy0, hy1, hy2⟩ := S
    have gA0 := (hb2.cell (p := ⟨w.heap.size, 0, none⟩) hy0).trans fA0
    have gB0 := (hb2.cell (p := ⟨w.heap.size + 1, 0, none⟩) hy1).trans fB0
    have gR0 := (hb2.cell (p := ⟨w.heap.size + 1 + 1, 0, none⟩) hy2).trans fR0
    have gR1 := (hb2.cell (p := ⟨w.heap.size + 1 + 1, 1, none⟩) hy2).trans fR1
    have gf0 := (hb2.frozen (p := ⟨w.heap.size + 1 + 1, 0, none⟩) hy2).trans ff0
    have gf1 := (hb2.frozen (p := ⟨w.heap.size + 1 + 1, 1, none⟩) hy2).trans ff1
    have HRb := hide ((hb2.block (w.heap.size + 1 + 1) hy2).trans hRb1)
    have hz0 : w.heap.size < W2.heap.size := Nat.lt_of_lt_of_le hy0 hb2.size
    have hz1 : w.heap.size + 1 < W2.heap.size := Nat.lt_of_lt_of_le hy1 hb2.size
    have hz2 : w.heap.size + 1 + 1 < W2.heap.size := Nat.lt_of_lt_of_le hy2 hb2.size
    have hB2 := hB0.trans (hb2.mono (B' := w.heap.size) (Nat.le_of_lt hy0))
    have HN := hide (And.intro hA.below0 hB.below0)
    clear fA0 fA1 fB0 fB1 fR0 fR1 ff0 ff1 hRb1 hB0 hb2 hy0 hy1 hy2 hA hB
    have hlx := lenk hd1 hn1 (unhide HV1) (unhide HZA)
    have hly := lenk hd2 hn2 (unhide HV2) (unhide HZB)
    by_cases hsg9 : (za < 0) = (zb < 0)
    · have hsg : (decide (na < 0) == decide (nb < 0)) = true := by
        have h9 := unhide HN
        simp only [h9.1, h9.2, hsg9]
        simp
      have HSG := hide hsg9
      clear hsg9
      have hlen3 : xs.length + ys.length + 1 ≤ 100000 := by omega
      go_wp2
      go_region_with (first
        | (go_at_call 61; refine (addMag_any _ _ xs ys _ ?_ ?_ hd1 hd2 hlx hly).mono ?_; exact hm1; exact hm2; rintro e w3 ⟨m3, zs, rfl, hb3, hm3, hd3, hn3, hv3, hl3⟩; have HV3 := hide hv3; clear hv3; have hbT3 := hb3; have kA03 := (hbT3.cell (p := ⟨w.heap.size, 0, none⟩) hz0).trans gA0; have kB03 := (hbT3.cell (p := ⟨w.heap.size + 1, 0, none⟩) hz1).trans gB0)
        | (go_at_call 56; refine (ofMag_any _ _ zs _ hm3 hd3 hn3 ?_).mono ?_; exact Nat.le_trans hl3 hlen3; rintro e w4 ⟨r4, rfl, hb4, hI4⟩; obtain ⟨n4, a4, l4, c4, rfl⟩ := hI4.form; have hbT4 := hbT3.trans (hb4.mono hbT3.size); have HI4 := hide hI4; clear hI4; have kR0 := (hbT4.cell (p := ⟨w.heap.size + 1 + 1, 0, none⟩) hz2).trans gR0; have kR1 := (hbT4.cell (p := ⟨w.heap.size + 1 + 1, 1, none⟩) hz2).trans gR1; have kf0 := (hbT4.frozen (p := ⟨w.heap.size + 1 + 1, 0, none⟩) hz2).trans gf0; have kf1 := (hbT4.frozen (p := ⟨w.heap.size + 1 + 1, 1, none⟩) hz2).trans gf1))
      all_goals
        go_wp2
        refine bodyPost_ret (v := .agg #[.int .i64 n4, .slice a4 l4 c4]) ?_ rfl ?_
        · simp [results, Tryz.results45, go_sem, kR0, kR1]
        · have hI4 := unhide HI4
          have hrb4 := (hbT4.block (w.heap.size + 1 + 1) hz2).trans (unhide HRb)
          have e9 := add_same (unhide HSG) (unhide HN).1 (unhide HV1) (unhide HV2) (unhide HV3)
          rw [e9] at hI4
          exact ⟨_, rfl, ret_store (hB2.drew.trans (hbT4.mono (B' := w.heap.size) (Nat.le_of_lt hz0))) hI4 (by omega) hrb4 _ _⟩

    · have hsg : (decide (na < 0) == decide (nb < 0)) = false := by
        have h9 := unhide HN
        simp only [h9.1, h9.2]
        by_cases h7 : za < 0
        · by_cases h6 : zb < 0
          · exact absurd (by simp [h7, h6]) hsg9
          · simp [h7, h6]
        · by_cases h6 : zb < 0
          · simp [h7, h6]
          · exact absurd (by simp [h7, h6]) hsg9
      have HSG := hide hsg9
      clear hsg9
      have hcc := cmpMag_any m1 m2 xs ys W2 hm1 hm2 hd1 hd2 hn1 hn2 (by omega) (by omega)
      generalize hcv : cmpI (val xs) (val ys) = cv at hcc
      have HC := hide hcc
      clear hcc
      by_cases hle : val ys ≤ val xs
      · have hcv0 : 0 ≤ cv := by
          rw [← hcv]; unfold cmpI
          rw [if_neg (by omega)]
          split <;> omega
        have hly2 := len_mono hd1 hd2 hn2 hle
        have hne1 := ne_of_signs (unhide HSG) (unhide HV1) (unhide HV2) hle
        clear hcv
        go_wp2_with fail
        refine (unhide HC).mono ?_
        rintro e W3 ⟨rfl, hb9⟩
        have gA0 := (hb9.cell (p := ⟨w.heap.size, 0, none⟩) hz0).trans gA0
        have gB0 := (hb9.cell (p := ⟨w.heap.size + 1, 0, none⟩) hz1).trans gB0
        have gR0 := (hb9.cell (p := ⟨w.heap.size + 1 + 1, 0, none⟩) hz2).trans gR0
        have gR1 := (hb9.cell (p := ⟨w.heap.size + 1 + 1, 1, none⟩) hz2).trans gR1
        have gf0 := (hb9.frozen (p := ⟨w.heap.size + 1 + 1, 0, none⟩) hz2).trans gf0
        have gf1 := (hb9.frozen (p := ⟨w.heap.size + 1 + 1, 1, none⟩) hz2).trans gf1
        have HRb := hide ((hb9.block (w.heap.size + 1 + 1) hz2).trans (unhide HRb))
        have hz0' : w.heap.size < W3.heap.size := Nat.lt_of_lt_of_le hz0 hb9.size
        have hz1' : w.heap.size + 1 < W3.heap.size := Nat.lt_of_lt_of_le hz1 hb9.size
        have hz2' : w.heap.size + 1 + 1 < W3.heap.size := Nat.lt_of_lt_of_le hz2 hb9.size
        have hB2 := hB2.trans (hb9.mono (B' := w.heap.size) (Nat.le_of_lt hz0))
        have hm1 := hm1.below hb9
        have hm2 := hm2.below hb9
        clear hz0 hz1 hz2
        have hz0 := hz0'
        have hz1 := hz1'
        have hz2 := hz2'
        clear hz0' hz1' hz2' hb9
        have hlen3 : xs.length ≤ 100000 := by omega
        go_wp2
        go_region_with (first
          | (go_at_call 63; refine (subMag_any _ _ xs ys _ ?_ ?_ hd1 hd2 hlx hly2 hne1 hle).mono ?_; exact hm1; exact hm2; rintro e w3 ⟨m3, zs, rfl, hb3, hm3, hd3, hn3, hv3, hl3⟩; have HV3 := hide hv3; clear hv3; have hbT3 := hb3; have kA03 := (hbT3.cell (p := ⟨w.heap.size, 0, none⟩) hz0).trans gA0; have kB03 := (hbT3.cell (p := ⟨w.heap.size + 1, 0, none⟩) hz1).trans gB0)
          | (go_at_call 56; refine (ofMag_any _ _ zs _ hm3 hd3 hn3 ?_).mono ?_; exact Nat.le_trans hl3 hlen3; rintro e w4 ⟨r4, rfl, hb4, hI4⟩; obtain ⟨n4, a4, l4, c4, rfl⟩ := hI4.form; have hbT4 := hbT3.trans (hb4.mono hbT3.size); have HI4 := hide hI4; clear hI4; have kR0 := (hbT4.cell (p := ⟨w.heap.size + 1 + 1, 0, none⟩) hz2).trans gR0; have kR1 := (hbT4.cell (p := ⟨w.heap.size + 1 + 1, 1, none⟩) hz2).trans gR1; have kf0 := (hbT4.frozen (p := ⟨w.heap.size + 1 + 1, 0, none⟩) hz2).trans gf0; have kf1 := (hbT4.frozen (p := ⟨w.heap.size + 1 + 1, 1, none⟩) hz2).trans gf1))
        all_goals
          go_wp2
          refine bodyPost_ret (v := .agg #[.int .i64 n4, .slice a4 l4 c4]) ?_ rfl ?_
          · simp [results, Tryz.results45, go_sem, kR0, kR1]
          · have hI4 := unhide HI4
            have hrb4 := (hbT4.block (w.heap.size + 1 + 1) hz2).trans (unhide HRb)
            have e9 := add_diff (unhide HSG) (unhide HN).1 hle (unhide HV1) (unhide HV2) (unhide HV3)
            rw [e9] at hI4
            exact ⟨_, rfl, ret_store (hB2.drew.trans (hbT4.mono (B' := w.heap.size) (Nat.le_of_lt hz0))) hI4 (by omega) hrb4 _ _⟩

      · have hcv0 : cv < 0 := by
          rw [← hcv]; unfold cmpI
          rw [if_pos (by omega)]
          omega
        have hly2 := len_mono hd2 hd1 hn1 (show val xs ≤ val ys by omega)
        have hne1 := ne_of_signs (fun h => unhide HSG h.symm) (unhide HV2) (unhide HV1) (show val xs ≤ val ys by omega)
        have hleq : val xs ≤ val ys := by omega
        clear hcv hle
        go_wp2_with fail
        refine (unhide HC).mono ?_
        rintro e W3 ⟨rfl, hb9⟩
        have gA0 := (hb9.cell (p := ⟨w.heap.size, 0, none⟩) hz0).trans gA0
        have gB0 := (hb9.cell (p := ⟨w.heap.size + 1, 0, none⟩) hz1).trans gB0
        have gR0 := (hb9.cell (p := ⟨w.heap.size + 1 + 1, 0, none⟩) hz2).trans gR0
        have gR1 := (hb9.cell (p := ⟨w.heap.size + 1 + 1, 1, none⟩) hz2).trans gR1
        have gf0 := (hb9.frozen (p := ⟨w.heap.size + 1 + 1, 0, none⟩) hz2).trans gf0
        have gf1 := (hb9.frozen (p := ⟨w.heap.size + 1 + 1, 1, none⟩) hz2).trans gf1
        have HRb := hide ((hb9.block (w.heap.size + 1 + 1) hz2).trans (unhide HRb))
        have hz0' : w.heap.size < W3.heap.size := Nat.lt_of_lt_of_le hz0 hb9.size
        have hz1' : w.heap.size + 1 < W3.heap.size := Nat.lt_of_lt_of_le hz1 hb9.size
        have hz2' : w.heap.size + 1 + 1 < W3.heap.size := Nat.lt_of_lt_of_le hz2 hb9.size
        have hB2 := hB2.trans (hb9.mono (B' := w.heap.size) (Nat.le_of_lt hz0))
        have hm1 := hm1.below hb9
        have hm2 := hm2.below hb9
        clear hz0 hz1 hz2
        have hz0 := hz0'
        have hz1 := hz1'
        have hz2 := hz2'
        clear hz0' hz1' hz2' hb9
        have hlen3 : ys.length ≤ 100000 := by omega
        have hdd : decide (0 ≤ cv) = false := by simp; omega
        go_wp2_with fail
        go_region_with (first
          | (go_at_call 63; refine (subMag_any _ _ ys xs _ ?_ ?_ hd2 hd1 hly hly2 hne1 hleq).mono ?_; exact hm2; exact hm1; rintro e w3 ⟨m3, zs, rfl, hb3, hm3, hd3, hn3, hv3, hl3⟩; have HV3 := hide hv3; clear hv3; have hbT3 := hb3; have kA03 := (hbT3.cell (p := ⟨w.heap.size, 0, none⟩) hz0).trans gA0; have kB03 := (hbT3.cell (p := ⟨w.heap.size + 1, 0, none⟩) hz1).trans gB0)
          | (go_at_call 56; refine (ofMag_any _ _ zs _ hm3 hd3 hn3 ?_).mono ?_; exact Nat.le_trans hl3 hlen3; rintro e w4 ⟨r4, rfl, hb4, hI4⟩; obtain ⟨n4, a4, l4, c4, rfl⟩ := hI4.form; have hbT4 := hbT3.trans (hb4.mono hbT3.size); have HI4 := hide hI4; clear hI4; have kR0 := (hbT4.cell (p := ⟨w.heap.size + 1 + 1, 0, none⟩) hz2).trans gR0; have kR1 := (hbT4.cell (p := ⟨w.heap.size + 1 + 1, 1, none⟩) hz2).trans gR1; have kf0 := (hbT4.frozen (p := ⟨w.heap.size + 1 + 1, 0, none⟩) hz2).trans gf0; have kf1 := (hbT4.frozen (p := ⟨w.heap.size + 1 + 1, 1, none⟩) hz2).trans gf1))
        all_goals
          go_wp2
          refine bodyPost_ret (v := .agg #[.int .i64 n4, .slice a4 l4 c4]) ?_ rfl ?_
          · simp [results, Tryz.results45, go_sem, kR0, kR1]
          · have hI4 := unhide HI4
            have hrb4 := (hbT4.block (w.heap.size + 1 + 1) hz2).trans (unhide HRb)
            have e9 := add_diff2 (unhide HSG) (unhide HN).2 hleq (unhide HV1) (unhide HV2) (unhide HV3)
            rw [e9] at hI4
            exact ⟨_, rfl, ret_store (hB2.drew.trans (hbT4.mono (B' := w.heap.size) (Nat.le_of_lt hz0))) hI4 (by omega) hrb4 _ _⟩

end Go.Proofs.YthgdmppmjnmiiaaGreatDoor.Nm

/- Add of numbers the second of which is great. -/
namespace Go.Proofs.YthgdmppmjnmiiaaGreatDoor.Nm
open Go.RowKit
attribute [local go_sem] eqnil_some eqnil_none nenil_some nenil_none

set_option maxRecDepth 100000 in
set_option maxHeartbeats 4000000 in
theorem add_big2 (na nb : Int) (adb : Addr) (lb cb : Nat) (za zb : Int) (w : World) (hA : IsI w (.agg #[.int .i64 na, .slice none 0 0]) za) (hB : IsI w (.agg #[.int .i64 nb, .slice (some adb) lb cb]) zb) (hza : (za.natAbs : Int) < pw 4000) (hzb : (zb.natAbs : Int) < pw 4000) :
    Calls Tryz.prog 45 #[.agg #[.int .i64 na, .slice none 0 0], .agg #[.int .i64 nb, .slice (some adb) lb cb]] w fun e w' => ∃ r, e = .returned r ∧ Below w.heap.size w w' ∧ IsI w' r (za + zb) := by
  have HZA := hide hza
  have HZB := hide hzb
  clear hza hzb
  obtain ⟨W1, hW0, S⟩ := setup2 w (.int .i64 na) (.slice none 0 0) (.int .i64 nb) (.slice (some adb) lb cb)
  have HW := hide hW0
  clear hW0
  go_enter Tryz.func45, Tryz.ntmps45
  go_wp2
  rw [unhide HW]
  refine wp_mono (Q := nrm (fun a' W' => ∃ m1 m2 xs ys, a' = { tmps := #[.agg #[.int .i64 na, .slice none 0 0], .agg #[.int .i64 nb, .slice (some adb) lb cb], .pointer (some ⟨w.heap.size, 0, none⟩), .pointer (some ⟨w.heap.size + 1, 0, none⟩), .pointer (some ⟨w.heap.size + 1 + 1, 0, none⟩), undef, m1, m2, .pointer (some ⟨w.heap.size, 1, none⟩), .slice none 0 0, .bool true, .bool true, .pointer (some ⟨w.heap.size + 1, 1, none⟩), .slice (some adb) lb cb, .bool false, .bool false, undef, undef, undef, undef, undef, undef, undef, undef, undef, undef, undef, undef, undef, undef, undef, undef, undef, .agg #[.int .i64 na, .slice none 0 0], m1, .agg #[.int .i64 nb, .slice (some adb) lb cb], m2, undef, undef, undef, undef, undef, undef, undef, undef, undef, undef, undef, undef, undef, undef, undef, undef, undef, undef, undef, undef, undef, undef, undef, undef, undef, undef, undef, undef, undef, undef, undef, undef], defers := [] } ∧ Below W1.heap.size W1 W' ∧ Mg W' m1 xs ∧ Dig xs ∧ Norm xs ∧ val xs = za.natAbs ∧ Mg W' m2 ys ∧ Dig ys ∧ Norm ys ∧ val ys = zb.natAbs)) ?reg ?go
  case reg =>
    obtain ⟨hB0, gA0, gA1, gB0, gB1, gR0, gR1, gf0, gf1, hRb, hz0, hz1, hz2⟩ := S
    have HRb := hide hRb
    have hA0 : IsI W1.drew (.agg #[.int .i64 na, .slice none 0 0]) za := hA.below hB0.drew
    have hB1 : IsI W1.drew (.agg #[.int .i64 nb, .slice (some adb) lb cb]) zb := hB.below hB0.drew
    clear hRb hA hB
    go_region_with (first
      | (go_at_call_of 60 (Value.agg #[Value.int IntKind.i64 na, Value.slice none 0 0]); refine (magnitude_any _ za _ ?_).mono ?_; exact hA0; rintro e w1 ⟨m1, xs, rfl, hb1, hm1, hd1, hn1, hv1⟩; have HV1 := hide hv1; clear hv1; have hbT1 := hb1; have kB01 := (hbT1.cell (p := ⟨w.heap.size + 1, 0, none⟩) hz1).trans gB0; have kB11 := (hbT1.cell (p := ⟨w.heap.size + 1, 1, none⟩) hz1).trans gB1)
      | (go_at_call_of 60 (Value.agg #[Value.int IntKind.i64 nb, Value.slice (some adb) lb cb]); refine (magnitude_any _ zb _ ?_).mono ?_; exact hB1.below hb1; rintro e w2 ⟨m2, ys, rfl, hb2, hm2, hd2, hn2, hv2⟩; have HV2 := hide hv2; clear hv2; have hbT2 := hbT1.trans (hb2.mono hbT1.size)))
    all_goals exact nrm_mk ⟨m1, m2, xs, ys, rfl, ⟨hbT2.os, hbT2.tape, hbT2.output, hbT2.size, hbT2.block⟩, hm1.below hb2, hd1, hn1, unhide HV1, hm2, hd2, hn2, unhide HV2⟩
  case go =>
    intro e a' W2 h9
    obtain ⟨rfl, h9⟩ := nrm_out h9
    obtain ⟨m1, m2, xs, ys, rfl, hb2, hm1, hd1, hn1, hv1, hm2, hd2, hn2, hv2⟩ := h9
    have HV1 := hide hv1
    have HV2 := hide hv2
    clear hv1 hv2
    obtain ⟨hB0, fA0, fA1, fB0, fB1, fR0, fR1, ff0, ff1, hRb1, hy0, hy1, hy2⟩ := S
    have gA0 := (hb2.cell (p := ⟨w.heap.size, 0, none⟩) hy0).trans fA0
    have gB0 := (hb2.cell (p := ⟨w.heap.size + 1, 0, none⟩) hy1).trans fB0
    have gR0 := (hb2.cell (p := ⟨w.heap.size + 1 + 1, 0, none⟩) hy2).trans fR0
    have gR1 := (hb2.cell (p := ⟨w.heap.size + 1 + 1, 1, none⟩) hy2).trans fR1
    have gf0 := (hb2.frozen (p := ⟨w.heap.size + 1 + 1, 0, none⟩) hy2).trans ff0
    have gf1 := (hb2.frozen (p := ⟨w.heap.size + 1 + 1, 1, none⟩) hy2).trans ff1
    have HRb := hide ((hb2.block (w.heap.size + 1 + 1) hy2).trans hRb1)
    have hz0 : w.heap.size < W2.heap.size := Nat.lt_of_lt_of_le hy0 hb2.size
    have hz1 : w.heap.size + 1 < W2.heap.size := Nat.lt_of_lt_of_le hy1 hb2.size
    have hz2 : w.heap.size + 1 + 1 < W2.heap.size := Nat.lt_of_lt_of_le hy2 hb2.size
    have hB2 := hB0.trans (hb2.mono (B' := w.heap.size) (Nat.le_of_lt hy0))
    have HN := hide (And.intro hA.below0 hB.below0)
    clear fA0 fA1 fB0 fB1 fR0 fR1 ff0 ff1 hRb1 hB0 hb2 hy0 hy1 hy2 hA hB
    have hlx := lenk hd1 hn1 (unhide HV1) (unhide HZA)
    have hly := lenk hd2 hn2 (unhide HV2) (unhide HZB)
    by_cases hsg9 : (za < 0) = (zb < 0)
    · have hsg : (decide (na < 0) == decide (nb < 0)) = true := by
        have h9 := unhide HN
        simp only [h9.1, h9.2, hsg9]
        simp
      have HSG := hide hsg9
      clear hsg9
      have hlen3 : xs.length + ys.length + 1 ≤ 100000 := by omega
      go_wp2
      go_region_with (first
        | (go_at_call 61; refine (addMag_any _ _ xs ys _ ?_ ?_ hd1 hd2 hlx hly).mono ?_; exact hm1; exact hm2; rintro e w3 ⟨m3, zs, rfl, hb3, hm3, hd3, hn3, hv3, hl3⟩; have HV3 := hide hv3; clear hv3; have hbT3 := hb3; have kA03 := (hbT3.cell (p := ⟨w.heap.size, 0, none⟩) hz0).trans gA0; have kB03 := (hbT3.cell (p := ⟨w.heap.size + 1, 0, none⟩) hz1).trans gB0)
        | (go_at_call 56; refine (ofMag_any _ _ zs _ hm3 hd3 hn3 ?_).mono ?_; exact Nat.le_trans hl3 hlen3; rintro e w4 ⟨r4, rfl, hb4, hI4⟩; obtain ⟨n4, a4, l4, c4, rfl⟩ := hI4.form; have hbT4 := hbT3.trans (hb4.mono hbT3.size); have HI4 := hide hI4; clear hI4; have kR0 := (hbT4.cell (p := ⟨w.heap.size + 1 + 1, 0, none⟩) hz2).trans gR0; have kR1 := (hbT4.cell (p := ⟨w.heap.size + 1 + 1, 1, none⟩) hz2).trans gR1; have kf0 := (hbT4.frozen (p := ⟨w.heap.size + 1 + 1, 0, none⟩) hz2).trans gf0; have kf1 := (hbT4.frozen (p := ⟨w.heap.size + 1 + 1, 1, none⟩) hz2).trans gf1))
      all_goals
        go_wp2
        refine bodyPost_ret (v := .agg #[.int .i64 n4, .slice a4 l4 c4]) ?_ rfl ?_
        · simp [results, Tryz.results45, go_sem, kR0, kR1]
        · have hI4 := unhide HI4
          have hrb4 := (hbT4.block (w.heap.size + 1 + 1) hz2).trans (unhide HRb)
          have e9 := add_same (unhide HSG) (unhide HN).1 (unhide HV1) (unhide HV2) (unhide HV3)
          rw [e9] at hI4
          exact ⟨_, rfl, ret_store (hB2.drew.trans (hbT4.mono (B' := w.heap.size) (Nat.le_of_lt hz0))) hI4 (by omega) hrb4 _ _⟩

    · have hsg : (decide (na < 0) == decide (nb < 0)) = false := by
        have h9 := unhide HN
        simp only [h9.1, h9.2]
        by_cases h7 : za < 0
        · by_cases h6 : zb < 0
          · exact absurd (by simp [h7, h6]) hsg9
          · simp [h7, h6]
        · by_cases h6 : zb < 0
          · simp [h7, h6]
          · exact absurd (by simp [h7, h6]) hsg9
      have HSG := hide hsg9
      clear hsg9
      have hcc := cmpMag_any m1 m2 xs ys W2 hm1 hm2 hd1 hd2 hn1 hn2 (by omega) (by omega)
      generalize hcv : cmpI (val xs) (val ys) = cv at hcc
      have HC := hide hcc
      clear hcc
      by_cases hle : val ys ≤ val xs
      · have hcv0 : 0 ≤ cv := by
          rw [← hcv]; unfold cmpI
          rw [if_neg (by omega)]
          split <;> omega
        have hly2 := len_mono hd1 hd2 hn2 hle
        have hne1 := ne_of_signs (unhide HSG) (unhide HV1) (unhide HV2) hle
        clear hcv
        go_wp2_with fail
        refine (unhide HC).mono ?_
        rintro e W3 ⟨rfl, hb9⟩
        have gA0 := (hb9.cell (p := ⟨w.heap.size, 0, none⟩) hz0).trans gA0
        have gB0 := (hb9.cell (p := ⟨w.heap.size + 1, 0, none⟩) hz1).trans gB0
        have gR0 := (hb9.cell (p := ⟨w.heap.size + 1 + 1, 0, none⟩) hz2).trans gR0
        have gR1 := (hb9.cell (p := ⟨w.heap.size + 1 + 1, 1, none⟩) hz2).trans gR1
        have gf0 := (hb9.frozen (p := ⟨w.heap.size + 1 + 1, 0, none⟩) hz2).trans gf0
        have gf1 := (hb9.frozen (p := ⟨w.heap.size + 1 + 1, 1, none⟩) hz2).trans gf1
        have HRb := hide ((hb9.block (w.heap.size + 1 + 1) hz2).trans (unhide HRb))
        have hz0' : w.heap.size < W3.heap.size := Nat.lt_of_lt_of_le hz0 hb9.size
        have hz1' : w.heap.size + 1 < W3.heap.size := Nat.lt_of_lt_of_le hz1 hb9.size
        have hz2' : w.heap.size + 1 + 1 < W3.heap.size := Nat.lt_of_lt_of_le hz2 hb9.size
        have hB2 := hB2.trans (hb9.mono (B' := w.heap.size) (Nat.le_of_lt hz0))
        have hm1 := hm1.below hb9
        have hm2 := hm2.below hb9
        clear hz0 hz1 hz2
        have hz0 := hz0'
        have hz1 := hz1'
        have hz2 := hz2'
        clear hz0' hz1' hz2' hb9
        have hlen3 : xs.length ≤ 100000 := by omega
        go_wp2
        go_region_with (first
          | (go_at_call 63; refine (subMag_any _ _ xs ys _ ?_ ?_ hd1 hd2 hlx hly2 hne1 hle).mono ?_; exact hm1; exact hm2; rintro e w3 ⟨m3, zs, rfl, hb3, hm3, hd3, hn3, hv3, hl3⟩; have HV3 := hide hv3; clear hv3; have hbT3 := hb3; have kA03 := (hbT3.cell (p := ⟨w.heap.size, 0, none⟩) hz0).trans gA0; have kB03 := (hbT3.cell (p := ⟨w.heap.size + 1, 0, none⟩) hz1).trans gB0)
          | (go_at_call 56; refine (ofMag_any _ _ zs _ hm3 hd3 hn3 ?_).mono ?_; exact Nat.le_trans hl3 hlen3; rintro e w4 ⟨r4, rfl, hb4, hI4⟩; obtain ⟨n4, a4, l4, c4, rfl⟩ := hI4.form; have hbT4 := hbT3.trans (hb4.mono hbT3.size); have HI4 := hide hI4; clear hI4; have kR0 := (hbT4.cell (p := ⟨w.heap.size + 1 + 1, 0, none⟩) hz2).trans gR0; have kR1 := (hbT4.cell (p := ⟨w.heap.size + 1 + 1, 1, none⟩) hz2).trans gR1; have kf0 := (hbT4.frozen (p := ⟨w.heap.size + 1 + 1, 0, none⟩) hz2).trans gf0; have kf1 := (hbT4.frozen (p := ⟨w.heap.size + 1 + 1, 1, none⟩) hz2).trans gf1))
        all_goals
          go_wp2
          refine bodyPost_ret (v := .agg #[.int .i64 n4, .slice a4 l4 c4]) ?_ rfl ?_
          · simp [results, Tryz.results45, go_sem, kR0, kR1]
          · have hI4 := unhide HI4
            have hrb4 := (hbT4.block (w.heap.size + 1 + 1) hz2).trans (unhide HRb)
            have e9 := add_diff (unhide HSG) (unhide HN).1 hle (unhide HV1) (unhide HV2) (unhide HV3)
            rw [e9] at hI4
            exact ⟨_, rfl, ret_store (hB2.drew.trans (hbT4.mono (B' := w.heap.size) (Nat.le_of_lt hz0))) hI4 (by omega) hrb4 _ _⟩

      · have hcv0 : cv < 0 := by
          rw [← hcv]; unfold cmpI
          rw [if_pos (by omega)]
          omega
        have hly2 := len_mono hd2 hd1 hn1 (show val xs ≤ val ys by omega)
        have hne1 := ne_of_signs (fun h => unhide HSG h.symm) (unhide HV2) (unhide HV1) (show val xs ≤ val ys by omega)
        have hleq : val xs ≤ val ys := by omega
        clear hcv hle
        go_wp2_with fail
        refine (unhide HC).mono ?_
        rintro e W3 ⟨rfl, hb9⟩
        have gA0 := (hb9.cell (p := ⟨w.heap.size, 0, none⟩) hz0).trans gA0
        have gB0 := (hb9.cell (p := ⟨w.heap.size + 1, 0, none⟩) hz1).trans gB0
        have gR0 := (hb9.cell (p := ⟨w.heap.size + 1 + 1, 0, none⟩) hz2).trans gR0
        have gR1 := (hb9.cell (p := ⟨w.heap.size + 1 + 1, 1, none⟩) hz2).trans gR1
        have gf0 := (hb9.frozen (p := ⟨w.heap.size + 1 + 1, 0, none⟩) hz2).trans gf0
        have gf1 := (hb9.frozen (p := ⟨w.heap.size + 1 + 1, 1, none⟩) hz2).trans gf1
        have HRb := hide ((hb9.block (w.heap.size + 1 + 1) hz2).trans (unhide HRb))
        have hz0' : w.heap.size < W3.heap.size := Nat.lt_of_lt_of_le hz0 hb9.size
        have hz1' : w.heap.size + 1 < W3.heap.size := Nat.lt_of_lt_of_le hz1 hb9.size
        have hz2' : w.heap.size + 1 + 1 < W3.heap.size := Nat.lt_of_lt_of_le hz2 hb9.size
        have hB2 := hB2.trans (hb9.mono (B' := w.heap.size) (Nat.le_of_lt hz0))
        have hm1 := hm1.below hb9
        have hm2 := hm2.below hb9
        clear hz0 hz1 hz2
        have hz0 := hz0'
        have hz1 := hz1'
        have hz2 := hz2'
        clear hz0' hz1' hz2' hb9
        have hlen3 : ys.length ≤ 100000 := by omega
        have hdd : decide (0 ≤ cv) = false := by simp; omega
        go_wp2_with fail
        go_region_with (first
          | (go_at_call 63; refine (subMag_any _ _ ys xs _ ?_ ?_ hd2 hd1 hly hly2 hne1 hleq).mono ?_; exact hm2; exact hm1; rintro e w3 ⟨m3, zs, rfl, hb3, hm3, hd3, hn3, hv3, hl3⟩; have HV3 := hide hv3; clear hv3; have hbT3 := hb3; have kA03 := (hbT3.cell (p := ⟨w.heap.size, 0, none⟩) hz0).trans gA0; have kB03 := (hbT3.cell (p := ⟨w.heap.size + 1, 0, none⟩) hz1).trans gB0)
          | (go_at_call 56; refine (ofMag_any _ _ zs _ hm3 hd3 hn3 ?_).mono ?_; exact Nat.le_trans hl3 hlen3; rintro e w4 ⟨r4, rfl, hb4, hI4⟩; obtain ⟨n4, a4, l4, c4, rfl⟩ := hI4.form; have hbT4 := hbT3.trans (hb4.mono hbT3.size); have HI4 := hide hI4; clear hI4; have kR0 := (hbT4.cell (p := ⟨w.heap.size + 1 + 1, 0, none⟩) hz2).trans gR0; have kR1 := (hbT4.cell (p := ⟨w.heap.size + 1 + 1, 1, none⟩) hz2).trans gR1; have kf0 := (hbT4.frozen (p := ⟨w.heap.size + 1 + 1, 0, none⟩) hz2).trans gf0; have kf1 := (hbT4.frozen (p := ⟨w.heap.size + 1 + 1, 1, none⟩) hz2).trans gf1))
        all_goals
          go_wp2
          refine bodyPost_ret (v := .agg #[.int .i64 n4, .slice a4 l4 c4]) ?_ rfl ?_
          · simp [results, Tryz.results45, go_sem, kR0, kR1]
          · have hI4 := unhide HI4
            have hrb4 := (hbT4.block (w.heap.size + 1 + 1) hz2).trans (unhide HRb)
            have e9 := add_diff2 (unhide HSG) (unhide HN).2 hleq (unhide HV1) (unhide HV2) (unhide HV3)
            rw [e9] at hI4
            exact ⟨_, rfl, ret_store (hB2.drew.trans (hbT4.mono (B' := w.heap.size) (Nat.le_of_lt hz0))) hI4 (by omega) hrb4 _ _⟩

end Go.Proofs.YthgdmppmjnmiiaaGreatDoor.Nm

/- Add of small numbers; Add. -/
namespace Go.Proofs.YthgdmppmjnmiiaaGreatDoor.Nm
open Go.RowKit
attribute [local go_sem] eqnil_some eqnil_none nenil_some nenil_none

theorem toInt_small (a : Int) (h0 : -9223372036854775808 ≤ a) (h1 : a ≤ 9223372036854775807) : (BitVec.ofInt 64 a).toInt = a := by
  rw [BitVec.toInt_ofInt]
  have e : ((2 ^ 64 : Nat) : Int) = 18446744073709551616 := by decide
  unfold Int.bmod
  rw [e]
  simp only []
  split <;> omega
theorem msb_iff (a : Int) (h0 : -9223372036854775808 ≤ a) (h1 : a ≤ 9223372036854775807) : (BitVec.ofInt 64 a).msb = decide (a < 0) := by
  rw [BitVec.msb_eq_toInt, toInt_small a h0 h1]
theorem wrap_toInt (v : BitVec 64) : ((v.toNat : Int) + 9223372036854775808) % 18446744073709551616 - 9223372036854775808 = v.toInt := by
  have h1 := v.isLt
  rw [BitVec.toInt_eq_toNat_cond]
  have e : ((2 ^ 64 : Nat) : Int) = 18446744073709551616 := by decide
  split <;> omega

theorem bits_sign (v : BitVec 64) : (IntKind.i64.wrap (v.toNat : Int) < 0) = (v.msb = true) := by
  rw [IntKind.wrap_i64, wrap_toInt, BitVec.msb_eq_toInt]
  simp
theorem bits_range (v : BitVec 64) : -9223372036854775808 ≤ IntKind.i64.wrap (v.toNat : Int) ∧ IntKind.i64.wrap (v.toNat : Int) ≤ 9223372036854775807 := by
  rw [IntKind.wrap_i64]; omega
/-- A sum that wrapped round has the sign of neither. -/
theorem ov_iff (a b : Int) (ha0 : -9223372036854775808 ≤ a) (ha1 : a ≤ 9223372036854775807) (hb0 : -9223372036854775808 ≤ b) (hb1 : b ≤ 9223372036854775807) :
    (bits .and .i64 (bits .xor .i64 (wrap64 (a + b)) a) (bits .xor .i64 (wrap64 (a + b)) b) < 0) = (a + b < -9223372036854775808 ∨ 9223372036854775807 < a + b) := by
  have hs0 : -9223372036854775808 ≤ wrap64 (a + b) ∧ wrap64 (a + b) ≤ 9223372036854775807 := by unfold wrap64; omega
  generalize hs : wrap64 (a + b) = s at *
  have e1 : ∀ x y : Int, bits .xor .i64 x y = IntKind.i64.wrap ((BitVec.ofInt 64 x ^^^ BitVec.ofInt 64 y).toNat : Int) := fun _ _ => rfl
  have e2 : ∀ x y : Int, bits .and .i64 x y = IntKind.i64.wrap ((BitVec.ofInt 64 x &&& BitVec.ofInt 64 y).toNat : Int) := fun _ _ => rfl
  have hx : ∀ y : Int, -9223372036854775808 ≤ y → y ≤ 9223372036854775807 → (BitVec.ofInt 64 (bits .xor .i64 s y)).msb = (decide (s < 0) ^^ decide (y < 0)) := by
    intro y h0 h1
    rw [e1]
    have hr := bits_range (BitVec.ofInt 64 s ^^^ BitVec.ofInt 64 y)
    have hb := bits_sign (BitVec.ofInt 64 s ^^^ BitVec.ofInt 64 y)
    rw [msb_iff _ hr.1 hr.2]
    have h2 : (BitVec.ofInt 64 s ^^^ BitVec.ofInt 64 y).msb = (decide (s < 0) ^^ decide (y < 0)) := by
      rw [BitVec.msb_xor, msb_iff s hs0.1 hs0.2, msb_iff y h0 h1]
    rw [← h2]
    cases h : (BitVec.ofInt 64 s ^^^ BitVec.ofInt 64 y).msb
    · rw [h] at hb; simp only [Bool.false_eq_true, eq_iff_iff, iff_false] at hb; simpa using hb
    · rw [h] at hb; simp only [eq_iff_iff, iff_true] at hb; simpa using hb
  rw [e2, bits_sign, BitVec.msb_and, hx a ha0 ha1, hx b hb0 hb1]
  have hw : s = wrap64 (a + b) := hs.symm
  unfold wrap64 at hw
  apply propext
  by_cases h1 : s < 0
  · by_cases h2 : a < 0
    · by_cases h3 : b < 0
      · simp [h1, h2, h3]; omega
      · simp [h1, h2, h3]; omega
    · by_cases h3 : b < 0
      · simp [h1, h2, h3]; omega
      · simp [h1, h2, h3]; omega
  · by_cases h2 : a < 0
    · by_cases h3 : b < 0
      · simp [h1, h2, h3]; omega
      · simp [h1, h2, h3]; omega
    · by_cases h3 : b < 0
      · simp [h1, h2, h3]; omega
      · simp [h1, h2, h3]; omega
theorem IsI.small {w : World} {n : Int} {z : Int} (h : IsI w (.agg #[.int .i64 n, .slice none 0 0]) z) : n = z ∧ -9223372036854775808 ≤ z ∧ z ≤ 9223372036854775807 := by
  rcases h with ⟨e, h1, h2⟩ | ⟨b, off, cap, xs, e, _⟩
  · simp at e; exact ⟨e, h1, h2⟩
  · simp at e
theorem ov_bits {w : World} {na nb za zb : Int} (hA : IsI w (.agg #[.int .i64 na, .slice none 0 0]) za) (hB : IsI w (.agg #[.int .i64 nb, .slice none 0 0]) zb) (hov : za + zb < -9223372036854775808 ∨ 9223372036854775807 < za + zb) : bits .and .i64 (bits .xor .i64 (wrap64 (na + nb)) na) (bits .xor .i64 (wrap64 (na + nb)) nb) < 0 := by
  obtain ⟨rfl, h1, h2⟩ := hA.small
  obtain ⟨rfl, h3, h4⟩ := hB.small
  rw [ov_iff _ _ h1 h2 h3 h4]
  exact hov
theorem ov_signs {w : World} {na nb za zb : Int} (hA : IsI w (.agg #[.int .i64 na, .slice none 0 0]) za) (hB : IsI w (.agg #[.int .i64 nb, .slice none 0 0]) zb) (hov : za + zb < -9223372036854775808 ∨ 9223372036854775807 < za + zb) : (za < 0 ∧ zb < 0) ∨ (0 ≤ za ∧ 0 ≤ zb) := by
  obtain ⟨_, h1, h2⟩ := hA.small
  obtain ⟨_, h3, h4⟩ := hB.small
  omega

set_option maxRecDepth 100000 in
set_option maxHeartbeats 1000000 in
theorem add_small (za zb : Int) (w : World) (h1 : -9223372036854775808 ≤ za) (h2 : za ≤ 9223372036854775807) (h3 : -9223372036854775808 ≤ zb) (h4 : zb ≤ 9223372036854775807) (h5 : -9223372036854775808 ≤ za + zb) (h6 : za + zb ≤ 9223372036854775807) :
    Calls Tryz.prog 45 #[.agg #[.int .i64 za, .slice none 0 0], .agg #[.int .i64 zb, .slice none 0 0]] w fun e w' => ∃ r, e = .returned r ∧ Below w.heap.size w w' ∧ IsI w' r (za + zb) := by
  have hnn : 0 ≤ bits .and .i64 (bits .xor .i64 (wrap64 (za + zb)) za) (bits .xor .i64 (wrap64 (za + zb)) zb) := by
    apply Int.not_lt.1
    rw [ov_iff za zb h1 h2 h3 h4]
    omega
  have hw : wrap64 (za + zb) = za + zb := by unfold wrap64; omega
  rw [hw] at hnn
  obtain ⟨W1, hW0, S⟩ := setup2 w (.int .i64 za) (.slice none 0 0) (.int .i64 zb) (.slice none 0 0)
  have HW := hide hW0
  clear hW0
  go_enter Tryz.func45, Tryz.ntmps45
  go_wp2_with fail
  rw [unhide HW]
  obtain ⟨hB0, gA0, gA1, gB0, gB1, gR0, gR1, gf0, gf1, hRb, hz0, hz1, hz2⟩ := S
  have HRb := hide hRb
  clear hRb
  refine (of_any _ _).mono ?_
  rintro e w2 ⟨rfl, hb2⟩
  have kR0 := (hb2.cell (p := ⟨w.heap.size + 1 + 1, 0, none⟩) hz2).trans gR0
  have kR1 := (hb2.cell (p := ⟨w.heap.size + 1 + 1, 1, none⟩) hz2).trans gR1
  have kf0 := (hb2.frozen (p := ⟨w.heap.size + 1 + 1, 0, none⟩) hz2).trans gf0
  have kf1 := (hb2.frozen (p := ⟨w.heap.size + 1 + 1, 1, none⟩) hz2).trans gf1
  go_wp2
  refine bodyPost_ret (v := .agg #[.int .i64 (za + zb), .slice none 0 0]) ?_ rfl ?_
  · simp [results, Tryz.results45, go_sem, kR0, kR1]
  · have hrb2 := (hb2.block (w.heap.size + 1 + 1) hz2).trans (unhide HRb)
    exact ⟨_, rfl, ret_store (hB0.trans (hb2.mono (B' := w.heap.size) (Nat.le_of_lt hz0))) (.inl ⟨rfl, h5, h6⟩) (by omega) hrb2 _ _⟩

set_option maxRecDepth 100000 in
set_option maxHeartbeats 4000000 in
theorem add_over (na nb : Int) (za zb : Int) (w : World) (hA : IsI w (.agg #[.int .i64 na, .slice none 0 0]) za) (hB : IsI w (.agg #[.int .i64 nb, .slice none 0 0]) zb) (hza : (za.natAbs : Int) < pw 4000) (hzb : (zb.natAbs : Int) < pw 4000) (hov : za + zb < -9223372036854775808 ∨ 9223372036854775807 < za + zb) :
    Calls Tryz.prog 45 #[.agg #[.int .i64 na, .slice none 0 0], .agg #[.int .i64 nb, .slice none 0 0]] w fun e w' => ∃ r, e = .returned r ∧ Below w.heap.size w w' ∧ IsI w' r (za + zb) := by
  have HZA := hide hza
  have HZB := hide hzb
  clear hza hzb
  have hx3 := ov_bits hA hB hov
  have hdd : decide (0 ≤ bits BinOp.and IntKind.i64 (bits BinOp.xor IntKind.i64 (wrap64 (na + nb)) na) (bits BinOp.xor IntKind.i64 (wrap64 (na + nb)) nb)) = false := by simp; omega
  have HOV := hide (ov_signs hA hB hov)
  clear hov
  obtain ⟨W1, hW0, S⟩ := setup2 w (.int .i64 na) (.slice none 0 0) (.int .i64 nb) (.slice none 0 0)
  have HW := hide hW0
  clear hW0
  go_enter Tryz.func45, Tryz.ntmps45
  go_wp2_with fail
  rw [unhide HW]
  generalize bits BinOp.and IntKind.i64 (bits BinOp.xor IntKind.i64 (wrap64 (na + nb)) na) (bits BinOp.xor IntKind.i64 (wrap64 (na + nb)) nb) = x3 at *
  generalize bits BinOp.xor IntKind.i64 (wrap64 (na + nb)) na = x1
  generalize bits BinOp.xor IntKind.i64 (wrap64 (na + nb)) nb = x2
  generalize wrap64 (na + nb) = sm
  refine wp_mono (Q := nrm (fun a' W' => ∃ m1 m2 xs ys, a' = { tmps := #[.agg #[.int .i64 na, .slice none 0 0], .agg #[.int .i64 nb, .slice none 0 0], .pointer (some ⟨w.heap.size, 0, none⟩), .pointer (some ⟨w.heap.size + 1, 0, none⟩), .pointer (some ⟨w.heap.size + 1 + 1, 0, none⟩), .int .i64 sm, m1, m2, .pointer (some ⟨w.heap.size, 1, none⟩), .slice none 0 0, .bool true, .bool true, .pointer (some ⟨w.heap.size + 1, 1, none⟩), .slice none 0 0, .bool true, .bool true, .pointer (some ⟨w.heap.size, 0, none⟩), .int .i64 na, .pointer (some ⟨w.heap.size + 1, 0, none⟩), .int .i64 nb, .int .i64 sm, .int .i64 sm, .pointer (some ⟨w.heap.size, 0, none⟩), .int .i64 na, .int .i64 x1, .int .i64 sm, .pointer (some ⟨w.heap.size + 1, 0, none⟩), .int .i64 nb, .int .i64 x2, .int .i64 x3, .bool false, undef, undef, .agg #[.int .i64 na, .slice none 0 0], m1, .agg #[.int .i64 nb, .slice none 0 0], m2, undef, undef, undef, undef, undef, undef, undef, undef, undef, undef, undef, undef, undef, undef, undef, undef, undef, undef, undef, undef, undef, undef, undef, undef, undef, undef, undef, undef, undef, undef, undef, undef], defers := [] } ∧ Below W1.heap.size W1 W' ∧ Mg W' m1 xs ∧ Dig xs ∧ Norm xs ∧ val xs = za.natAbs ∧ Mg W' m2 ys ∧ Dig ys ∧ Norm ys ∧ val ys = zb.natAbs)) ?reg ?go
  case reg =>
    obtain ⟨hB0, gA0, gA1, gB0, gB1, gR0, gR1, gf0, gf1, hRb, hz0, hz1, hz2⟩ := S
    have HRb := hide hRb
    have hA0 : IsI W1.drew (.agg #[.int .i64 na, .slice none 0 0]) za := hA.below hB0.drew
    have hB1 : IsI W1.drew (.agg #[.int .i64 nb, .slice none 0 0]) zb := hB.below hB0.drew
    clear hRb hA hB
    go_region_with (first
      | (go_at_call_of 60 (Value.agg #[Value.int IntKind.i64 na, Value.slice none 0 0]); refine (magnitude_any _ za _ ?_).mono ?_; exact hA0; rintro e w1 ⟨m1, xs, rfl, hb1, hm1, hd1, hn1, hv1⟩; have HV1 := hide hv1; clear hv1; have hbT1 := hb1; have kB01 := (hbT1.cell (p := ⟨w.heap.size + 1, 0, none⟩) hz1).trans gB0; have kB11 := (hbT1.cell (p := ⟨w.heap.size + 1, 1, none⟩) hz1).trans gB1)
      | (go_at_call_of 60 (Value.agg #[Value.int IntKind.i64 nb, Value.slice none 0 0]); refine (magnitude_any _ zb _ ?_).mono ?_; exact hB1.below hb1; rintro e w2 ⟨m2, ys, rfl, hb2, hm2, hd2, hn2, hv2⟩; have HV2 := hide hv2; clear hv2; have hbT2 := hbT1.trans (hb2.mono hbT1.size)))
    all_goals exact nrm_mk ⟨m1, m2, xs, ys, rfl, ⟨hbT2.os, hbT2.tape, hbT2.output, hbT2.size, hbT2.block⟩, hm1.below hb2, hd1, hn1, unhide HV1, hm2, hd2, hn2, unhide HV2⟩
  case go =>
    intro e a' W2 h9
    obtain ⟨rfl, h9⟩ := nrm_out h9
    obtain ⟨m1, m2, xs, ys, rfl, hb2, hm1, hd1, hn1, hv1, hm2, hd2, hn2, hv2⟩ := h9
    have HV1 := hide hv1
    have HV2 := hide hv2
    clear hv1 hv2
    obtain ⟨hB0, fA0, fA1, fB0, fB1, fR0, fR1, ff0, ff1, hRb1, hy0, hy1, hy2⟩ := S
    have gA0 := (hb2.cell (p := ⟨w.heap.size, 0, none⟩) hy0).trans fA0
    have gB0 := (hb2.cell (p := ⟨w.heap.size + 1, 0, none⟩) hy1).trans fB0
    have gR0 := (hb2.cell (p := ⟨w.heap.size + 1 + 1, 0, none⟩) hy2).trans fR0
    have gR1 := (hb2.cell (p := ⟨w.heap.size + 1 + 1, 1, none⟩) hy2).trans fR1
    have gf0 := (hb2.frozen (p := ⟨w.heap.size + 1 + 1, 0, none⟩) hy2).trans ff0
    have gf1 := (hb2.frozen (p := ⟨w.heap.size + 1 + 1, 1, none⟩) hy2).trans ff1
    have HRb := hide ((hb2.block (w.heap.size + 1 + 1) hy2).trans hRb1)
    have hz0 : w.heap.size < W2.heap.size := Nat.lt_of_lt_of_le hy0 hb2.size
    have hz1 : w.heap.size + 1 < W2.heap.size := Nat.lt_of_lt_of_le hy1 hb2.size
    have hz2 : w.heap.size + 1 + 1 < W2.heap.size := Nat.lt_of_lt_of_le hy2 hb2.size
    have hB2 := hB0.trans (hb2.mono (B' := w.heap.size) (Nat.le_of_lt hy0))
    have HN := hide (And.intro hA.below0 hB.below0)
    clear fA0 fA1 fB0 fB1 fR0 fR1 ff0 ff1 hRb1 hB0 hb2 hy0 hy1 hy2 hA hB
    have hlx := lenk hd1 hn1 (unhide HV1) (unhide HZA)
    have hly := lenk hd2 hn2 (unhide HV2) (unhide HZB)
    have hsg : (decide (na < 0) == decide (nb < 0)) = true := by
      have h8 := unhide HOV
      have h9 := unhide HN
      simp only [h9.1, h9.2]
      rcases h8 with h8 | h8
      · simp; omega
      · simp; omega
    have HSG : Hid ((za < 0) = (zb < 0)) := by
      have h9 := unhide HN
      show _ = _
      rw [← h9.1, ← h9.2]
      simpa using hsg
    have hlen3 : xs.length + ys.length + 1 ≤ 100000 := by omega
    go_wp2
    go_region_with (first
      | (go_at_call 61; refine (addMag_any _ _ xs ys _ ?_ ?_ hd1 hd2 hlx hly).mono ?_; exact hm1; exact hm2; rintro e w3 ⟨m3, zs, rfl, hb3, hm3, hd3, hn3, hv3, hl3⟩; have HV3 := hide hv3; clear hv3; have hbT3 := hb3; have kA03 := (hbT3.cell (p := ⟨w.heap.size, 0, none⟩) hz0).trans gA0; have kB03 := (hbT3.cell (p := ⟨w.heap.size + 1, 0, none⟩) hz1).trans gB0)
      | (go_at_call 56; refine (ofMag_any _ _ zs _ hm3 hd3 hn3 ?_).mono ?_; exact Nat.le_trans hl3 hlen3; rintro e w4 ⟨r4, rfl, hb4, hI4⟩; obtain ⟨n4, a4, l4, c4, rfl⟩ := hI4.form; have hbT4 := hbT3.trans (hb4.mono hbT3.size); have HI4 := hide hI4; clear hI4; have kR0 := (hbT4.cell (p := ⟨w.heap.size + 1 + 1, 0, none⟩) hz2).trans gR0; have kR1 := (hbT4.cell (p := ⟨w.heap.size + 1 + 1, 1, none⟩) hz2).trans gR1; have kf0 := (hbT4.frozen (p := ⟨w.heap.size + 1 + 1, 0, none⟩) hz2).trans gf0; have kf1 := (hbT4.frozen (p := ⟨w.heap.size + 1 + 1, 1, none⟩) hz2).trans gf1))
    all_goals
      go_wp2
      refine bodyPost_ret (v := .agg #[.int .i64 n4, .slice a4 l4 c4]) ?_ rfl ?_
      · simp [results, Tryz.results45, go_sem, kR0, kR1]
      · have hI4 := unhide HI4
        have hrb4 := (hbT4.block (w.heap.size + 1 + 1) hz2).trans (unhide HRb)
        have e9 := add_same (unhide HSG) (unhide HN).1 (unhide HV1) (unhide HV2) (unhide HV3)
        rw [e9] at hI4
        exact ⟨_, rfl, ret_store (hB2.drew.trans (hbT4.mono (B' := w.heap.size) (Nat.le_of_lt hz0))) hI4 (by omega) hrb4 _ _⟩

/-- Add. -/
theorem add_any (va vb : Value) (za zb : Int) (w : World) (hA : IsI w va za) (hB : IsI w vb zb) (hza : (za.natAbs : Int) < pw 4000) (hzb : (zb.natAbs : Int) < pw 4000) :
    Calls Tryz.prog 45 #[va, vb] w fun e w' => ∃ r, e = .returned r ∧ Below w.heap.size w w' ∧ IsI w' r (za + zb) := by
  have hA' := hA
  have hB' := hB
  rcases hA with ⟨rfl, h1, h2⟩ | ⟨b, off, cap, xs, rfl, _⟩
  · rcases hB with ⟨rfl, h3, h4⟩ | ⟨b, off, cap, xs, rfl, _⟩
    · by_cases h : -9223372036854775808 ≤ za + zb ∧ za + zb ≤ 9223372036854775807
      · exact add_small za zb w h1 h2 h3 h4 h.1 h.2
      · exact add_over za zb za zb w hA' hB' hza hzb (by omega)
    · exact add_big2 _ _ _ _ _ za zb w hA' hB' hza hzb
  · obtain ⟨nb, ab, lb, cb, rfl⟩ := hB.form
    exact add_big1 _ _ _ _ _ _ _ _ za zb w hA' hB' hza hzb

end Go.Proofs.YthgdmppmjnmiiaaGreatDoor.Nm

/- Sub; quoSmall: the quotient of two int64s. -/
namespace Go.Proofs.YthgdmppmjnmiiaaGreatDoor.Nm
open Go.RowKit
attribute [local go_sem] eqnil_some eqnil_none nenil_some nenil_none

/-- Two results' cells. -/
structure SetR (w W0 : World) : Prop where
  bel : Below w.heap.size w W0
  r0 : W0.cell? ⟨w.heap.size, 0, none⟩ = some (.int .i64 0)
  r1 : W0.cell? ⟨w.heap.size, 1, none⟩ = some (.slice none 0 0)
  s0 : W0.cell? ⟨w.heap.size + 1, 0, none⟩ = some (.int .i64 0)
  s1 : W0.cell? ⟨w.heap.size + 1, 1, none⟩ = some (.slice none 0 0)
  f : ∀ o, W0.frozen? ⟨w.heap.size, o, none⟩ = false
  g : ∀ o, W0.frozen? ⟨w.heap.size + 1, o, none⟩ = false
  z0 : w.heap.size < W0.heap.size
  z1 : w.heap.size + 1 < W0.heap.size
theorem SetR.drewN {w W0 : World} (S : SetR w W0) (q : Nat) : SetR w (W0.drewN q) :=
  ⟨⟨S.bel.os, S.bel.tape, S.bel.output, S.bel.size, S.bel.block⟩, S.r0, S.r1, S.s0, S.s1, S.f, S.g, S.z0, S.z1⟩

end Go.Proofs.YthgdmppmjnmiiaaGreatDoor.Nm

/- The document's numbers: trim, Parse, Must at right texts: that they return, and what form. -/
namespace Go.Proofs.YthgdmppmjnmiiaaGreatDoor.Nm
open Go.RowKit

theorem infoInt : (Tryz.prog.info? 3).map (fun i => (i.zero, i.size, i.bytes)) = some (some (.int .i64 0), 1, 8) := by kernel_rfl
/-- The slice value reads as the ints xs. -/
def Ns (w : World) (v : Value) (xs : List Int) : Prop :=
  ∃ a cap, v = .slice a xs.length cap ∧ xs.length ≤ cap ∧ (xs ≠ [] → ∃ b off, a = some ⟨b, off, none⟩ ∧ b < w.heap.size ∧ ∀ j, j < xs.length → w.cell? ⟨b, off + j, none⟩ = some (.int .i64 (xs[j]?.getD 0)))
theorem Ns.below {w w' : World} {v : Value} {xs : List Int} (h : Ns w v xs) (hb : Below w.heap.size w w') : Ns w' v xs := by
  obtain ⟨a, cap, e, hc, hr⟩ := h
  refine ⟨a, cap, e, hc, fun hne => ?_⟩
  obtain ⟨b, off, ea, hlt, hcell⟩ := hr hne
  exact ⟨b, off, ea, Nat.lt_of_lt_of_le hlt hb.size, fun j hj => (hb.cell (p := ⟨b, off + j, none⟩) hlt).trans (hcell j hj)⟩
theorem Ns.of_owns {w : World} {base : Nat} {v : Value} {xs : List Int} (h : w.ownsRow base 3 1 v xs.length (xs.map (Value.int .i64))) : Ns w v xs := by
  rcases h.2 with ⟨rfl, h0⟩ | ⟨g, cap, cur, rfl, hb, hg, hn, hc, hs, ht⟩
  · rw [List.eq_nil_of_length_eq_zero h0]; exact ⟨_, _, rfl, Nat.zero_le _, fun h => absurd rfl h⟩
  · refine ⟨_, cap, rfl, hn, fun hne => ⟨g, 0, rfl, (Array.getElem?_eq_some_iff.1 hg).1, fun j hj => ?_⟩⟩
    have := h.cells (g := g) rfl j (.int .i64 (xs[j]?.getD 0)) (by simp [hj])
    have e : (⟨g, 0, none⟩ : Addr).add j = ⟨g, 0 + j, none⟩ := by unfold Addr.add; split <;> simp_all
    rw [e] at this
    exact this
/-- The block R holds the document's number v. -/
def NB (W : World) (R : Nat) (v : Value) : Prop := ∃ b a l c, v = .agg #[.bool b, .slice a l c] ∧ W.heap[R]? = some (.cells #[.bool b, .slice a l c] 58)
theorem NB.lt {W : World} {R : Nat} {v : Value} (h : NB W R v) : R < W.heap.size := by
  obtain ⟨_, _, _, _, _, h⟩ := h
  exact (Array.getElem?_eq_some_iff.1 h).1
theorem NB.facts {W : World} {R : Nat} {b : Bool} {a : Option Addr} {l c : Nat} (h : NB W R (.agg #[.bool b, .slice a l c])) : W.cell? ⟨R, 0, none⟩ = some (.bool b) ∧ W.cell? ⟨R, 1, none⟩ = some (.slice a l c) ∧ W.frozen? ⟨R, 0, none⟩ = false ∧ W.frozen? ⟨R, 1, none⟩ = false := by
  obtain ⟨n', a', l', c', e, h⟩ := h
  simp only [Value.agg.injEq, Array.mk.injEq, List.cons.injEq, Value.bool.injEq, Value.slice.injEq, and_true] at e
  obtain ⟨rfl, rfl, rfl, rfl⟩ := e
  refine ⟨?_, ?_, ?_, ?_⟩
  · simp [World.cell?, h]
  · simp [World.cell?, h]
  · simp [World.frozen?, h]
  · simp [World.frozen?, h]
theorem NB.below {W W' : World} {R : Nat} {v : Value} (h : NB W R v) (hb : Below W.heap.size W W') : NB W' R v := by
  have hl := h.lt
  obtain ⟨n, a, l, c, e, h⟩ := h
  exact ⟨n, a, l, c, e, (hb.block R hl).trans h⟩
theorem NB.new (W : World) (b : Bool) (a : Option Addr) (l c : Nat) : NB (W.alloc (.cells #[.bool b, .slice a l c] 58)) W.heap.size (.agg #[.bool b, .slice a l c]) := ⟨b, a, l, c, rfl, heap_alloc_new W _⟩
theorem NB.alloc {W : World} {R : Nat} {v : Value} (h : NB W R v) (o : Obj) : NB (W.alloc o) R v := h.below ((Below.refl _ W).alloc (Nat.le_refl _) _)
theorem NB.drew {W : World} {R : Nat} {v : Value} (h : NB W R v) : NB W.drew R v := h
theorem NB.set {W : World} {R : Nat} {v : Value} (h : NB W R v) (b : Bool) (a : Option Addr) (l c : Nat) : NB ((W.setCell ⟨R, 0, none⟩ (.bool b)).setCell ⟨R, 1, none⟩ (.slice a l c)) R (.agg #[.bool b, .slice a l c]) := by
  obtain ⟨_, _, _, _, _, h⟩ := h
  exact ⟨b, a, l, c, rfl, heap_set h⟩
theorem NB.other {W : World} {R : Nat} {v : Value} (h : NB W R v) {p : Addr} (hp : p.block ≠ R) (x : Value) : NB (W.setCell p x) R v := by
  obtain ⟨n, a, l, c, e, h⟩ := h
  exact ⟨n, a, l, c, e, (Below.heap_setCell _ _ _ _ (fun e => hp e.symm)).trans h⟩

theorem one64 (d : Int) : ∀ u ∈ [Value.int .i64 d], u.oneCell' = true := by
  intro u hu
  simp at hu
  subst hu
  rfl
theorem own_snocI {w : World} {base : Nat} {v : Value} {xs : List Int} {d : Int} (h : w.ownsRow base 3 1 v (xs.length + 1) (xs.map (Value.int .i64) ++ [.int .i64 d])) :
    w.ownsRow base 3 1 v (xs ++ [d]).length ((xs ++ [d]).map (Value.int .i64)) := by simpa using h

end Go.Proofs.YthgdmppmjnmiiaaGreatDoor.Nm

/- Must; avowlaw1.of: the number of any text. -/
namespace Go.Proofs.YthgdmppmjnmiiaaGreatDoor.Nm
open Go.RowKit

theorem info8 : (Tryz.prog.info? 5).map (fun i => (i.zero, i.size, i.bytes)) = some (some (.int .u8 0), 1, 1) := by kernel_rfl
/-- A number is kept while a box of the document's is written. -/
theorem IsI.putN {W : World} {v u : Value} {z : Int} (h : IsI W v z) {R : Nat} (hR : NB W R u) (c0 c1 : Value) : IsI ((W.setCell ⟨R, 0, none⟩ c0).setCell ⟨R, 1, none⟩ c1) v z := by
  obtain ⟨n, a, l, c, _, hR⟩ := hR
  rcases h with h | ⟨b, off, cap, xs, e, h1, h2, h3, h4, h5, h6, h7⟩
  · exact .inl h
  · have hbR : b ≠ R := by
      rintro rfl
      have h0 := h3 0 (List.length_pos_iff.2 (IsI.ne_nil h6 h7))
      simp only [World.cell?, hR, Nat.add_zero, Option.isSome_none, Bool.false_eq_true, if_false] at h0
      match off, h0 with
      | 0, h0 => simp at h0
      | 1, h0 => simp at h0
      | k + 2, h0 => simp at h0
    refine .inr ⟨b, off, cap, xs, e, h1, by simpa using h2, fun j hj => ?_, h4, h5, h6, h7⟩
    rw [World.cell?_setCell_other _ _ _ _ (by intro e; injection e with e1; exact hbR e1.symm), World.cell?_setCell_other _ _ _ _ (by intro e; injection e with e1; exact hbR e1.symm)]
    exact h3 j hj
/-- The cells of bytes. -/
def bc (l : List UInt8) : List Value := l.map (fun b => Value.int .u8 (b.toNat : Int))

theorem one8 (d : Int) : ∀ u ∈ [Value.int .u8 d], u.oneCell' = true := by
  intro u hu
  simp at hu
  subst hu
  rfl
theorem own_snoc8 {w : World} {base : Nat} {v : Value} {Bs : List UInt8} {c : UInt8} (h : w.ownsRow base 5 1 v (Bs.length + 1) (bc Bs ++ [.int .u8 (c.toNat : Int)])) :
    w.ownsRow base 5 1 v (Bs ++ [c]).length (bc (Bs ++ [c])) := by simpa [bc] using h
/-- A row of bytes that isn't empty lies in memory. -/
theorem own_form8 {w : World} {base : Nat} {v : Value} {l : List UInt8} (h : w.ownsRow base 5 1 v l.length (bc l)) (hl : 0 < l.length) : ∃ g cap, v = .slice (some ⟨g, 0, none⟩) l.length cap ∧ base ≤ g ∧ g < w.heap.size ∧ l.length ≤ cap ∧ ∀ j (hj : j < l.length), w.cell? ⟨g, j, none⟩ = some (.int .u8 ((l[j]'hj).toNat : Int)) := by
  rcases h.2 with ⟨rfl, h0⟩ | ⟨g, cap, cur, rfl, hb, hg, hn, _⟩
  · omega
  · refine ⟨g, cap, rfl, hb, (Array.getElem?_eq_some_iff.1 hg).1, by omega, fun j hj => ?_⟩
    have := h.cells (g := g) rfl j (.int .u8 ((l[j]'hj).toNat : Int)) (by simp [bc, hj])
    rw [Addr.add_lit, Nat.zero_add] at this
    exact this
/-- Digits, no nought ahead. -/
structure OB (Bs : List UInt8) : Prop where
  dg : Dg Bs
  h : Bs.head? ≠ some 48
theorem OB.nil : OB [] := ⟨(fun _ h => by simp at h), by simp⟩
theorem OB.snoc {Bs : List UInt8} {c : UInt8} (h : OB Bs) (c0 : 48 ≤ c.toNat) (c1 : c.toNat ≤ 57) (hc : Bs ≠ [] ∨ 48 < c.toNat) : OB (Bs ++ [c]) := by
  refine ⟨fun b hb => ?_, ?_⟩
  · rcases List.mem_append.1 hb with hb | hb
    · exact h.dg b hb
    · simp at hb; subst hb; exact ⟨c0, c1⟩
  · cases Bs with
    | nil =>
      rcases hc with hc | hc
      · exact absurd rfl hc
      · simp only [List.nil_append, List.head?_cons, ne_eq, Option.some.injEq]
        rintro rfl
        simp at hc
    | cons b Bs => simpa using h.h

theorem conv8 (W : World) (g cap n : Nat) (l : List UInt8) (hn : l.length = n) (hc : ∀ j (hj : j < l.length), W.cell? ⟨g, j, none⟩ = some (.int .u8 ((l[j]'hj).toNat : Int))) :
    (convert 90 9 (.slice (some ⟨g, 0, none⟩) n cap)).run Tryz.prog W = .ok (.string ⟨l.toArray⟩) W := by
  subst hn
  exact run_convert_bytes_back (P := Tryz.prog) W 90 9 5 ⟨g, 0, none⟩ cap l Tryz.underlying90 Tryz.underlying5 Tryz.underlying9 (fun j hj => by
    rw [Addr.add_lit, Nat.zero_add]
    exact hc j hj)
end Go.Proofs.YthgdmppmjnmiiaaGreatDoor.Nm

/- Cmp of two numbers. -/
namespace Go.Proofs.YthgdmppmjnmiiaaGreatDoor.Nm
open Go.RowKit
attribute [local go_sem] eqnil_some eqnil_none nenil_some nenil_none

end Go.Proofs.YthgdmppmjnmiiaaGreatDoor.Nm

/- putBack: one time of a divisor added in place. -/
namespace Go.Proofs.YthgdmppmjnmiiaaGreatDoor.Nm
open Go.RowKit

theorem InBlk.drew {b off n : Nat} {w w1 : World} (h : InBlk b off n w w1) : InBlk b off n w w1.drew :=
  h.trans ⟨rfl, rfl, rfl, rfl, fun _ _ => rfl, fun _ _ => rfl, fun _ => rfl⟩
end Go.Proofs.YthgdmppmjnmiiaaGreatDoor.Nm

/- guess: a digit of the quotient, or one more than it. -/
namespace Go.Proofs.YthgdmppmjnmiiaaGreatDoor.Nm
open Go.RowKit

theorem cell_lt' {w : World} {p : Addr} {v : Value} (h : w.cell? p = some v) : p.block < w.heap.size := by
  obtain ⟨o, ho, _⟩ := cells_of_cell h
  exact (Array.getElem?_eq_some_iff.1 ho).1
end Go.Proofs.YthgdmppmjnmiiaaGreatDoor.Nm

/- slices.Backward over a slice that the loop's body writes: the places from the top down, whatever stands there. -/
namespace Go.Proofs.YthgdmppmjnmiiaaGreatDoor.Nm
open Go.RowKit Go.Shelf
attribute [local go_sem] Oper.semAt_some

/-- A box is kept, and a row of so many uint32s stays one. -/
def KpO (p q n : Nat) (W W' : World) : Prop := W'.heap[p]? = W.heap[p]? ∧ ∀ zs : List Int, zs.length = n → At W q 0 zs → ∃ zs' : List Int, zs'.length = n ∧ At W' q 0 zs'
theorem KpO.refl (p q n : Nat) (W : World) : KpO p q n W W := ⟨rfl, fun zs h1 h2 => ⟨zs, h1, h2⟩⟩
end Go.Proofs.YthgdmppmjnmiiaaGreatDoor.Nm

namespace Go.Proofs.YthgdmppmjnmiiaaGreatDoor.Nm
open Go.RowKit
attribute [local go_sem] eqnil_some eqnil_none nenil_some nenil_none

end Go.Proofs.YthgdmppmjnmiiaaGreatDoor.Nm
