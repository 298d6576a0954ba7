/- Add of numbers the first of which is great. -/
import Derived.Test.YtlcfldkmojpkpaaGreatDoorR1
import Derived.Test.YtlcfldkmojpkpaaGreatDoorK
namespace Go.Proofs.YtlcfldkmojpkpaaGreatDoor
open Go.RowKit
attribute [local go_sem] eqnil_some eqnil_none nenil_some nenil_none

/-- A way that goes on, and what holds there. -/
def nrm (R : Act → World → Prop) : Exit → Act → World → Prop
  | .normal, a, w => R a w
  | _, _, _ => False
theorem nrm_mk {R : Act → World → Prop} {a : Act} {w : World} (h : R a w) : nrm R .normal a w := h
theorem nrm_out {R : Act → World → Prop} {e : Exit} {a : Act} {w : World} (h : nrm R e a w) : e = .normal ∧ R a w := by
  cases e with
  | normal => exact ⟨rfl, h⟩
  | _ => exact h.elim
theorem add_same {n za zb : Int} {xs ys zs : List Int} (hs : (za < 0) = (zb < 0)) (hn : (n < 0) = (za < 0)) (hx : val xs = za.natAbs) (hy : val ys = zb.natAbs) (hz : val zs = val xs + val ys) : (if decide (n < 0) = true then - val zs else val zs) = za + zb := by
  rw [hz, hx, hy]
  by_cases h : za < 0
  · have h2 : zb < 0 := by rw [← hs]; exact h
    rw [if_pos (by simp [hn, h])]; omega
  · have h2 : ¬ zb < 0 := by rw [← hs]; exact h
    rw [if_neg (by simp [hn, h])]; omega
theorem add_diff {n za zb : Int} {xs ys zs : List Int} (hs : ¬ (za < 0) = (zb < 0)) (hn : (n < 0) = (za < 0)) (_hle : val ys ≤ val xs) (hx : val xs = za.natAbs) (hy : val ys = zb.natAbs) (hz : val zs = val xs - val ys) : (if decide (n < 0) = true then - val zs else val zs) = za + zb := by
  rw [hz, hx, hy]
  by_cases h : za < 0
  · have h2 : ¬ zb < 0 := fun h2 => hs (by simp [h, h2])
    rw [if_pos (by simp [hn, h])]; omega
  · have h2 : zb < 0 := by
      apply Classical.byContradiction
      intro h2
      exact hs (by simp [h, h2])
    rw [if_neg (by simp [hn, h])]; omega
theorem add_diff2 {n za zb : Int} {xs ys zs : List Int} (hs : ¬ (za < 0) = (zb < 0)) (hn : (n < 0) = (zb < 0)) (hle : val xs ≤ val ys) (hx : val xs = za.natAbs) (hy : val ys = zb.natAbs) (hz : val zs = val ys - val xs) : (if decide (n < 0) = true then - val zs else val zs) = za + zb := by
  rw [add_diff (fun h => hs h.symm) hn hle hy hx hz]
  omega
theorem len_mono {xs ys : List Int} (hx : Dig xs) (hy : Dig ys) (ny : Norm ys) (h : val ys ≤ val xs) : ys.length ≤ xs.length := by
  apply Nat.le_of_not_lt
  intro hl
  have := val_lt_of_len hx hy ny hl
  omega
theorem ne_of_signs {xs ys : List Int} {za zb : Int} (hs : ¬ (za < 0) = (zb < 0)) (hx : val xs = za.natAbs) (hy : val ys = zb.natAbs) (h : val ys ≤ val xs) : xs ≠ [] := by
  rintro rfl
  simp only [val] at hx h
  apply hs
  have h1 : za = 0 := by omega
  have h2 : zb = 0 := by omega
  rw [h1, h2]

set_option maxRecDepth 100000 in
set_option maxHeartbeats 4000000 in
theorem add_big1 (na nb : Int) (ada : Addr) (la ca : Nat) (ab : Option Addr) (lb cb : Nat) (za zb : Int) (w : World) (hA : IsI w (.agg #[.int .i64 na, .slice (some ada) la ca]) za) (hB : IsI w (.agg #[.int .i64 nb, .slice ab lb cb]) zb) (hza : (za.natAbs : Int) < pw 4000) (hzb : (zb.natAbs : Int) < pw 4000) :
    Calls Tryz.prog 30 #[.agg #[.int .i64 na, .slice (some ada) la ca], .agg #[.int .i64 nb, .slice ab lb cb]] w fun e w' => ∃ r, e = .returned r ∧ Below w.heap.size w w' ∧ IsI w' r (za + zb) := by
  have HZA := hide hza
  have HZB := hide hzb
  clear hza hzb
  obtain ⟨W1, hW0, S⟩ := setup2 w (.int .i64 na) (.slice (some ada) la ca) (.int .i64 nb) (.slice ab lb cb)
  have HW := hide hW0
  clear hW0
  go_enter Tryz.func30, Tryz.ntmps30
  go_wp2
  rw [unhide HW]
  refine wp_mono (Q := nrm (fun a' W' => ∃ m1 m2 xs ys, a' = { tmps := #[.agg #[.int .i64 na, .slice (some ada) la ca], .agg #[.int .i64 nb, .slice ab lb cb], .pointer (some ⟨w.heap.size, 0, none⟩), .pointer (some ⟨w.heap.size + 1, 0, none⟩), .pointer (some ⟨w.heap.size + 1 + 1, 0, none⟩), undef, m1, m2, .pointer (some ⟨w.heap.size, 1, none⟩), .slice (some ada) la ca, .bool false, .bool false, undef, undef, undef, .bool false, undef, undef, undef, undef, undef, undef, undef, undef, undef, undef, undef, undef, undef, undef, undef, undef, undef, .agg #[.int .i64 na, .slice (some ada) la ca], m1, .agg #[.int .i64 nb, .slice ab lb cb], m2, undef, undef, undef, undef, undef, undef, undef, undef, undef, undef, undef, undef, undef, undef, undef, undef, undef, undef, undef, undef, undef, undef, undef, undef, undef, undef, undef, undef, undef, undef, undef, undef], defers := [] } ∧ Below W1.heap.size W1 W' ∧ Mg W' m1 xs ∧ Dig xs ∧ Norm xs ∧ val xs = za.natAbs ∧ Mg W' m2 ys ∧ Dig ys ∧ Norm ys ∧ val ys = zb.natAbs)) ?reg ?go
  case reg =>
    obtain ⟨hB0, gA0, gA1, gB0, gB1, gR0, gR1, gf0, gf1, hRb, hz0, hz1, hz2⟩ := S
    have HRb := hide hRb
    have hA0 : IsI W1.drew (.agg #[.int .i64 na, .slice (some ada) la ca]) za := hA.below hB0.drew
    have hB1 : IsI W1.drew (.agg #[.int .i64 nb, .slice ab lb cb]) zb := hB.below hB0.drew
    clear hRb hA hB
    go_region_with (first
      | (go_at_call_of 57 (Value.agg #[Value.int IntKind.i64 na, Value.slice (some ada) la ca]); refine (magnitude_any _ za _ ?_).mono ?_; exact hA0; rintro e w1 ⟨m1, xs, rfl, hb1, hm1, hd1, hn1, hv1⟩; have HV1 := hide hv1; clear hv1; have hbT1 := hb1; have kB01 := (hbT1.cell (p := ⟨w.heap.size + 1, 0, none⟩) hz1).trans gB0; have kB11 := (hbT1.cell (p := ⟨w.heap.size + 1, 1, none⟩) hz1).trans gB1)
      | (go_at_call_of 57 (Value.agg #[Value.int IntKind.i64 nb, Value.slice ab lb cb]); refine (magnitude_any _ zb _ ?_).mono ?_; exact hB1.below hb1; rintro e w2 ⟨m2, ys, rfl, hb2, hm2, hd2, hn2, hv2⟩; have HV2 := hide hv2; clear hv2; have hbT2 := hbT1.trans (hb2.mono hbT1.size)))
    all_goals exact nrm_mk ⟨m1, m2, xs, ys, rfl, ⟨hbT2.os, hbT2.tape, hbT2.output, hbT2.size, hbT2.block⟩, hm1.below hb2, hd1, hn1, unhide HV1, hm2, hd2, hn2, unhide HV2⟩
  case go =>
    intro e a' W2 h9
    obtain ⟨rfl, h9⟩ := nrm_out h9
    obtain ⟨m1, m2, xs, ys, rfl, hb2, hm1, hd1, hn1, hv1, hm2, hd2, hn2, hv2⟩ := h9
    have HV1 := hide hv1
    have HV2 := hide hv2
    clear hv1 hv2
    obtain ⟨hB0, fA0, fA1, fB0, fB1, fR0, fR1, ff0, ff1, hRb1, hy0, hy1, hy2⟩ := S
    have gA0 := (hb2.cell (p := ⟨w.heap.size, 0, none⟩) hy0).trans fA0
    have gB0 := (hb2.cell (p := ⟨w.heap.size + 1, 0, none⟩) hy1).trans fB0
    have gR0 := (hb2.cell (p := ⟨w.heap.size + 1 + 1, 0, none⟩) hy2).trans fR0
    have gR1 := (hb2.cell (p := ⟨w.heap.size + 1 + 1, 1, none⟩) hy2).trans fR1
    have gf0 := (hb2.frozen (p := ⟨w.heap.size + 1 + 1, 0, none⟩) hy2).trans ff0
    have gf1 := (hb2.frozen (p := ⟨w.heap.size + 1 + 1, 1, none⟩) hy2).trans ff1
    have HRb := hide ((hb2.block (w.heap.size + 1 + 1) hy2).trans hRb1)
    have hz0 : w.heap.size < W2.heap.size := Nat.lt_of_lt_of_le hy0 hb2.size
    have hz1 : w.heap.size + 1 < W2.heap.size := Nat.lt_of_lt_of_le hy1 hb2.size
    have hz2 : w.heap.size + 1 + 1 < W2.heap.size := Nat.lt_of_lt_of_le hy2 hb2.size
    have hB2 := hB0.trans (hb2.mono (B' := w.heap.size) (Nat.le_of_lt hy0))
    have HN := hide (And.intro hA.below0 hB.below0)
    clear fA0 fA1 fB0 fB1 fR0 fR1 ff0 ff1 hRb1 hB0 hb2 hy0 hy1 hy2 hA hB
    have hlx := lenk hd1 hn1 (unhide HV1) (unhide HZA)
    have hly := lenk hd2 hn2 (unhide HV2) (unhide HZB)
    by_cases hsg9 : (za < 0) = (zb < 0)
    · have hsg : (decide (na < 0) == decide (nb < 0)) = true := by
        have h9 := unhide HN
        simp only [h9.1, h9.2, hsg9]
        simp
      have HSG := hide hsg9
      clear hsg9
      have hlen3 : xs.length + ys.length + 1 ≤ 100000 := by omega
      go_wp2
      go_region_with (first
        | (go_at_call 59; refine (addMag_any _ _ xs ys _ ?_ ?_ hd1 hd2 hlx hly).mono ?_; exact hm1; exact hm2; rintro e w3 ⟨m3, zs, rfl, hb3, hm3, hd3, hn3, hv3, hl3⟩; have HV3 := hide hv3; clear hv3; have hbT3 := hb3; have kA03 := (hbT3.cell (p := ⟨w.heap.size, 0, none⟩) hz0).trans gA0; have kB03 := (hbT3.cell (p := ⟨w.heap.size + 1, 0, none⟩) hz1).trans gB0)
        | (go_at_call 58; refine (ofMag_any _ _ zs _ hm3 hd3 hn3 ?_).mono ?_; exact Nat.le_trans hl3 hlen3; rintro e w4 ⟨r4, rfl, hb4, hI4⟩; obtain ⟨n4, a4, l4, c4, rfl⟩ := hI4.form; have hbT4 := hbT3.trans (hb4.mono hbT3.size); have HI4 := hide hI4; clear hI4; have kR0 := (hbT4.cell (p := ⟨w.heap.size + 1 + 1, 0, none⟩) hz2).trans gR0; have kR1 := (hbT4.cell (p := ⟨w.heap.size + 1 + 1, 1, none⟩) hz2).trans gR1; have kf0 := (hbT4.frozen (p := ⟨w.heap.size + 1 + 1, 0, none⟩) hz2).trans gf0; have kf1 := (hbT4.frozen (p := ⟨w.heap.size + 1 + 1, 1, none⟩) hz2).trans gf1))
      all_goals
        go_wp2
        refine bodyPost_ret (v := .agg #[.int .i64 n4, .slice a4 l4 c4]) ?_ rfl ?_
        · simp [results, Tryz.results30, go_sem, kR0, kR1]
        · have hI4 := unhide HI4
          have hrb4 := (hbT4.block (w.heap.size + 1 + 1) hz2).trans (unhide HRb)
          have e9 := add_same (unhide HSG) (unhide HN).1 (unhide HV1) (unhide HV2) (unhide HV3)
          rw [e9] at hI4
          exact ⟨_, rfl, ret_store (hB2.drew.trans (hbT4.mono (B' := w.heap.size) (Nat.le_of_lt hz0))) hI4 (by omega) hrb4 _ _⟩

    · have hsg : (decide (na < 0) == decide (nb < 0)) = false := by
        have h9 := unhide HN
        simp only [h9.1, h9.2]
        by_cases h7 : za < 0
        · by_cases h6 : zb < 0
          · exact absurd (by simp [h7, h6]) hsg9
          · simp [h7, h6]
        · by_cases h6 : zb < 0
          · simp [h7, h6]
          · exact absurd (by simp [h7, h6]) hsg9
      have HSG := hide hsg9
      clear hsg9
      have hcc := cmpMag_any m1 m2 xs ys W2 hm1 hm2 hd1 hd2 hn1 hn2 (by omega) (by omega)
      generalize hcv : cmpI (val xs) (val ys) = cv at hcc
      have HC := hide hcc
      clear hcc
      by_cases hle : val ys ≤ val xs
      · have hcv0 : 0 ≤ cv := by
          rw [← hcv]; unfold cmpI
          rw [if_neg (by omega)]
          split <;> omega
        have hly2 := len_mono hd1 hd2 hn2 hle
        have hne1 := ne_of_signs (unhide HSG) (unhide HV1) (unhide HV2) hle
        clear hcv
        go_wp2_with fail
        refine (unhide HC).mono ?_
        rintro e W3 ⟨rfl, hb9⟩
        have gA0 := (hb9.cell (p := ⟨w.heap.size, 0, none⟩) hz0).trans gA0
        have gB0 := (hb9.cell (p := ⟨w.heap.size + 1, 0, none⟩) hz1).trans gB0
        have gR0 := (hb9.cell (p := ⟨w.heap.size + 1 + 1, 0, none⟩) hz2).trans gR0
        have gR1 := (hb9.cell (p := ⟨w.heap.size + 1 + 1, 1, none⟩) hz2).trans gR1
        have gf0 := (hb9.frozen (p := ⟨w.heap.size + 1 + 1, 0, none⟩) hz2).trans gf0
        have gf1 := (hb9.frozen (p := ⟨w.heap.size + 1 + 1, 1, none⟩) hz2).trans gf1
        have HRb := hide ((hb9.block (w.heap.size + 1 + 1) hz2).trans (unhide HRb))
        have hz0' : w.heap.size < W3.heap.size := Nat.lt_of_lt_of_le hz0 hb9.size
        have hz1' : w.heap.size + 1 < W3.heap.size := Nat.lt_of_lt_of_le hz1 hb9.size
        have hz2' : w.heap.size + 1 + 1 < W3.heap.size := Nat.lt_of_lt_of_le hz2 hb9.size
        have hB2 := hB2.trans (hb9.mono (B' := w.heap.size) (Nat.le_of_lt hz0))
        have hm1 := hm1.below hb9
        have hm2 := hm2.below hb9
        clear hz0 hz1 hz2
        have hz0 := hz0'
        have hz1 := hz1'
        have hz2 := hz2'
        clear hz0' hz1' hz2' hb9
        have hlen3 : xs.length ≤ 100000 := by omega
        go_wp2
        go_region_with (first
          | (go_at_call 61; refine (subMag_any _ _ xs ys _ ?_ ?_ hd1 hd2 hlx hly2 hne1 hle).mono ?_; exact hm1; exact hm2; rintro e w3 ⟨m3, zs, rfl, hb3, hm3, hd3, hn3, hv3, hl3⟩; have HV3 := hide hv3; clear hv3; have hbT3 := hb3; have kA03 := (hbT3.cell (p := ⟨w.heap.size, 0, none⟩) hz0).trans gA0; have kB03 := (hbT3.cell (p := ⟨w.heap.size + 1, 0, none⟩) hz1).trans gB0)
          | (go_at_call 58; refine (ofMag_any _ _ zs _ hm3 hd3 hn3 ?_).mono ?_; exact Nat.le_trans hl3 hlen3; rintro e w4 ⟨r4, rfl, hb4, hI4⟩; obtain ⟨n4, a4, l4, c4, rfl⟩ := hI4.form; have hbT4 := hbT3.trans (hb4.mono hbT3.size); have HI4 := hide hI4; clear hI4; have kR0 := (hbT4.cell (p := ⟨w.heap.size + 1 + 1, 0, none⟩) hz2).trans gR0; have kR1 := (hbT4.cell (p := ⟨w.heap.size + 1 + 1, 1, none⟩) hz2).trans gR1; have kf0 := (hbT4.frozen (p := ⟨w.heap.size + 1 + 1, 0, none⟩) hz2).trans gf0; have kf1 := (hbT4.frozen (p := ⟨w.heap.size + 1 + 1, 1, none⟩) hz2).trans gf1))
        all_goals
          go_wp2
          refine bodyPost_ret (v := .agg #[.int .i64 n4, .slice a4 l4 c4]) ?_ rfl ?_
          · simp [results, Tryz.results30, go_sem, kR0, kR1]
          · have hI4 := unhide HI4
            have hrb4 := (hbT4.block (w.heap.size + 1 + 1) hz2).trans (unhide HRb)
            have e9 := add_diff (unhide HSG) (unhide HN).1 hle (unhide HV1) (unhide HV2) (unhide HV3)
            rw [e9] at hI4
            exact ⟨_, rfl, ret_store (hB2.drew.trans (hbT4.mono (B' := w.heap.size) (Nat.le_of_lt hz0))) hI4 (by omega) hrb4 _ _⟩

      · have hcv0 : cv < 0 := by
          rw [← hcv]; unfold cmpI
          rw [if_pos (by omega)]
          omega
        have hly2 := len_mono hd2 hd1 hn1 (show val xs ≤ val ys by omega)
        have hne1 := ne_of_signs (fun h => unhide HSG h.symm) (unhide HV2) (unhide HV1) (show val xs ≤ val ys by omega)
        have hleq : val xs ≤ val ys := by omega
        clear hcv hle
        go_wp2_with fail
        refine (unhide HC).mono ?_
        rintro e W3 ⟨rfl, hb9⟩
        have gA0 := (hb9.cell (p := ⟨w.heap.size, 0, none⟩) hz0).trans gA0
        have gB0 := (hb9.cell (p := ⟨w.heap.size + 1, 0, none⟩) hz1).trans gB0
        have gR0 := (hb9.cell (p := ⟨w.heap.size + 1 + 1, 0, none⟩) hz2).trans gR0
        have gR1 := (hb9.cell (p := ⟨w.heap.size + 1 + 1, 1, none⟩) hz2).trans gR1
        have gf0 := (hb9.frozen (p := ⟨w.heap.size + 1 + 1, 0, none⟩) hz2).trans gf0
        have gf1 := (hb9.frozen (p := ⟨w.heap.size + 1 + 1, 1, none⟩) hz2).trans gf1
        have HRb := hide ((hb9.block (w.heap.size + 1 + 1) hz2).trans (unhide HRb))
        have hz0' : w.heap.size < W3.heap.size := Nat.lt_of_lt_of_le hz0 hb9.size
        have hz1' : w.heap.size + 1 < W3.heap.size := Nat.lt_of_lt_of_le hz1 hb9.size
        have hz2' : w.heap.size + 1 + 1 < W3.heap.size := Nat.lt_of_lt_of_le hz2 hb9.size
        have hB2 := hB2.trans (hb9.mono (B' := w.heap.size) (Nat.le_of_lt hz0))
        have hm1 := hm1.below hb9
        have hm2 := hm2.below hb9
        clear hz0 hz1 hz2
        have hz0 := hz0'
        have hz1 := hz1'
        have hz2 := hz2'
        clear hz0' hz1' hz2' hb9
        have hlen3 : ys.length ≤ 100000 := by omega
        have hdd : decide (0 ≤ cv) = false := by simp; omega
        go_wp2_with fail
        go_region_with (first
          | (go_at_call 61; refine (subMag_any _ _ ys xs _ ?_ ?_ hd2 hd1 hly hly2 hne1 hleq).mono ?_; exact hm2; exact hm1; rintro e w3 ⟨m3, zs, rfl, hb3, hm3, hd3, hn3, hv3, hl3⟩; have HV3 := hide hv3; clear hv3; have hbT3 := hb3; have kA03 := (hbT3.cell (p := ⟨w.heap.size, 0, none⟩) hz0).trans gA0; have kB03 := (hbT3.cell (p := ⟨w.heap.size + 1, 0, none⟩) hz1).trans gB0)
          | (go_at_call 58; refine (ofMag_any _ _ zs _ hm3 hd3 hn3 ?_).mono ?_; exact Nat.le_trans hl3 hlen3; rintro e w4 ⟨r4, rfl, hb4, hI4⟩; obtain ⟨n4, a4, l4, c4, rfl⟩ := hI4.form; have hbT4 := hbT3.trans (hb4.mono hbT3.size); have HI4 := hide hI4; clear hI4; have kR0 := (hbT4.cell (p := ⟨w.heap.size + 1 + 1, 0, none⟩) hz2).trans gR0; have kR1 := (hbT4.cell (p := ⟨w.heap.size + 1 + 1, 1, none⟩) hz2).trans gR1; have kf0 := (hbT4.frozen (p := ⟨w.heap.size + 1 + 1, 0, none⟩) hz2).trans gf0; have kf1 := (hbT4.frozen (p := ⟨w.heap.size + 1 + 1, 1, none⟩) hz2).trans gf1))
        all_goals
          go_wp2
          refine bodyPost_ret (v := .agg #[.int .i64 n4, .slice a4 l4 c4]) ?_ rfl ?_
          · simp [results, Tryz.results30, go_sem, kR0, kR1]
          · have hI4 := unhide HI4
            have hrb4 := (hbT4.block (w.heap.size + 1 + 1) hz2).trans (unhide HRb)
            have e9 := add_diff2 (unhide HSG) (unhide HN).2 hleq (unhide HV1) (unhide HV2) (unhide HV3)
            rw [e9] at hI4
            exact ⟨_, rfl, ret_store (hB2.drew.trans (hbT4.mono (B' := w.heap.size) (Nat.le_of_lt hz0))) hI4 (by omega) hrb4 _ _⟩

end Go.Proofs.YtlcfldkmojpkpaaGreatDoor
