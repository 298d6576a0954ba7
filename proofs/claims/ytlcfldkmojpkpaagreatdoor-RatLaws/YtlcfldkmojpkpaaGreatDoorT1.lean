/- Cmp of two numbers. -/
import Derived.Test.YtlcfldkmojpkpaaGreatDoorS1
namespace Go.Proofs.YtlcfldkmojpkpaaGreatDoor
open Go.RowKit
attribute [local go_sem] eqnil_some eqnil_none nenil_some nenil_none

/-- What lies in a world behind the boxes of two numbers. -/
structure Set0 (w W0 : World) (c0 c1 d0 d1 : Value) : Prop where
  bel : Below w.heap.size w W0
  a0 : W0.cell? ⟨w.heap.size, 0, none⟩ = some c0
  a1 : W0.cell? ⟨w.heap.size, 1, none⟩ = some c1
  b0 : W0.cell? ⟨w.heap.size + 1, 0, none⟩ = some d0
  b1 : W0.cell? ⟨w.heap.size + 1, 1, none⟩ = some d1
  z0 : w.heap.size < W0.heap.size
  z1 : w.heap.size + 1 < W0.heap.size
theorem setup0 (w : World) (c0 c1 d0 d1 : Value) : ∃ W0, (w.alloc (Obj.cells #[c0, c1] 26)).alloc (Obj.cells #[d0, d1] 26) = W0 ∧ Set0 w W0 c0 c1 d0 d1 := by
  have fB := box_facts (w.alloc (Obj.cells #[c0, c1] 26)) d0 d1 26
  simp only [World.size_alloc] at fB
  refine ⟨_, rfl, ((Below.refl _ _).alloc (Nat.le_refl _) _).alloc (by simp) _, ?_, ?_, fB.1, fB.2.1, by simp <;> omega, by simp⟩
  · rw [World.cell?_alloc_past _ _ _ (by simp)]; exact (box_facts w c0 c1 _).1
  · rw [World.cell?_alloc_past _ _ _ (by simp)]; exact (box_facts w c0 c1 _).2.1

theorem lenk5 {xs : List Int} {z : Int} (hd : Dig xs) (hn : Norm xs) (hv : val xs = z.natAbs) (hz : (z.natAbs : Int) < pw 4000) : xs.length ≤ 100000 := by
  have := lenk hd hn hv hz
  omega
/-- The sign cell has the number's sign. -/
theorem IsI.sgn0 {w : World} {n : Int} {s : Value} {z : Int} (h : IsI w (.agg #[.int .i64 n, s]) z) : sgn n = sgn z := by
  rcases h with ⟨e, _⟩ | ⟨b, off, cap, xs, e, _, _, _, _, _, _, h⟩
  · simp at e; rw [e.1]
  · simp at e
    rw [e.1]
    unfold sgn
    by_cases h0 : z < 0
    · rw [if_pos h0, if_pos h0, if_pos (by omega)]
    · rw [if_neg h0, if_neg h0, if_neg (by omega), if_pos (by omega), if_pos (by omega)]
theorem sgn_lt (z : Int) : (sgn z = -1 ∧ z < 0) ∨ (sgn z = 0 ∧ z = 0) ∨ (sgn z = 1 ∧ 0 < z) := by
  unfold sgn
  by_cases h : z < 0
  · rw [if_pos h]; exact .inl ⟨rfl, h⟩
  · rw [if_neg h]
    by_cases h2 : 0 < z
    · rw [if_pos h2]; exact .inr (.inr ⟨rfl, h2⟩)
    · rw [if_neg h2]; exact .inr (.inl ⟨rfl, by omega⟩)
theorem cmp_signs {na nb za zb : Int} (ha : sgn na = sgn za) (hb : sgn nb = sgn zb) (hne : sgn za ≠ sgn zb) : cmpI na nb = cmpI za zb := by
  have h1 := sgn_lt na
  have h2 := sgn_lt nb
  have h3 := sgn_lt za
  have h4 := sgn_lt zb
  have hlt : (na < nb ∧ za < zb) ∨ (nb < na ∧ zb < za) := by omega
  rcases hlt with ⟨a, b⟩ | ⟨a, b⟩
  · rw [cmpI_lt a, cmpI_lt b]
  · rw [cmpI_gt a, cmpI_gt b]
theorem cmp_same {na za zb : Int} {xs ys : List Int} (ha : sgn na = sgn za) (hs : sgn za = sgn zb) (hx : val xs = za.natAbs) (hy : val ys = zb.natAbs) : (na < 0 → - cmpI (val xs) (val ys) = cmpI za zb) ∧ (¬ na < 0 → cmpI (val xs) (val ys) = cmpI za zb) := by
  have h1 := sgn_lt na
  have h3 := sgn_lt za
  have h4 := sgn_lt zb
  rw [hx, hy]
  refine ⟨fun h => ?_, fun h => ?_⟩
  · by_cases e : za < zb
    · rw [cmpI_lt e, cmpI_gt (by omega)]
    · by_cases e2 : zb < za
      · rw [cmpI_gt e2, cmpI_lt (by omega)]; rfl
      · rw [cmpI_eq (show za = zb by omega), cmpI_eq (by omega)]; rfl
  · by_cases e : za < zb
    · rw [cmpI_lt e, cmpI_lt (by omega)]
    · by_cases e2 : zb < za
      · rw [cmpI_gt e2, cmpI_gt (by omega)]
      · rw [cmpI_eq (show za = zb by omega), cmpI_eq (by omega)]

set_option maxRecDepth 100000 in
set_option maxHeartbeats 1000000 in
theorem cmp_small (za zb : Int) (w : World) :
    Calls Tryz.prog 52 #[.agg #[.int .i64 za, .slice none 0 0], .agg #[.int .i64 zb, .slice none 0 0]] w fun e w' => e = .returned (.int .i64 (cmpI za zb)) ∧ Below w.heap.size w w' := by
  obtain ⟨W1, hW0, S⟩ := setup0 w (.int .i64 za) (.slice none 0 0) (.int .i64 zb) (.slice none 0 0)
  have HW := hide hW0
  clear hW0
  obtain ⟨hB0, gA0, gA1, gB0, gB1, hz0, hz1⟩ := S
  go_enter Tryz.func52, Tryz.ntmps52
  go_wp2_with fail
  rw [unhide HW]
  go_quiet (fail)
  go_wp2_with fail
  refine (cmp64_any _ _ _).mono ?_
  rintro e w3 ⟨rfl, hw3⟩
  subst hw3
  go_wp2
  go_ret
  exact ⟨rfl, hB0.os, hB0.tape, hB0.output, hB0.size, hB0.block⟩

set_option maxRecDepth 100000 in
set_option maxHeartbeats 4000000 in
theorem cmp_big1 (na nb : Int) (ada : Addr) (la ca : Nat) (ab : Option Addr) (lb cb : Nat) (za zb : Int) (w : World) (hA : IsI w (.agg #[.int .i64 na, .slice (some ada) la ca]) za) (hB : IsI w (.agg #[.int .i64 nb, .slice ab lb cb]) zb) (hza : (za.natAbs : Int) < pw 4000) (hzb : (zb.natAbs : Int) < pw 4000) :
    Calls Tryz.prog 52 #[.agg #[.int .i64 na, .slice (some ada) la ca], .agg #[.int .i64 nb, .slice ab lb cb]] w fun e w' => e = .returned (.int .i64 (cmpI za zb)) ∧ Below w.heap.size w w' := by
  have HZA := hide hza
  have HZB := hide hzb
  have HN := hide (And.intro hA.sgn0 hB.sgn0)
  clear hza hzb
  obtain ⟨W1, hW0, S⟩ := setup0 w (.int .i64 na) (.slice (some ada) la ca) (.int .i64 nb) (.slice ab lb cb)
  have HW := hide hW0
  clear hW0
  generalize hbn : (sgn za != sgn zb) = bn
  have HBN := hide hbn
  have hbn2 : Hid ((!(sgn za == sgn zb)) = bn) := hbn
  go_enter Tryz.func52, Tryz.ntmps52
  go_wp2_with fail
  rw [unhide HW]
  refine wp_mono (Q := nrm (fun a' W' => (∃ u10 u11 u12 : Value, a' = { tmps := #[.agg #[.int .i64 na, .slice (some ada) la ca], .agg #[.int .i64 nb, .slice ab lb cb], .pointer (some ⟨w.heap.size, 0, none⟩), .pointer (some ⟨w.heap.size + 1, 0, none⟩), .int .i64 0, undef, .pointer (some ⟨w.heap.size, 1, none⟩), .slice (some ada) la ca, .bool false, .bool false, u10, u11, u12, .bool false, .bool false, .agg #[.int .i64 na, .slice (some ada) la ca], .int .i64 (sgn za), .agg #[.int .i64 nb, .slice ab lb cb], .int .i64 (sgn zb), .bool bn, .bool bn, undef, undef, undef, undef, undef, undef, undef, undef, undef, undef, undef, undef, undef, undef, undef, undef], defers := [] }) ∧ Below W1.heap.size W1 W')) ?reg ?go
  case reg =>
    obtain ⟨hB0, gA0, gA1, gB0, gB1, hz0, hz1⟩ := S
    have hA0 : IsI W1.drew (.agg #[.int .i64 na, .slice (some ada) la ca]) za := hA.below hB0.drew
    have hB1 : IsI W1.drew (.agg #[.int .i64 nb, .slice ab lb cb]) zb := hB.below hB0.drew
    clear hA hB
    first | go_region_with (first
      | (go_at_call_of 27 (Value.agg #[Value.int IntKind.i64 na, Value.slice (some ada) la ca]); refine (sign_any _ za _ ?_).mono ?_; exact hA0; rintro e w1 ⟨rfl, hb1⟩; have hbT1 := hb1; have kB01 := (hbT1.cell (p := ⟨w.heap.size + 1, 0, none⟩) hz1).trans gB0; have kB11 := (hbT1.cell (p := ⟨w.heap.size + 1, 1, none⟩) hz1).trans gB1)
      | (go_at_call_of 27 (Value.agg #[Value.int IntKind.i64 nb, Value.slice ab lb cb]); refine (sign_any _ zb _ ?_).mono ?_; exact hB1.below hb1; rintro e w2 ⟨rfl, hb2⟩; have hbT2 := hbT1.trans (hb2.mono hbT1.size))) | fail
    all_goals exact nrm_mk ⟨⟨_, _, _, rfl⟩, ⟨hbT2.os, hbT2.tape, hbT2.output, hbT2.size, hbT2.block⟩⟩
  case go =>
    intro e a' W2 h9
    obtain ⟨rfl, h9⟩ := nrm_out h9
    obtain ⟨⟨u10, u11, u12, rfl⟩, hb2⟩ := h9
    obtain ⟨hB0, fA0, fA1, fB0, fB1, hy0, hy1⟩ := S
    have gA0 := (hb2.cell (p := ⟨w.heap.size, 0, none⟩) hy0).trans fA0
    have gA1 := (hb2.cell (p := ⟨w.heap.size, 1, none⟩) hy0).trans fA1
    have gB0 := (hb2.cell (p := ⟨w.heap.size + 1, 0, none⟩) hy1).trans fB0
    have gB1 := (hb2.cell (p := ⟨w.heap.size + 1, 1, none⟩) hy1).trans fB1
    have hz0 : w.heap.size < W2.heap.size := Nat.lt_of_lt_of_le hy0 hb2.size
    have hz1 : w.heap.size + 1 < W2.heap.size := Nat.lt_of_lt_of_le hy1 hb2.size
    have hB2 := hB0.trans (hb2.mono (B' := w.heap.size) (Nat.le_of_lt hy0))
    have hA0 : IsI W2.drew (.agg #[.int .i64 na, .slice (some ada) la ca]) za := hA.below hB2.drew
    have hB1 : IsI W2.drew (.agg #[.int .i64 nb, .slice ab lb cb]) zb := hB.below hB2.drew
    clear fA0 fA1 fB0 fB1 hB0 hb2 hy0 hy1 hA hB
    cases bn with
    | true =>
      have he : Hid (cmpI na nb = cmpI za zb) := cmp_signs (unhide HN).1 (unhide HN).2 (by have h8 := unhide HBN; intro h7; rw [h7] at h8; simp at h8)
      go_wp2_with fail
      refine (cmp64_any _ _ _).mono ?_
      rintro e w3 ⟨rfl, hw3⟩
      have hw4 := hw3.symm
      subst hw4
      go_wp2
      go_ret
      exact ⟨ret_int (unhide he), hB2⟩
    | false =>
      have hsg : Hid (sgn za = sgn zb) := by
        have h8 := unhide HBN
        show sgn za = sgn zb
        simpa using h8
      go_wp2_with fail
      go_region_with (first
        | (go_at_call_of 57 (Value.agg #[Value.int IntKind.i64 na, Value.slice (some ada) la ca]); refine (magnitude_any _ za _ ?_).mono ?_; exact hA0; rintro e w1 ⟨m1, xs, rfl, hb1, hm1, hd1, hn1, hv1⟩; have HV1 := hide hv1; clear hv1; have hbT1 := hb1; have kB01 := (hbT1.cell (p := ⟨w.heap.size + 1, 0, none⟩) hz1).trans gB0; have kB11 := (hbT1.cell (p := ⟨w.heap.size + 1, 1, none⟩) hz1).trans gB1)
        | (go_at_call_of 57 (Value.agg #[Value.int IntKind.i64 nb, Value.slice ab lb cb]); refine (magnitude_any _ zb _ ?_).mono ?_; exact hB1.below hb1; rintro e w2 ⟨m2, ys, rfl, hb2, hm2, hd2, hn2, hv2⟩; have HV2 := hide hv2; clear hv2; have hbT2 := hbT1.trans (hb2.mono hbT1.size))
        | (go_at_call 60; refine (cmpMag_any _ _ xs ys _ ?_ hm2 hd1 hd2 hn1 hn2 ?_ ?_).mono ?_; exact hm1.below hb2; exact lenk5 hd1 hn1 (unhide HV1) (unhide HZA); exact lenk5 hd2 hn2 (unhide HV2) (unhide HZB); rintro e w3 ⟨rfl, hb3⟩; have hbT3 := hbT2.trans (hb3.mono hbT2.size); have kA0 := (hbT3.cell (p := ⟨w.heap.size, 0, none⟩) hz0).trans gA0))
      all_goals
        have hBf := hB2.drew.trans (hbT3.mono (B' := w.heap.size) (Nat.le_of_lt hz0))
        have hv8 := cmp_same (unhide HN).1 (unhide hsg) (unhide HV1) (unhide HV2)
        generalize hcv : cmpI (val xs) (val ys) = cv at *
        have HV8 := hide hv8
        have hcb : -1 ≤ cv ∧ cv ≤ 1 := by rw [← hcv]; unfold cmpI; split <;> (try split) <;> omega
        clear hv8 hcv
        by_cases hn9 : na < 0
        · have he : Hid (-cv = cmpI za zb) := (unhide HV8).1 hn9
          go_wp2
          go_ret
          exact ⟨ret_int (unhide he), hBf⟩
        · have he : Hid (cv = cmpI za zb) := (unhide HV8).2 hn9
          go_wp2
          go_ret
          exact ⟨ret_int (unhide he), hBf⟩

set_option maxRecDepth 100000 in
set_option maxHeartbeats 4000000 in
theorem cmp_big2 (na nb : Int) (adb : Addr) (lb cb : Nat) (za zb : Int) (w : World) (hA : IsI w (.agg #[.int .i64 na, .slice none 0 0]) za) (hB : IsI w (.agg #[.int .i64 nb, .slice (some adb) lb cb]) zb) (hza : (za.natAbs : Int) < pw 4000) (hzb : (zb.natAbs : Int) < pw 4000) :
    Calls Tryz.prog 52 #[.agg #[.int .i64 na, .slice none 0 0], .agg #[.int .i64 nb, .slice (some adb) lb cb]] w fun e w' => e = .returned (.int .i64 (cmpI za zb)) ∧ Below w.heap.size w w' := by
  have HZA := hide hza
  have HZB := hide hzb
  have HN := hide (And.intro hA.sgn0 hB.sgn0)
  clear hza hzb
  obtain ⟨W1, hW0, S⟩ := setup0 w (.int .i64 na) (.slice none 0 0) (.int .i64 nb) (.slice (some adb) lb cb)
  have HW := hide hW0
  clear hW0
  generalize hbn : (sgn za != sgn zb) = bn
  have HBN := hide hbn
  have hbn2 : Hid ((!(sgn za == sgn zb)) = bn) := hbn
  go_enter Tryz.func52, Tryz.ntmps52
  go_wp2_with fail
  rw [unhide HW]
  refine wp_mono (Q := nrm (fun a' W' => (∃ u10 u11 u12 : Value, a' = { tmps := #[.agg #[.int .i64 na, .slice none 0 0], .agg #[.int .i64 nb, .slice (some adb) lb cb], .pointer (some ⟨w.heap.size, 0, none⟩), .pointer (some ⟨w.heap.size + 1, 0, none⟩), .int .i64 0, undef, .pointer (some ⟨w.heap.size, 1, none⟩), .slice none 0 0, .bool true, .bool true, .pointer (some ⟨w.heap.size + 1, 1, none⟩), .slice (some adb) lb cb, .bool false, .bool false, .bool false, .agg #[.int .i64 na, .slice none 0 0], .int .i64 (sgn za), .agg #[.int .i64 nb, .slice (some adb) lb cb], .int .i64 (sgn zb), .bool bn, .bool bn, undef, undef, undef, undef, undef, undef, undef, undef, undef, undef, undef, undef, undef, undef, undef, undef], defers := [] }) ∧ Below W1.heap.size W1 W')) ?reg ?go
  case reg =>
    obtain ⟨hB0, gA0, gA1, gB0, gB1, hz0, hz1⟩ := S
    have hA0 : IsI W1.drew (.agg #[.int .i64 na, .slice none 0 0]) za := hA.below hB0.drew
    have hB1 : IsI W1.drew (.agg #[.int .i64 nb, .slice (some adb) lb cb]) zb := hB.below hB0.drew
    clear hA hB
    first | go_region_with (first
      | (go_at_call_of 27 (Value.agg #[Value.int IntKind.i64 na, Value.slice none 0 0]); refine (sign_any _ za _ ?_).mono ?_; exact hA0; rintro e w1 ⟨rfl, hb1⟩; have hbT1 := hb1; have kB01 := (hbT1.cell (p := ⟨w.heap.size + 1, 0, none⟩) hz1).trans gB0; have kB11 := (hbT1.cell (p := ⟨w.heap.size + 1, 1, none⟩) hz1).trans gB1)
      | (go_at_call_of 27 (Value.agg #[Value.int IntKind.i64 nb, Value.slice (some adb) lb cb]); refine (sign_any _ zb _ ?_).mono ?_; exact hB1.below hb1; rintro e w2 ⟨rfl, hb2⟩; have hbT2 := hbT1.trans (hb2.mono hbT1.size))) | fail
    all_goals exact nrm_mk ⟨⟨undef, undef, undef, rfl⟩, ⟨hbT2.os, hbT2.tape, hbT2.output, hbT2.size, hbT2.block⟩⟩
  case go =>
    intro e a' W2 h9
    obtain ⟨rfl, h9⟩ := nrm_out h9
    obtain ⟨⟨u10, u11, u12, rfl⟩, hb2⟩ := h9
    obtain ⟨hB0, fA0, fA1, fB0, fB1, hy0, hy1⟩ := S
    have gA0 := (hb2.cell (p := ⟨w.heap.size, 0, none⟩) hy0).trans fA0
    have gA1 := (hb2.cell (p := ⟨w.heap.size, 1, none⟩) hy0).trans fA1
    have gB0 := (hb2.cell (p := ⟨w.heap.size + 1, 0, none⟩) hy1).trans fB0
    have gB1 := (hb2.cell (p := ⟨w.heap.size + 1, 1, none⟩) hy1).trans fB1
    have hz0 : w.heap.size < W2.heap.size := Nat.lt_of_lt_of_le hy0 hb2.size
    have hz1 : w.heap.size + 1 < W2.heap.size := Nat.lt_of_lt_of_le hy1 hb2.size
    have hB2 := hB0.trans (hb2.mono (B' := w.heap.size) (Nat.le_of_lt hy0))
    have hA0 : IsI W2.drew (.agg #[.int .i64 na, .slice none 0 0]) za := hA.below hB2.drew
    have hB1 : IsI W2.drew (.agg #[.int .i64 nb, .slice (some adb) lb cb]) zb := hB.below hB2.drew
    clear fA0 fA1 fB0 fB1 hB0 hb2 hy0 hy1 hA hB
    cases bn with
    | true =>
      have he : Hid (cmpI na nb = cmpI za zb) := cmp_signs (unhide HN).1 (unhide HN).2 (by have h8 := unhide HBN; intro h7; rw [h7] at h8; simp at h8)
      go_wp2_with fail
      refine (cmp64_any _ _ _).mono ?_
      rintro e w3 ⟨rfl, hw3⟩
      have hw4 := hw3.symm
      subst hw4
      go_wp2
      go_ret
      exact ⟨ret_int (unhide he), hB2⟩
    | false =>
      have hsg : Hid (sgn za = sgn zb) := by
        have h8 := unhide HBN
        show sgn za = sgn zb
        simpa using h8
      go_wp2_with fail
      go_region_with (first
        | (go_at_call_of 57 (Value.agg #[Value.int IntKind.i64 na, Value.slice none 0 0]); refine (magnitude_any _ za _ ?_).mono ?_; exact hA0; rintro e w1 ⟨m1, xs, rfl, hb1, hm1, hd1, hn1, hv1⟩; have HV1 := hide hv1; clear hv1; have hbT1 := hb1; have kB01 := (hbT1.cell (p := ⟨w.heap.size + 1, 0, none⟩) hz1).trans gB0; have kB11 := (hbT1.cell (p := ⟨w.heap.size + 1, 1, none⟩) hz1).trans gB1)
        | (go_at_call_of 57 (Value.agg #[Value.int IntKind.i64 nb, Value.slice (some adb) lb cb]); refine (magnitude_any _ zb _ ?_).mono ?_; exact hB1.below hb1; rintro e w2 ⟨m2, ys, rfl, hb2, hm2, hd2, hn2, hv2⟩; have HV2 := hide hv2; clear hv2; have hbT2 := hbT1.trans (hb2.mono hbT1.size))
        | (go_at_call 60; refine (cmpMag_any _ _ xs ys _ ?_ hm2 hd1 hd2 hn1 hn2 ?_ ?_).mono ?_; exact hm1.below hb2; exact lenk5 hd1 hn1 (unhide HV1) (unhide HZA); exact lenk5 hd2 hn2 (unhide HV2) (unhide HZB); rintro e w3 ⟨rfl, hb3⟩; have hbT3 := hbT2.trans (hb3.mono hbT2.size); have kA0 := (hbT3.cell (p := ⟨w.heap.size, 0, none⟩) hz0).trans gA0))
      all_goals
        have hBf := hB2.drew.trans (hbT3.mono (B' := w.heap.size) (Nat.le_of_lt hz0))
        have hv8 := cmp_same (unhide HN).1 (unhide hsg) (unhide HV1) (unhide HV2)
        generalize hcv : cmpI (val xs) (val ys) = cv at *
        have HV8 := hide hv8
        have hcb : -1 ≤ cv ∧ cv ≤ 1 := by rw [← hcv]; unfold cmpI; split <;> (try split) <;> omega
        clear hv8 hcv
        by_cases hn9 : na < 0
        · have he : Hid (-cv = cmpI za zb) := (unhide HV8).1 hn9
          go_wp2
          go_ret
          exact ⟨ret_int (unhide he), hBf⟩
        · have he : Hid (cv = cmpI za zb) := (unhide HV8).2 hn9
          go_wp2
          go_ret
          exact ⟨ret_int (unhide he), hBf⟩

/-- Cmp. -/
theorem cmp_any (va vb : Value) (za zb : Int) (w : World) (hA : IsI w va za) (hB : IsI w vb zb) (hza : (za.natAbs : Int) < pw 4000) (hzb : (zb.natAbs : Int) < pw 4000) :
    Calls Tryz.prog 52 #[va, vb] w fun e w' => e = .returned (.int .i64 (cmpI za zb)) ∧ Below w.heap.size w w' := by
  have hA' := hA
  have hB' := hB
  rcases hA with ⟨rfl, h1, h2⟩ | ⟨b, off, cap, xs, rfl, _⟩
  · rcases hB with ⟨rfl, h3, h4⟩ | ⟨b, off, cap, xs, rfl, _⟩
    · exact cmp_small za zb w
    · exact cmp_big2 _ _ _ _ _ za zb w hA' hB' hza hzb
  · obtain ⟨nb, ab, lb, cb, rfl⟩ := hB.form
    exact cmp_big1 _ _ _ _ _ _ _ _ za zb w hA' hB' hza hzb

end Go.Proofs.YtlcfldkmojpkpaaGreatDoor
