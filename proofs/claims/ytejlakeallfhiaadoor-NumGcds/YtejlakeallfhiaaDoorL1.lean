/- The walk of NumGcds. -/
import Derived.Test.YtejlakeallfhiaaDoorK1
import Derived.Test.YtejlakeallfhiaaDoorN2
import Derived.Test.YtejlakeallfhiaaDoorL0
namespace Go.Proofs.YtejlakeallfhiaaDoor
open Go.RowKit

set_option maxRecDepth 100000 in
set_option maxHeartbeats 8000000 in
theorem gcds_walk (s t u : ByteArray) (w : World) (hT : Tab w) (hs : s.size ≤ 9223372036854775807) (ht : t.size ≤ 9223372036854775807) (hu : u.size ≤ 9223372036854775807) :
    Calls Tryd.prog 8 #[.string s, .string t, .string u] w fun e w' => e = .returned (.bool true) ∧ Below w.heap.size w w' := by
  have HK := hide (known_yes w hT)
  go_enter Tryd.func8, Tryd.ntmps8
  go_wp2_with fail
  refine (unhide HK).mono ?_
  rintro e w1 ⟨rfl, hb1⟩
  go_wp2_with fail
  have hl3 : ∀ j (hj : j < [s, t, u].length), (w1.alloc (.cells #[.string s, .string t, .string u] 9)).cell? ⟨w1.heap.size, 0 + j, none⟩ = some (.string ([s, t, u][j]'hj)) := fun j hj => by
    rw [World.cell?_alloc_at _ _ _ _ rfl]
    match j, hj with
    | 0, _ => rfl
    | 1, _ => rfl
    | 2, _ => rfl
  refine (light_any w1.heap.size 0 3 3 [s, t, u] _ rfl (by decide) (fun x hx => by simp at hx; rcases hx with rfl | rfl | rfl <;> assumption) hl3).mono ?_
  rintro e w2 ⟨hlight, rfl⟩
  have hb2 : Below w.heap.size w (w1.alloc (.cells #[.string s, .string t, .string u] 9)) := hb1.alloc hb1.size _
  clear hl3 hs ht hu HK
  generalize (w1.alloc (.cells #[.string s, .string t, .string u] 9)) = w2 at *
  rcases hlight.symm with ⟨_, rfl⟩ | ⟨hsz, rfl⟩
  · go_wp2
    go_ret
    exact ⟨rfl, hb2⟩
  have hs : s.size ≤ 300 := hsz s (by simp)
  have ht : t.size ≤ 300 := hsz t (by simp)
  have hu : u.size ≤ 300 := hsz u (by simp)
  clear hsz hb1
  go_wp2_with fail
  refine (ofS_any s w2 hs).mono ?_
  rintro e wA ⟨vA, nA, zA, rfl, hbA, iA, ⟨bA1, bA2, bA3, bA4, rfl⟩, hzA⟩
  obtain ⟨cA1, cA2, cA3, cA4, rfl⟩ := iA.form
  have HZA := hide hzA
  clear hzA
  have hBwA := hb2.trans (hbA.mono hb2.size)
  go_wp2_with fail
  have xA := (Bx.new wA cA1 cA2 cA3 cA4).alloc (.cells #[.bool bA1, .slice bA2 bA3 bA4] 31)
  have hgA : Below wA.heap.size wA ((wA.alloc (.cells #[.int .i64 cA1, .slice cA2 cA3 cA4] 26)).alloc (.cells #[.bool bA1, .slice bA2 bA3 bA4] 31)) := ((Below.refl _ _).alloc (Nat.le_refl _) _).alloc (by simp) _
  have iA := iA.below hgA
  have hBWA := hBwA.trans (hgA.mono hBwA.size)
  generalize ((wA.alloc (.cells #[.int .i64 cA1, .slice cA2 cA3 cA4] 26)).alloc (.cells #[.bool bA1, .slice bA2 bA3 bA4] 31)) = WA at *
  generalize wA.heap.size = rA at *
  refine (ofS_any t WA ht).mono ?_
  rintro e wB ⟨vB, nB, zB, rfl, hbB, iB, ⟨bB1, bB2, bB3, bB4, rfl⟩, hzB⟩
  obtain ⟨cB1, cB2, cB3, cB4, rfl⟩ := iB.form
  have HZB := hide hzB
  clear hzB
  have xA := xA.below hbB
  have iA := iA.below hbB
  obtain ⟨kA0, kA1, kfA0, kfA1⟩ := xA.facts
  have lA := xA.lt
  have hBwB := hBWA.trans (hbB.mono hBWA.size)
  go_wp2_with fail
  have xB := (Bx.new wB cB1 cB2 cB3 cB4).alloc (.cells #[.bool bB1, .slice bB2 bB3 bB4] 31)
  have hgB : Below wB.heap.size wB ((wB.alloc (.cells #[.int .i64 cB1, .slice cB2 cB3 cB4] 26)).alloc (.cells #[.bool bB1, .slice bB2 bB3 bB4] 31)) := ((Below.refl _ _).alloc (Nat.le_refl _) _).alloc (by simp) _
  have xA := xA.below hgB
  have iA := iA.below hgB
  have iB := iB.below hgB
  have hBWB := hBwB.trans (hgB.mono hBwB.size)
  generalize ((wB.alloc (.cells #[.int .i64 cB1, .slice cB2 cB3 cB4] 26)).alloc (.cells #[.bool bB1, .slice bB2 bB3 bB4] 31)) = WB at *
  generalize wB.heap.size = rB at *
  refine (ofS_any u WB hu).mono ?_
  rintro e wC ⟨vC, nC, zC, rfl, hbC, iC, ⟨bC1, bC2, bC3, bC4, rfl⟩, hzC⟩
  obtain ⟨cC1, cC2, cC3, cC4, rfl⟩ := iC.form
  have HZC := hide hzC
  clear hzC
  have xA := xA.below hbC
  have iA := iA.below hbC
  have xB := xB.below hbC
  have iB := iB.below hbC
  obtain ⟨kA0, kA1, kfA0, kfA1⟩ := xA.facts
  have lA := xA.lt
  obtain ⟨kB0, kB1, kfB0, kfB1⟩ := xB.facts
  have lB := xB.lt
  have hBwC := hBWB.trans (hbC.mono hBWB.size)
  go_wp2_with fail
  have xC := (Bx.new wC cC1 cC2 cC3 cC4).alloc (.cells #[.bool bC1, .slice bC2 bC3 bC4] 31)
  have hgC : Below wC.heap.size wC ((wC.alloc (.cells #[.int .i64 cC1, .slice cC2 cC3 cC4] 26)).alloc (.cells #[.bool bC1, .slice bC2 bC3 bC4] 31)) := ((Below.refl _ _).alloc (Nat.le_refl _) _).alloc (by simp) _
  have xA := xA.below hgC
  have iA := iA.below hgC
  have xB := xB.below hgC
  have iB := iB.below hgC
  have iC := iC.below hgC
  have hBWC := hBwC.trans (hgC.mono hBwC.size)
  generalize ((wC.alloc (.cells #[.int .i64 cC1, .slice cC2 cC3 cC4] 26)).alloc (.cells #[.bool bC1, .slice bC2 bC3 bC4] 31)) = WC at *
  generalize wC.heap.size = rC at *
  obtain ⟨kA0, kA1, kfA0, kfA1⟩ := xA.facts
  have lA := xA.lt
  obtain ⟨kB0, kB1, kfB0, kfB1⟩ := xB.facts
  have lB := xB.lt
  obtain ⟨kC0, kC1, kfC0, kfC1⟩ := xC.facts
  have lC := xC.lt
  have HS : Hid (∀ w', Below WC.heap.size WC w' → (Below WC.heap.size WC w' ∧ w'.cell? ⟨rA, 0, none⟩ = some (.int .i64 cA1) ∧ w'.cell? ⟨rA, 1, none⟩ = some (.slice cA2 cA3 cA4) ∧ w'.cell? ⟨rB, 0, none⟩ = some (.int .i64 cB1) ∧ w'.cell? ⟨rB, 1, none⟩ = some (.slice cB2 cB3 cB4) ∧ w'.cell? ⟨rC, 0, none⟩ = some (.int .i64 cC1) ∧ w'.cell? ⟨rC, 1, none⟩ = some (.slice cC2 cC3 cC4))) := fun w' hb => ⟨hb, (hb.cell (p := ⟨rA, 0, none⟩) lA).trans kA0, (hb.cell (p := ⟨rA, 1, none⟩) lA).trans kA1, (hb.cell (p := ⟨rB, 0, none⟩) lB).trans kB0, (hb.cell (p := ⟨rB, 1, none⟩) lB).trans kB1, (hb.cell (p := ⟨rC, 0, none⟩) lC).trans kC0, (hb.cell (p := ⟨rC, 1, none⟩) lC).trans kC1⟩
  have HM1 := hide (mul_lt (unhide HZA) (unhide HZC))
  have HM2 := hide (mul_lt (unhide HZB) (unhide HZC))
  refine wp_mono (Q := nrm (fun a' W' => ∃ (rG : Nat) (d11 : Int) (d12 : Option Addr) (d13 d14 : Nat) (d21 : Int) (d22 : Option Addr) (d23 d24 : Nat) (cG1 : Int) (cG2 : Option Addr) (cG3 cG4 : Nat), a' = { tmps := #[Value.string s, Value.string t, Value.string u, undef, undef, undef, Value.bool false, Value.pointer (some { block := rA, off := 0 }), Value.pointer (some { block := rA + 1, off := 0 }), Value.pointer (some { block := rB, off := 0 }), Value.pointer (some { block := rB + 1, off := 0 }), Value.pointer (some { block := rC, off := 0 }), Value.pointer (some { block := rC + 1, off := 0 }), Value.pointer (some { block := rG, off := 0 }), undef, undef, undef, Value.bool true, Value.bool false, Value.string s, Value.string t, Value.string u, Value.slice (some { block := w1.heap.size, off := 0 }) 3 3, Value.bool true, Value.bool false, Value.tuple #[Value.agg #[Value.int IntKind.i64 cA1, Value.slice cA2 cA3 cA4], Value.agg #[Value.bool bA1, Value.slice bA2 bA3 bA4]], Value.string s, Value.tuple #[Value.agg #[Value.int IntKind.i64 cA1, Value.slice cA2 cA3 cA4], Value.agg #[Value.bool bA1, Value.slice bA2 bA3 bA4]], Value.agg #[Value.int IntKind.i64 cA1, Value.slice cA2 cA3 cA4], Value.agg #[Value.bool bA1, Value.slice bA2 bA3 bA4], Value.tuple #[Value.agg #[Value.int IntKind.i64 cB1, Value.slice cB2 cB3 cB4], Value.agg #[Value.bool bB1, Value.slice bB2 bB3 bB4]], Value.string t, Value.tuple #[Value.agg #[Value.int IntKind.i64 cB1, Value.slice cB2 cB3 cB4], Value.agg #[Value.bool bB1, Value.slice bB2 bB3 bB4]], Value.agg #[Value.int IntKind.i64 cB1, Value.slice cB2 cB3 cB4], Value.agg #[Value.bool bB1, Value.slice bB2 bB3 bB4], Value.tuple #[Value.agg #[Value.int IntKind.i64 cC1, Value.slice cC2 cC3 cC4], Value.agg #[Value.bool bC1, Value.slice bC2 bC3 bC4]], Value.string u, Value.tuple #[Value.agg #[Value.int IntKind.i64 cC1, Value.slice cC2 cC3 cC4], Value.agg #[Value.bool bC1, Value.slice bC2 bC3 bC4]], Value.agg #[Value.int IntKind.i64 cC1, Value.slice cC2 cC3 cC4], Value.agg #[Value.bool bC1, Value.slice bC2 bC3 bC4], Value.agg #[Value.int IntKind.i64 cA1, Value.slice cA2 cA3 cA4], Value.agg #[Value.int IntKind.i64 cC1, Value.slice cC2 cC3 cC4], Value.agg #[Value.int IntKind.i64 d11, Value.slice d12 d13 d14], Value.agg #[Value.int IntKind.i64 cB1, Value.slice cB2 cB3 cB4], Value.agg #[Value.int IntKind.i64 cC1, Value.slice cC2 cC3 cC4], Value.agg #[Value.int IntKind.i64 d21, Value.slice d22 d23 d24], Value.agg #[Value.int IntKind.i64 cG1, Value.slice cG2 cG3 cG4], undef, undef, undef, undef, undef, undef, undef, undef, undef, undef, undef, undef, undef, undef, undef, undef, undef, undef, undef, undef, undef, undef, undef, undef, undef, undef, undef, undef, undef, undef, undef, undef, undef, undef, undef, undef, undef, undef, undef, undef, undef, undef, undef, undef, undef, undef, undef, undef, undef, undef, undef, undef, undef, undef, undef, undef, undef, undef, undef, undef, undef], defers := [] } ∧ Below WC.heap.size WC W' ∧ Bx W' rG (.agg #[.int .i64 cG1, .slice cG2 cG3 cG4]) ∧ IsI W' (.agg #[.int .i64 cG1, .slice cG2 cG3 cG4]) (Int.gcd (zA * zC) (zB * zC) : Int))) ?reg ?go
  case reg =>
    go_region_held3 (fun w' => Below WC.heap.size WC w' ∧ w'.cell? ⟨rA, 0, none⟩ = some (.int .i64 cA1) ∧ w'.cell? ⟨rA, 1, none⟩ = some (.slice cA2 cA3 cA4) ∧ w'.cell? ⟨rB, 0, none⟩ = some (.int .i64 cB1) ∧ w'.cell? ⟨rB, 1, none⟩ = some (.slice cB2 cB3 cB4) ∧ w'.cell? ⟨rC, 0, none⟩ = some (.int .i64 cC1) ∧ w'.cell? ⟨rC, 1, none⟩ = some (.slice cC2 cC3 cC4)) (first | exact unhide HS _ (keep0 _) | exact unhide HS _ (keepC (by assumption) (by assumption)) | exact unhide HS _ (keepA (by assumption) _) | exact unhide HS _ (hT3.alloc hT3.size _) | exact unhide HS _ (below_put hT3 (by first | exact Nat.le_refl _ | exact hT1.size | exact hT2.size) _ _)) (first
      | (go_at_call_of 25 (Value.agg #[Value.int IntKind.i64 cA1, Value.slice cA2 cA3 cA4]); refine (mul_any _ _ zA zC _ ?_ ?_ (big_pw (unhide HZA)) (big_pw (unhide HZC))).mono ?_; exact iA.below (And.left (b := _) (by assumption)); exact iC.below (And.left (b := _) (by assumption)); rintro e v1 ⟨p1, rfl, hv1, j1⟩; obtain ⟨d11, d12, d13, d14, rfl⟩ := j1.form; have hT1 : Below WC.heap.size WC v1 := keepC (by assumption) hv1; (try (have bG : Bx v1 WC.heap.size (.agg #[.int .i64 0, .slice none 0 0]) := (Bx.new WC 0 none 0 0).drew.below hv1; obtain ⟨kG0, kG1, kGf0, kGf1⟩ := bG.facts; have lG := bG.lt)))
      | (go_at_call_of 25 (Value.agg #[Value.int IntKind.i64 cB1, Value.slice cB2 cB3 cB4]); refine (mul_any _ _ zB zC _ ?_ ?_ (big_pw (unhide HZB)) (big_pw (unhide HZC))).mono ?_; exact iB.below (And.left (b := _) (by assumption)); exact iC.below (And.left (b := _) (by assumption)); rintro e v2 ⟨p2, rfl, hv2, j2⟩; obtain ⟨d21, d22, d23, d24, rfl⟩ := j2.form; have hT2 : Below WC.heap.size WC v2 := keepC (by assumption) hv2; have hW12 : Below v1.heap.size v1 v2 := (by first | exact hv2 | exact ((Below.refl _ _).alloc (Nat.le_refl _) _).trans (hv2.mono (by simp))); have j1 := j1.below hW12; (try (have bG := bG.below hv2; obtain ⟨kG0, kG1, kGf0, kGf1⟩ := bG.facts; have lG := bG.lt)); (try (have bG : Bx v2 v1.heap.size (.agg #[.int .i64 0, .slice none 0 0]) := (Bx.new v1 0 none 0 0).below hv2; obtain ⟨kG0, kG1, kGf0, kGf1⟩ := bG.facts; have lG := bG.lt)))
      | (go_at_call 35; refine (gcd_any quoLong_any _ _ (zA * zC) (zB * zC) _ ?_ ?_ (pw_up (unhide HM1)) (pw_up (unhide HM2))).mono ?_; (first | exact j1 | exact j1.below ((Below.refl _ _).alloc (Nat.le_refl _) _)); (first | exact j2 | exact j2.below ((Below.refl _ _).alloc (Nat.le_refl _) _)); rintro e v3 ⟨p3, rfl, hv3, iG⟩; obtain ⟨cG1, cG2, cG3, cG4, rfl⟩ := iG.form; have hT3 : Below WC.heap.size WC v3 := keepC (by assumption) hv3; (try (have bG := bG.below hv3; obtain ⟨kG0, kG1, kGf0, kGf1⟩ := bG.facts; have lG := bG.lt)); (try (have bG : Bx v3 v2.heap.size (.agg #[.int .i64 0, .slice none 0 0]) := (Bx.new v2 0 none 0 0).below hv3; obtain ⟨kG0, kG1, kGf0, kGf1⟩ := bG.facts; have lG := bG.lt)))      )
    all_goals first
      | exact nrm_mk ⟨_, d11, d12, d13, d14, d21, d22, d23, d24, cG1, cG2, cG3, cG4, rfl, hT3.alloc hT3.size _, Bx.new v3 cG1 cG2 cG3 cG4, iG.below ((Below.refl _ v3).alloc (Nat.le_refl _) _)⟩
      | exact nrm_mk ⟨_, d11, d12, d13, d14, d21, d22, d23, d24, cG1, cG2, cG3, cG4, rfl, below_put hT3 (by first | exact Nat.le_refl _ | exact hT1.size | exact hT2.size) _ _, bG.set _ _ _ _, iG.put bG _ _⟩
  case go =>
    intro e a' Wg h9
    obtain ⟨rfl, h9⟩ := nrm_out h9
    obtain ⟨rG, d11, d12, d13, d14, d21, d22, d23, d24, cG1, cG2, cG3, cG4, rfl, hbG, xG, iG⟩ := h9
    clear HS HM1 HM2
    have xA := xA.below hbG
    have iA := iA.below hbG
    have xB := xB.below hbG
    have iB := iB.below hbG
    have xC := xC.below hbG
    have iC := iC.below hbG
    obtain ⟨kA0, kA1, kfA0, kfA1⟩ := xA.facts
    have lA := xA.lt
    obtain ⟨kB0, kB1, kfB0, kfB1⟩ := xB.facts
    have lB := xB.lt
    obtain ⟨kC0, kC1, kfC0, kfC1⟩ := xC.facts
    have lC := xC.lt
    have hBWg := hBWC.trans (hbG.mono hBWC.size)
    obtain ⟨kG0, kG1, kfG0, kfG1⟩ := xG.facts
    have lG := xG.lt
    go_wp2_with fail
    have hgH : Below Wg.heap.size Wg (Wg.alloc (.cells #[.int .i64 cC1, .slice cC2 cC3 cC4] 26)) := (Below.refl _ _).alloc (Nat.le_refl _) _
    have xD := Bx.new Wg cC1 cC2 cC3 cC4
    have hrD0 := hBWg.size
    have xA := xA.below hgH
    have iA := iA.below hgH
    have xB := xB.below hgH
    have iB := iB.below hgH
    have xC := xC.below hgH
    have iC := iC.below hgH
    have xG := xG.below hgH
    have iG := iG.below hgH
    have hBWh := hBWg.trans (hgH.mono hBWg.size)
    generalize (Wg.alloc (.cells #[.int .i64 cC1, .slice cC2 cC3 cC4] 26)) = Wh at *
    generalize Wg.heap.size = rD at *
    have nAD : rA ≠ rD := Nat.ne_of_lt lA
    have nBD : rB ≠ rD := Nat.ne_of_lt lB
    have nCD : rC ≠ rD := Nat.ne_of_lt lC
    have nGD : rG ≠ rD := Nat.ne_of_lt lG
    refine (sign_any _ zC _ iC).mono ?_
    rintro e wi ⟨rfl, hbi⟩
    have xD := xD.below hbi
    have xA := xA.below hbi
    have iA := iA.below hbi
    have xB := xB.below hbi
    have iB := iB.below hbi
    have xC := xC.below hbi
    have iC := iC.below hbi
    have xG := xG.below hbi
    have iG := iG.below hbi
    obtain ⟨kA0, kA1, kfA0, kfA1⟩ := xA.facts
    have lA := xA.lt
    obtain ⟨kB0, kB1, kfB0, kfB1⟩ := xB.facts
    have lB := xB.lt
    obtain ⟨kC0, kC1, kfC0, kfC1⟩ := xC.facts
    have lC := xC.lt
    obtain ⟨kG0, kG1, kfG0, kfG1⟩ := xG.facts
    have lG := xG.lt
    have hBwi := hBWh.trans (hbi.mono hBWh.size)
    obtain ⟨kD0, kD1, kfD0, kfD1⟩ := xD.facts
    have lD := xD.lt
    have hrD : w.heap.size ≤ rD := hrD0
    by_cases hneg : zC < 0
    · have hsg : decide (sgn zC < 0) = true := by unfold sgn; rw [if_pos hneg]; rfl
      have hng := hide (neg_any _ zC _ iC (Int.lt_of_lt_of_le (unhide HZC) (pw_mono (by omega))))
      go_wp2_with fail
      refine (unhide hng).mono ?_
      rintro e wj ⟨rj, rfl, hbj, iD⟩
      obtain ⟨cD1, cD2, cD3, cD4, rfl⟩ := iD.form
      have xD := xD.below hbj
      have xA := xA.below hbj
      have iA := iA.below hbj
      have xB := xB.below hbj
      have iB := iB.below hbj
      have xC := xC.below hbj
      have iC := iC.below hbj
      have xG := xG.below hbj
      have iG := iG.below hbj
      obtain ⟨kA0, kA1, kfA0, kfA1⟩ := xA.facts
      have lA := xA.lt
      obtain ⟨kB0, kB1, kfB0, kfB1⟩ := xB.facts
      have lB := xB.lt
      obtain ⟨kC0, kC1, kfC0, kfC1⟩ := xC.facts
      have lC := xC.lt
      obtain ⟨kG0, kG1, kfG0, kfG1⟩ := xG.facts
      have lG := xG.lt
      have hBwj := hBwi.trans (hbj.mono hBwi.size)
      obtain ⟨kD0, kD1, kfD0, kfD1⟩ := xD.facts
      have lD := xD.lt
      go_wp2_with fail
      have iA := iA.put xD (.int .i64 cD1) (.slice cD2 cD3 cD4)
      have xA := (xA.other (p := ⟨rD, 0, none⟩) (Ne.symm nAD) (.int .i64 cD1)).other (p := ⟨rD, 1, none⟩) (Ne.symm nAD) (.slice cD2 cD3 cD4)
      have iB := iB.put xD (.int .i64 cD1) (.slice cD2 cD3 cD4)
      have xB := (xB.other (p := ⟨rD, 0, none⟩) (Ne.symm nBD) (.int .i64 cD1)).other (p := ⟨rD, 1, none⟩) (Ne.symm nBD) (.slice cD2 cD3 cD4)
      have iC := iC.put xD (.int .i64 cD1) (.slice cD2 cD3 cD4)
      have xC := (xC.other (p := ⟨rD, 0, none⟩) (Ne.symm nCD) (.int .i64 cD1)).other (p := ⟨rD, 1, none⟩) (Ne.symm nCD) (.slice cD2 cD3 cD4)
      have iG := iG.put xD (.int .i64 cD1) (.slice cD2 cD3 cD4)
      have xG := (xG.other (p := ⟨rD, 0, none⟩) (Ne.symm nGD) (.int .i64 cD1)).other (p := ⟨rD, 1, none⟩) (Ne.symm nGD) (.slice cD2 cD3 cD4)
      have iD := iD.put xD (.int .i64 cD1) (.slice cD2 cD3 cD4)
      have hBWk := below_put hBwj hrD (.int .i64 cD1) (.slice cD2 cD3 cD4)
      have xD := xD.set cD1 cD2 cD3 cD4
      generalize ((wj.setCell ⟨rD, 0, none⟩ (.int .i64 cD1)).setCell ⟨rD, 1, none⟩ (.slice cD2 cD3 cD4)) = Wk at *
      have iD : IsI Wk (.agg #[.int .i64 cD1, .slice cD2 cD3 cD4]) (zC.natAbs : Int) := by rw [show ((zC.natAbs : Nat) : Int) = -zC by omega]; exact iD
      refine (quo_any quoLong_any _ _ zA zB _ iA iB (big_pw (unhide HZA)) (big_pw (unhide HZB))).mono ?_
      rintro e wq ⟨rq, rr, rfl, hbq, iP, iR⟩
      obtain ⟨cP1, cP2, cP3, cP4, rfl⟩ := iP.form
      obtain ⟨cR1, cR2, cR3, cR4, rfl⟩ := iR.form
      have xA := xA.below hbq
      have iA := iA.below hbq
      have xB := xB.below hbq
      have iB := iB.below hbq
      have xC := xC.below hbq
      have iC := iC.below hbq
      have xG := xG.below hbq
      have iG := iG.below hbq
      have xD := xD.below hbq
      have iD := iD.below hbq
      obtain ⟨kA0, kA1, kfA0, kfA1⟩ := xA.facts
      have lA := xA.lt
      obtain ⟨kB0, kB1, kfB0, kfB1⟩ := xB.facts
      have lB := xB.lt
      obtain ⟨kC0, kC1, kfC0, kfC1⟩ := xC.facts
      have lC := xC.lt
      obtain ⟨kG0, kG1, kfG0, kfG1⟩ := xG.facts
      have lG := xG.lt
      obtain ⟨kD0, kD1, kfD0, kfD1⟩ := xD.facts
      have lD := xD.lt
      have hBwq := hBWk.trans (hbq.mono hBWk.size)
      go_wp2_with fail
      have hgR : Below wq.heap.size wq ((wq.alloc (.cells #[.int .i64 cP1, .slice cP2 cP3 cP4] 26)).alloc (.cells #[.int .i64 cR1, .slice cR2 cR3 cR4] 26)) := ((Below.refl _ _).alloc (Nat.le_refl _) _).alloc (by simp) _
      have xR := Bx.new (wq.alloc (.cells #[.int .i64 cP1, .slice cP2 cP3 cP4] 26)) cR1 cR2 cR3 cR4
      rw [World.size_alloc] at xR
      have xA := xA.below hgR
      have iA := iA.below hgR
      have xB := xB.below hgR
      have iB := iB.below hgR
      have xC := xC.below hgR
      have iC := iC.below hgR
      have xG := xG.below hgR
      have iG := iG.below hgR
      have xD := xD.below hgR
      have iD := iD.below hgR
      have iR := iR.below hgR
      have hBWR := hBwq.trans (hgR.mono hBwq.size)
      generalize ((wq.alloc (.cells #[.int .i64 cP1, .slice cP2 cP3 cP4] 26)).alloc (.cells #[.int .i64 cR1, .slice cR2 cR3 cR4] 26)) = WR at *
      generalize hrR : wq.heap.size + 1 = rR at *
      clear hrR
      obtain ⟨kA0, kA1, kfA0, kfA1⟩ := xA.facts
      have lA := xA.lt
      obtain ⟨kB0, kB1, kfB0, kfB1⟩ := xB.facts
      have lB := xB.lt
      obtain ⟨kG0, kG1, kfG0, kfG1⟩ := xG.facts
      have lG := xG.lt
      obtain ⟨kD0, kD1, kfD0, kfD1⟩ := xD.facts
      have lD := xD.lt
      obtain ⟨kR0, kR1, kfR0, kfR1⟩ := xR.facts
      have lR := xR.lt
      have HS : Hid (∀ w', Below WR.heap.size WR w' → (Below WR.heap.size WR w' ∧ w'.cell? ⟨rA, 0, none⟩ = some (.int .i64 cA1) ∧ w'.cell? ⟨rA, 1, none⟩ = some (.slice cA2 cA3 cA4) ∧ w'.cell? ⟨rB, 0, none⟩ = some (.int .i64 cB1) ∧ w'.cell? ⟨rB, 1, none⟩ = some (.slice cB2 cB3 cB4) ∧ w'.cell? ⟨rG, 0, none⟩ = some (.int .i64 cG1) ∧ w'.cell? ⟨rG, 1, none⟩ = some (.slice cG2 cG3 cG4) ∧ w'.cell? ⟨rD, 0, none⟩ = some (.int .i64 cD1) ∧ w'.cell? ⟨rD, 1, none⟩ = some (.slice cD2 cD3 cD4) ∧ w'.cell? ⟨rR, 0, none⟩ = some (.int .i64 cR1) ∧ w'.cell? ⟨rR, 1, none⟩ = some (.slice cR2 cR3 cR4))) := fun w' hb => ⟨hb, (hb.cell (p := ⟨rA, 0, none⟩) lA).trans kA0, (hb.cell (p := ⟨rA, 1, none⟩) lA).trans kA1, (hb.cell (p := ⟨rB, 0, none⟩) lB).trans kB0, (hb.cell (p := ⟨rB, 1, none⟩) lB).trans kB1, (hb.cell (p := ⟨rG, 0, none⟩) lG).trans kG0, (hb.cell (p := ⟨rG, 1, none⟩) lG).trans kG1, (hb.cell (p := ⟨rD, 0, none⟩) lD).trans kD0, (hb.cell (p := ⟨rD, 1, none⟩) lD).trans kD1, (hb.cell (p := ⟨rR, 0, none⟩) lR).trans kR0, (hb.cell (p := ⟨rR, 1, none⟩) lR).trans kR1⟩
      have bA := hide (big_pw (unhide HZA))
      have bB := hide (big_pw (unhide HZB))
      have bD := hide (abs_pw (big_pw (unhide HZC)))
      have bR := hide (mod_pw (unhide bA) (unhide bB))
      have bN := hide (neg_pw (unhide bA))
      have bG := hide (gcd_pw (pw_up (mul_lt (unhide HZA) (unhide HZC))) (pw_up (mul_lt (unhide HZB) (unhide HZC))))
      have b1 := hide (gcd_pw (unhide bA) (unhide bB))
      have b2 := hide (pw_up (mul_lt (gcd_pw (unhide HZA) (unhide HZB)) (abs_pw (unhide HZC))))
      have b4 := hide (gcd_pw (unhide bB) (unhide bA))
      have b6 := hide (gcd_pw (unhide bB) (unhide bR))
      have b8 := hide (gcd_pw (unhide bN) (unhide bB))
      have b11 := hide (gcd_pw (unhide bA) (show (((0 : Int).natAbs : Nat) : Int) < pw 4000 from by have := pw_pos 4000; simpa using this))
      have b12 := hide (gcd_pw (unhide bA) (unhide bA))
      have HB := hide hBWR
      go_region_held3 (fun w' => Below WR.heap.size WR w' ∧ w'.cell? ⟨rA, 0, none⟩ = some (.int .i64 cA1) ∧ w'.cell? ⟨rA, 1, none⟩ = some (.slice cA2 cA3 cA4) ∧ w'.cell? ⟨rB, 0, none⟩ = some (.int .i64 cB1) ∧ w'.cell? ⟨rB, 1, none⟩ = some (.slice cB2 cB3 cB4) ∧ w'.cell? ⟨rG, 0, none⟩ = some (.int .i64 cG1) ∧ w'.cell? ⟨rG, 1, none⟩ = some (.slice cG2 cG3 cG4) ∧ w'.cell? ⟨rD, 0, none⟩ = some (.int .i64 cD1) ∧ w'.cell? ⟨rD, 1, none⟩ = some (.slice cD2 cD3 cD4) ∧ w'.cell? ⟨rR, 0, none⟩ = some (.int .i64 cR1) ∧ w'.cell? ⟨rR, 1, none⟩ = some (.slice cR2 cR3 cR4)) (first | exact unhide HS _ (keep0 _) | exact unhide HS _ (keepC (by assumption) (by assumption))) (first
          | (have _ := m16; go_at_call 29; refine (cmp_zero _ _ (Int.gcd zA (0 : Int) : Int) (Int.gcd zA zA : Int) _ ?_ ?_ (unhide b11) (unhide b12) (by rw [gcd_zz])).mono ?_; exact j15; exact j16; rintro e u17 ⟨rfl, hu17⟩; have m17 : True := trivial; have hU : Below WR.heap.size WR u17 := keepC (by assumption) hu17)
          | (have _ := m15; go_at_call 35; refine (gcd_any quoLong_any _ _ zA zA _ ?_ ?_ (unhide bA) (unhide bA)).mono ?_; exact iA.below (And.left (b := _) (by assumption)); exact iA.below (And.left (b := _) (by assumption)); rintro e u16 ⟨p16, rfl, hu16, j16⟩; obtain ⟨e161, e162, e163, e164, rfl⟩ := j16.form; have j15 := j15.below hu16; have m16 : True := trivial; have hU : Below WR.heap.size WR u16 := keepC (by assumption) hu16)
          | (have _ := m14; go_at_call 35; refine (gcd_any quoLong_any _ _ zA (0 : Int) _ ?_ ?_ (unhide bA) (by have := pw_pos 4000; simpa using this)).mono ?_; exact iA.below (And.left (b := _) (by assumption)); exact j14; rintro e u15 ⟨p15, rfl, hu15, j15⟩; obtain ⟨e151, e152, e153, e154, rfl⟩ := j15.form; have m15 : True := trivial; have hU : Below WR.heap.size WR u15 := keepC (by assumption) hu15)
          | (have _ := m13; go_at_call 17; refine (of_any 0 _).mono ?_; rintro e u14 ⟨rfl, hu14⟩; have j14 : IsI u14 (.agg #[.int .i64 0, .slice none 0 0]) 0 := .inl ⟨rfl, by decide, by decide⟩; have m14 : True := trivial; have hU : Below WR.heap.size WR u14 := keepC (by assumption) hu14)
          | (have _ := m12; go_at_call 29; refine (cmp_zero _ _ (Int.gcd (-zA) zB : Int) (Int.gcd zA zB : Int) _ ?_ ?_ (unhide b8) (unhide b1) (by rw [Int.neg_gcd])).mono ?_; exact j11; exact j12; rintro e u13 ⟨rfl, hu13⟩; have m13 : True := trivial; have hU : Below WR.heap.size WR u13 := keepC (by assumption) hu13)
          | (have _ := m11; go_at_call 35; refine (gcd_any quoLong_any _ _ zA zB _ ?_ ?_ (unhide bA) (unhide bB)).mono ?_; exact iA.below (And.left (b := _) (by assumption)); exact iB.below (And.left (b := _) (by assumption)); rintro e u12 ⟨p12, rfl, hu12, j12⟩; obtain ⟨e121, e122, e123, e124, rfl⟩ := j12.form; have j11 := j11.below hu12; have m12 : True := trivial; have hU : Below WR.heap.size WR u12 := keepC (by assumption) hu12)
          | (have _ := m10; go_at_call 35; refine (gcd_any quoLong_any _ _ (-zA) zB _ ?_ ?_ (unhide bN) (unhide bB)).mono ?_; exact j10; exact iB.below (And.left (b := _) (by assumption)); rintro e u11 ⟨p11, rfl, hu11, j11⟩; obtain ⟨e111, e112, e113, e114, rfl⟩ := j11.form; have m11 : True := trivial; have hU : Below WR.heap.size WR u11 := keepC (by assumption) hu11)
          | (have _ := m9; go_at_call 27; refine (neg_any _ zA _ ?_ (Int.lt_of_lt_of_le (unhide HZA) (pw_mono (by decide)))).mono ?_; exact iA.below (And.left (b := _) (by assumption)); rintro e u10 ⟨p10, rfl, hu10, j10⟩; obtain ⟨e101, e102, e103, e104, rfl⟩ := j10.form; have m10 : True := trivial; have hU : Below WR.heap.size WR u10 := keepC (by assumption) hu10)
          | (have _ := m8; go_at_call 29; refine (cmp_zero _ _ (Int.gcd zA zB : Int) (Int.gcd zB (zA % zB) : Int) _ ?_ ?_ (unhide b1) (unhide b6) (by rw [gcd_mod])).mono ?_; exact j7; exact j8; rintro e u9 ⟨rfl, hu9⟩; have m9 : True := trivial; have hU : Below WR.heap.size WR u9 := keepC (by assumption) hu9)
          | (have _ := m7; go_at_call 35; refine (gcd_any quoLong_any _ _ zB (zA % zB) _ ?_ ?_ (unhide bB) (unhide bR)).mono ?_; exact iB.below (And.left (b := _) (by assumption)); exact iR.below (And.left (b := _) (by assumption)); rintro e u8 ⟨p8, rfl, hu8, j8⟩; obtain ⟨e81, e82, e83, e84, rfl⟩ := j8.form; have j7 := j7.below hu8; have m8 : True := trivial; have hU : Below WR.heap.size WR u8 := keepC (by assumption) hu8)
          | (have _ := m6; go_at_call 35; refine (gcd_any quoLong_any _ _ zA zB _ ?_ ?_ (unhide bA) (unhide bB)).mono ?_; exact iA.below (And.left (b := _) (by assumption)); exact iB.below (And.left (b := _) (by assumption)); rintro e u7 ⟨p7, rfl, hu7, j7⟩; obtain ⟨e71, e72, e73, e74, rfl⟩ := j7.form; have m7 : True := trivial; have hU : Below WR.heap.size WR u7 := keepC (by assumption) hu7)
          | (have _ := m5; go_at_call 29; refine (cmp_zero _ _ (Int.gcd zA zB : Int) (Int.gcd zB zA : Int) _ ?_ ?_ (unhide b1) (unhide b4) (by rw [Int.gcd_comm])).mono ?_; exact j4; exact j5; rintro e u6 ⟨rfl, hu6⟩; have m6 : True := trivial; have hU : Below WR.heap.size WR u6 := keepC (by assumption) hu6)
          | (have _ := m4; go_at_call 35; refine (gcd_any quoLong_any _ _ zB zA _ ?_ ?_ (unhide bB) (unhide bA)).mono ?_; exact iB.below (And.left (b := _) (by assumption)); exact iA.below (And.left (b := _) (by assumption)); rintro e u5 ⟨p5, rfl, hu5, j5⟩; obtain ⟨e51, e52, e53, e54, rfl⟩ := j5.form; have j4 := j4.below hu5; have m5 : True := trivial; have hU : Below WR.heap.size WR u5 := keepC (by assumption) hu5)
          | (have _ := m3; go_at_call 35; refine (gcd_any quoLong_any _ _ zA zB _ ?_ ?_ (unhide bA) (unhide bB)).mono ?_; exact iA.below (And.left (b := _) (by assumption)); exact iB.below (And.left (b := _) (by assumption)); rintro e u4 ⟨p4, rfl, hu4, j4⟩; obtain ⟨e41, e42, e43, e44, rfl⟩ := j4.form; have m4 : True := trivial; have hU : Below WR.heap.size WR u4 := keepC (by assumption) hu4)
          | (have _ := m2; go_at_call 29; refine (cmp_zero _ _ (Int.gcd (zA * zC) (zB * zC) : Int) ((Int.gcd zA zB : Int) * (zC.natAbs : Int)) _ ?_ ?_ (unhide bG) (unhide b2) (gcd_mulr _ _ _)).mono ?_; exact iG.below (And.left (b := _) (by assumption)); exact j2; rintro e u3 ⟨rfl, hu3⟩; have m3 : True := trivial; have hU : Below WR.heap.size WR u3 := keepC (by assumption) hu3)
          | (have _ := m1; go_at_call 25; refine (mul_any _ _ (Int.gcd zA zB : Int) (zC.natAbs : Int) _ ?_ ?_ (unhide b1) (unhide bD)).mono ?_; exact j1; exact iD.below (And.left (b := _) (by assumption)); rintro e u2 ⟨p2, rfl, hu2, j2⟩; obtain ⟨e21, e22, e23, e24, rfl⟩ := j2.form; have m2 : True := trivial; have hU : Below WR.heap.size WR u2 := keepC (by assumption) hu2)
          | (go_at_call 35; refine (gcd_any quoLong_any _ _ zA zB _ ?_ ?_ (unhide bA) (unhide bB)).mono ?_; exact iA.below (And.left (b := _) (by assumption)); exact iB.below (And.left (b := _) (by assumption)); rintro e u1 ⟨p1, rfl, hu1, j1⟩; obtain ⟨e11, e12, e13, e14, rfl⟩ := j1.form; have m1 : True := trivial; have hU : Below WR.heap.size WR u1 := keepC (by assumption) hu1)
          )
      all_goals
        go_wp2
        go_ret
        exact ⟨rfl, (unhide HB).trans (hU.mono (unhide HB).size)⟩
    · have hsg : decide (sgn zC < 0) = false := by unfold sgn; rw [if_neg hneg]; split <;> rfl
      go_wp2_with fail
      obtain ⟨cD1, cD2, cD3, cD4, xD, iD⟩ : ∃ (cD1 : Int) (cD2 : Option Addr) (cD3 cD4 : Nat), Bx wi rD (.agg #[.int .i64 cD1, .slice cD2 cD3 cD4]) ∧ IsI wi (.agg #[.int .i64 cD1, .slice cD2 cD3 cD4]) (zC.natAbs : Int) := ⟨_, _, _, _, xD, by rw [show ((zC.natAbs : Nat) : Int) = zC by omega]; exact iC⟩
      refine (quo_any quoLong_any _ _ zA zB _ iA iB (big_pw (unhide HZA)) (big_pw (unhide HZB))).mono ?_
      rintro e wq ⟨rq, rr, rfl, hbq, iP, iR⟩
      obtain ⟨cP1, cP2, cP3, cP4, rfl⟩ := iP.form
      obtain ⟨cR1, cR2, cR3, cR4, rfl⟩ := iR.form
      have xA := xA.below hbq
      have iA := iA.below hbq
      have xB := xB.below hbq
      have iB := iB.below hbq
      have xC := xC.below hbq
      have iC := iC.below hbq
      have xG := xG.below hbq
      have iG := iG.below hbq
      have xD := xD.below hbq
      have iD := iD.below hbq
      obtain ⟨kA0, kA1, kfA0, kfA1⟩ := xA.facts
      have lA := xA.lt
      obtain ⟨kB0, kB1, kfB0, kfB1⟩ := xB.facts
      have lB := xB.lt
      obtain ⟨kC0, kC1, kfC0, kfC1⟩ := xC.facts
      have lC := xC.lt
      obtain ⟨kG0, kG1, kfG0, kfG1⟩ := xG.facts
      have lG := xG.lt
      obtain ⟨kD0, kD1, kfD0, kfD1⟩ := xD.facts
      have lD := xD.lt
      have hBwq := hBwi.trans (hbq.mono hBwi.size)
      go_wp2_with fail
      have hgR : Below wq.heap.size wq ((wq.alloc (.cells #[.int .i64 cP1, .slice cP2 cP3 cP4] 26)).alloc (.cells #[.int .i64 cR1, .slice cR2 cR3 cR4] 26)) := ((Below.refl _ _).alloc (Nat.le_refl _) _).alloc (by simp) _
      have xR := Bx.new (wq.alloc (.cells #[.int .i64 cP1, .slice cP2 cP3 cP4] 26)) cR1 cR2 cR3 cR4
      rw [World.size_alloc] at xR
      have xA := xA.below hgR
      have iA := iA.below hgR
      have xB := xB.below hgR
      have iB := iB.below hgR
      have xC := xC.below hgR
      have iC := iC.below hgR
      have xG := xG.below hgR
      have iG := iG.below hgR
      have xD := xD.below hgR
      have iD := iD.below hgR
      have iR := iR.below hgR
      have hBWR := hBwq.trans (hgR.mono hBwq.size)
      generalize ((wq.alloc (.cells #[.int .i64 cP1, .slice cP2 cP3 cP4] 26)).alloc (.cells #[.int .i64 cR1, .slice cR2 cR3 cR4] 26)) = WR at *
      generalize hrR : wq.heap.size + 1 = rR at *
      clear hrR
      obtain ⟨kA0, kA1, kfA0, kfA1⟩ := xA.facts
      have lA := xA.lt
      obtain ⟨kB0, kB1, kfB0, kfB1⟩ := xB.facts
      have lB := xB.lt
      obtain ⟨kG0, kG1, kfG0, kfG1⟩ := xG.facts
      have lG := xG.lt
      obtain ⟨kD0, kD1, kfD0, kfD1⟩ := xD.facts
      have lD := xD.lt
      obtain ⟨kR0, kR1, kfR0, kfR1⟩ := xR.facts
      have lR := xR.lt
      have HS : Hid (∀ w', Below WR.heap.size WR w' → (Below WR.heap.size WR w' ∧ w'.cell? ⟨rA, 0, none⟩ = some (.int .i64 cA1) ∧ w'.cell? ⟨rA, 1, none⟩ = some (.slice cA2 cA3 cA4) ∧ w'.cell? ⟨rB, 0, none⟩ = some (.int .i64 cB1) ∧ w'.cell? ⟨rB, 1, none⟩ = some (.slice cB2 cB3 cB4) ∧ w'.cell? ⟨rG, 0, none⟩ = some (.int .i64 cG1) ∧ w'.cell? ⟨rG, 1, none⟩ = some (.slice cG2 cG3 cG4) ∧ w'.cell? ⟨rD, 0, none⟩ = some (.int .i64 cD1) ∧ w'.cell? ⟨rD, 1, none⟩ = some (.slice cD2 cD3 cD4) ∧ w'.cell? ⟨rR, 0, none⟩ = some (.int .i64 cR1) ∧ w'.cell? ⟨rR, 1, none⟩ = some (.slice cR2 cR3 cR4))) := fun w' hb => ⟨hb, (hb.cell (p := ⟨rA, 0, none⟩) lA).trans kA0, (hb.cell (p := ⟨rA, 1, none⟩) lA).trans kA1, (hb.cell (p := ⟨rB, 0, none⟩) lB).trans kB0, (hb.cell (p := ⟨rB, 1, none⟩) lB).trans kB1, (hb.cell (p := ⟨rG, 0, none⟩) lG).trans kG0, (hb.cell (p := ⟨rG, 1, none⟩) lG).trans kG1, (hb.cell (p := ⟨rD, 0, none⟩) lD).trans kD0, (hb.cell (p := ⟨rD, 1, none⟩) lD).trans kD1, (hb.cell (p := ⟨rR, 0, none⟩) lR).trans kR0, (hb.cell (p := ⟨rR, 1, none⟩) lR).trans kR1⟩
      have bA := hide (big_pw (unhide HZA))
      have bB := hide (big_pw (unhide HZB))
      have bD := hide (abs_pw (big_pw (unhide HZC)))
      have bR := hide (mod_pw (unhide bA) (unhide bB))
      have bN := hide (neg_pw (unhide bA))
      have bG := hide (gcd_pw (pw_up (mul_lt (unhide HZA) (unhide HZC))) (pw_up (mul_lt (unhide HZB) (unhide HZC))))
      have b1 := hide (gcd_pw (unhide bA) (unhide bB))
      have b2 := hide (pw_up (mul_lt (gcd_pw (unhide HZA) (unhide HZB)) (abs_pw (unhide HZC))))
      have b4 := hide (gcd_pw (unhide bB) (unhide bA))
      have b6 := hide (gcd_pw (unhide bB) (unhide bR))
      have b8 := hide (gcd_pw (unhide bN) (unhide bB))
      have b11 := hide (gcd_pw (unhide bA) (show (((0 : Int).natAbs : Nat) : Int) < pw 4000 from by have := pw_pos 4000; simpa using this))
      have b12 := hide (gcd_pw (unhide bA) (unhide bA))
      have HB := hide hBWR
      go_region_held3 (fun w' => Below WR.heap.size WR w' ∧ w'.cell? ⟨rA, 0, none⟩ = some (.int .i64 cA1) ∧ w'.cell? ⟨rA, 1, none⟩ = some (.slice cA2 cA3 cA4) ∧ w'.cell? ⟨rB, 0, none⟩ = some (.int .i64 cB1) ∧ w'.cell? ⟨rB, 1, none⟩ = some (.slice cB2 cB3 cB4) ∧ w'.cell? ⟨rG, 0, none⟩ = some (.int .i64 cG1) ∧ w'.cell? ⟨rG, 1, none⟩ = some (.slice cG2 cG3 cG4) ∧ w'.cell? ⟨rD, 0, none⟩ = some (.int .i64 cD1) ∧ w'.cell? ⟨rD, 1, none⟩ = some (.slice cD2 cD3 cD4) ∧ w'.cell? ⟨rR, 0, none⟩ = some (.int .i64 cR1) ∧ w'.cell? ⟨rR, 1, none⟩ = some (.slice cR2 cR3 cR4)) (first | exact unhide HS _ (keep0 _) | exact unhide HS _ (keepC (by assumption) (by assumption))) (first
          | (have _ := m16; go_at_call 29; refine (cmp_zero _ _ (Int.gcd zA (0 : Int) : Int) (Int.gcd zA zA : Int) _ ?_ ?_ (unhide b11) (unhide b12) (by rw [gcd_zz])).mono ?_; exact j15; exact j16; rintro e u17 ⟨rfl, hu17⟩; have m17 : True := trivial; have hU : Below WR.heap.size WR u17 := keepC (by assumption) hu17)
          | (have _ := m15; go_at_call 35; refine (gcd_any quoLong_any _ _ zA zA _ ?_ ?_ (unhide bA) (unhide bA)).mono ?_; exact iA.below (And.left (b := _) (by assumption)); exact iA.below (And.left (b := _) (by assumption)); rintro e u16 ⟨p16, rfl, hu16, j16⟩; obtain ⟨e161, e162, e163, e164, rfl⟩ := j16.form; have j15 := j15.below hu16; have m16 : True := trivial; have hU : Below WR.heap.size WR u16 := keepC (by assumption) hu16)
          | (have _ := m14; go_at_call 35; refine (gcd_any quoLong_any _ _ zA (0 : Int) _ ?_ ?_ (unhide bA) (by have := pw_pos 4000; simpa using this)).mono ?_; exact iA.below (And.left (b := _) (by assumption)); exact j14; rintro e u15 ⟨p15, rfl, hu15, j15⟩; obtain ⟨e151, e152, e153, e154, rfl⟩ := j15.form; have m15 : True := trivial; have hU : Below WR.heap.size WR u15 := keepC (by assumption) hu15)
          | (have _ := m13; go_at_call 17; refine (of_any 0 _).mono ?_; rintro e u14 ⟨rfl, hu14⟩; have j14 : IsI u14 (.agg #[.int .i64 0, .slice none 0 0]) 0 := .inl ⟨rfl, by decide, by decide⟩; have m14 : True := trivial; have hU : Below WR.heap.size WR u14 := keepC (by assumption) hu14)
          | (have _ := m12; go_at_call 29; refine (cmp_zero _ _ (Int.gcd (-zA) zB : Int) (Int.gcd zA zB : Int) _ ?_ ?_ (unhide b8) (unhide b1) (by rw [Int.neg_gcd])).mono ?_; exact j11; exact j12; rintro e u13 ⟨rfl, hu13⟩; have m13 : True := trivial; have hU : Below WR.heap.size WR u13 := keepC (by assumption) hu13)
          | (have _ := m11; go_at_call 35; refine (gcd_any quoLong_any _ _ zA zB _ ?_ ?_ (unhide bA) (unhide bB)).mono ?_; exact iA.below (And.left (b := _) (by assumption)); exact iB.below (And.left (b := _) (by assumption)); rintro e u12 ⟨p12, rfl, hu12, j12⟩; obtain ⟨e121, e122, e123, e124, rfl⟩ := j12.form; have j11 := j11.below hu12; have m12 : True := trivial; have hU : Below WR.heap.size WR u12 := keepC (by assumption) hu12)
          | (have _ := m10; go_at_call 35; refine (gcd_any quoLong_any _ _ (-zA) zB _ ?_ ?_ (unhide bN) (unhide bB)).mono ?_; exact j10; exact iB.below (And.left (b := _) (by assumption)); rintro e u11 ⟨p11, rfl, hu11, j11⟩; obtain ⟨e111, e112, e113, e114, rfl⟩ := j11.form; have m11 : True := trivial; have hU : Below WR.heap.size WR u11 := keepC (by assumption) hu11)
          | (have _ := m9; go_at_call 27; refine (neg_any _ zA _ ?_ (Int.lt_of_lt_of_le (unhide HZA) (pw_mono (by decide)))).mono ?_; exact iA.below (And.left (b := _) (by assumption)); rintro e u10 ⟨p10, rfl, hu10, j10⟩; obtain ⟨e101, e102, e103, e104, rfl⟩ := j10.form; have m10 : True := trivial; have hU : Below WR.heap.size WR u10 := keepC (by assumption) hu10)
          | (have _ := m8; go_at_call 29; refine (cmp_zero _ _ (Int.gcd zA zB : Int) (Int.gcd zB (zA % zB) : Int) _ ?_ ?_ (unhide b1) (unhide b6) (by rw [gcd_mod])).mono ?_; exact j7; exact j8; rintro e u9 ⟨rfl, hu9⟩; have m9 : True := trivial; have hU : Below WR.heap.size WR u9 := keepC (by assumption) hu9)
          | (have _ := m7; go_at_call 35; refine (gcd_any quoLong_any _ _ zB (zA % zB) _ ?_ ?_ (unhide bB) (unhide bR)).mono ?_; exact iB.below (And.left (b := _) (by assumption)); exact iR.below (And.left (b := _) (by assumption)); rintro e u8 ⟨p8, rfl, hu8, j8⟩; obtain ⟨e81, e82, e83, e84, rfl⟩ := j8.form; have j7 := j7.below hu8; have m8 : True := trivial; have hU : Below WR.heap.size WR u8 := keepC (by assumption) hu8)
          | (have _ := m6; go_at_call 35; refine (gcd_any quoLong_any _ _ zA zB _ ?_ ?_ (unhide bA) (unhide bB)).mono ?_; exact iA.below (And.left (b := _) (by assumption)); exact iB.below (And.left (b := _) (by assumption)); rintro e u7 ⟨p7, rfl, hu7, j7⟩; obtain ⟨e71, e72, e73, e74, rfl⟩ := j7.form; have m7 : True := trivial; have hU : Below WR.heap.size WR u7 := keepC (by assumption) hu7)
          | (have _ := m5; go_at_call 29; refine (cmp_zero _ _ (Int.gcd zA zB : Int) (Int.gcd zB zA : Int) _ ?_ ?_ (unhide b1) (unhide b4) (by rw [Int.gcd_comm])).mono ?_; exact j4; exact j5; rintro e u6 ⟨rfl, hu6⟩; have m6 : True := trivial; have hU : Below WR.heap.size WR u6 := keepC (by assumption) hu6)
          | (have _ := m4; go_at_call 35; refine (gcd_any quoLong_any _ _ zB zA _ ?_ ?_ (unhide bB) (unhide bA)).mono ?_; exact iB.below (And.left (b := _) (by assumption)); exact iA.below (And.left (b := _) (by assumption)); rintro e u5 ⟨p5, rfl, hu5, j5⟩; obtain ⟨e51, e52, e53, e54, rfl⟩ := j5.form; have j4 := j4.below hu5; have m5 : True := trivial; have hU : Below WR.heap.size WR u5 := keepC (by assumption) hu5)
          | (have _ := m3; go_at_call 35; refine (gcd_any quoLong_any _ _ zA zB _ ?_ ?_ (unhide bA) (unhide bB)).mono ?_; exact iA.below (And.left (b := _) (by assumption)); exact iB.below (And.left (b := _) (by assumption)); rintro e u4 ⟨p4, rfl, hu4, j4⟩; obtain ⟨e41, e42, e43, e44, rfl⟩ := j4.form; have m4 : True := trivial; have hU : Below WR.heap.size WR u4 := keepC (by assumption) hu4)
          | (have _ := m2; go_at_call 29; refine (cmp_zero _ _ (Int.gcd (zA * zC) (zB * zC) : Int) ((Int.gcd zA zB : Int) * (zC.natAbs : Int)) _ ?_ ?_ (unhide bG) (unhide b2) (gcd_mulr _ _ _)).mono ?_; exact iG.below (And.left (b := _) (by assumption)); exact j2; rintro e u3 ⟨rfl, hu3⟩; have m3 : True := trivial; have hU : Below WR.heap.size WR u3 := keepC (by assumption) hu3)
          | (have _ := m1; go_at_call 25; refine (mul_any _ _ (Int.gcd zA zB : Int) (zC.natAbs : Int) _ ?_ ?_ (unhide b1) (unhide bD)).mono ?_; exact j1; exact iD.below (And.left (b := _) (by assumption)); rintro e u2 ⟨p2, rfl, hu2, j2⟩; obtain ⟨e21, e22, e23, e24, rfl⟩ := j2.form; have m2 : True := trivial; have hU : Below WR.heap.size WR u2 := keepC (by assumption) hu2)
          | (go_at_call 35; refine (gcd_any quoLong_any _ _ zA zB _ ?_ ?_ (unhide bA) (unhide bB)).mono ?_; exact iA.below (And.left (b := _) (by assumption)); exact iB.below (And.left (b := _) (by assumption)); rintro e u1 ⟨p1, rfl, hu1, j1⟩; obtain ⟨e11, e12, e13, e14, rfl⟩ := j1.form; have m1 : True := trivial; have hU : Below WR.heap.size WR u1 := keepC (by assumption) hu1)
          )
      all_goals
        go_wp2
        go_ret
        exact ⟨rfl, (unhide HB).trans (hU.mono (unhide HB).size)⟩

end Go.Proofs.YtejlakeallfhiaaDoor
