/- String of small numbers; avowlaw1.known. -/
import Derived.Test.YtblblpilmoefgaaDoorO3
import Derived.Test.YtblblpilmoefgaaDoorZ3
import Derived.Test.YtblblpilmoefgaaDoorZ4
import Derived.Lib.AppendIntMem
namespace Go.Proofs.YtblblpilmoefgaaDoor
open Go.RowKit
attribute [local go_sem] eqnil_some eqnil_none nenil_some nenil_none

/-- The table of the library's powers of ten. -/
def Tab (w : World) : Prop := Lib.TabIs Tryd.prog w "internal/strconv.uint64pow10" .u64 Lib.pow10Tab
theorem Tab.below {w w' : World} (h : Tab w) (hb : Below w.heap.size w w') : Tab w' := Lib.tabBelow_of_tabIs h w' hb
theorem Tab.drew {w : World} (h : Tab w) : Tab w.drew := h.below ((Below.refl _ w).drew)
theorem IsI.smallV {w : World} {v : Value} {z : Int} (h : IsI w v z) (h0 : -9223372036854775808 ≤ z) (h1 : z ≤ 9223372036854775807) : v = .agg #[.int .i64 z, .slice none 0 0] := by
  rcases h with ⟨e, _⟩ | ⟨_, _, _, _, _, _, _, _, _, _, _, h7⟩
  · exact e
  · omega

set_option maxRecDepth 100000 in
set_option maxHeartbeats 800000 in
theorem str_small (z : Int) (w : World) (hT : Tab w) (h0 : -9223372036854775808 ≤ z) (h1 : z ≤ 9223372036854775807) :
    Calls Tryd.prog 14 #[.agg #[.int .i64 z, .slice none 0 0]] w fun e w' => e = .returned (.string ⟨(Lib.itoa z).toArray⟩) ∧ Below w.heap.size w w' := by
  have bX := Bx.new w z none 0 0
  have hbw : Below w.heap.size w (w.alloc (.cells #[.int .i64 z, .slice none 0 0] 26)) := (Below.refl _ w).alloc (Nat.le_refl _) _
  have hT1 := hT.below hbw
  have HF := hide (Tryd.strconv_FormatInt_10 z h0 h1 _ hT1)
  clear hT hT1
  go_enter Tryd.func14, Tryd.ntmps14
  go_wp2_with fail
  refine (unhide HF).mono ?_
  rintro e w1 ⟨rfl, k, os, hw1⟩
  have hb1 := Lib.below_grow (w.alloc (.cells #[.int .i64 z, .slice none 0 0] 26)).heap.size (w.alloc (.cells #[.int .i64 z, .slice none 0 0] 26)) (Nat.le_refl _) k os
  rw [← hw1] at hb1
  clear hw1
  go_wp2
  go_ret
  exact ⟨rfl, hbw.trans (hb1.mono hbw.size)⟩

theorem str_at (z : Int) (l : Array UInt8) (w : World) (hT : Tab w) (h0 : -9223372036854775808 ≤ z) (h1 : z ≤ 9223372036854775807) (hl : (Lib.itoa z).toArray = l) :
    Calls Tryd.prog 14 #[.agg #[.int .i64 z, .slice none 0 0]] w fun e w' => e = .returned (.string ⟨l⟩) ∧ Below w.heap.size w w' := by
  subst hl
  exact str_small z w hT h0 h1

set_option maxRecDepth 100000 in
set_option maxHeartbeats 1600000 in
theorem known_yes (w : World) (hT : Tab w) : Calls Tryd.prog 9 #[] w fun e w' => e = .returned (.bool true) ∧ Below w.heap.size w w' := by
  go_enter Tryd.func9, Tryd.ntmps9
  go_wp2_with fail
  refine (of_any (-7) w).mono ?_
  rintro e w1 ⟨rfl, hb1⟩
  go_wp2_with fail
  refine (of_any 2 w1).mono ?_
  rintro e w2 ⟨rfl, hb2⟩
  have HQ := hide (quo_any quoLong_any (.agg #[.int .i64 (-7), .slice none 0 0]) (.agg #[.int .i64 2, .slice none 0 0]) (-7) 2 w2 (.inl ⟨rfl, by omega, by omega⟩) (.inl ⟨rfl, by omega, by omega⟩) (small_pw (by decide) (by decide)) (small_pw (by decide) (by decide)))
  go_wp2_with fail
  refine (unhide HQ).mono ?_
  rintro e w3 ⟨r1, r2, rfl, hb3, hI1, hI2⟩
  obtain rfl := hI1.smallV (by decide) (by decide)
  obtain rfl := hI2.smallV (by decide) (by decide)
  have e1 : (-7 : Int) / 2 = -4 := by decide
  have e2 : (-7 : Int) % 2 = 1 := by decide
  rw [e1, e2]
  clear HQ hI1 hI2 e1 e2
  go_wp2_with fail
  have xQ := (Bx.new w3 (-4) none 0 0).alloc (.cells #[.int .i64 1, .slice none 0 0] 26)
  have xR := Bx.new (w3.alloc (.cells #[.int .i64 (-4), .slice none 0 0] 26)) 1 none 0 0
  rw [World.size_alloc] at xR
  have hB3 : Below w.heap.size w w3 := (hb1.trans (hb2.mono hb1.size)).trans (hb3.mono (Nat.le_trans hb1.size hb2.size))
  have hB4 : Below w.heap.size w ((w3.alloc (.cells #[.int .i64 (-4), .slice none 0 0] 26)).alloc (.cells #[.int .i64 1, .slice none 0 0] 26)) := (hB3.alloc hB3.size _).alloc (by have := hB3.size; simp; omega) _
  generalize ((w3.alloc (.cells #[.int .i64 (-4), .slice none 0 0] 26)).alloc (.cells #[.int .i64 1, .slice none 0 0] 26)) = W4 at *
  generalize hq : w3.heap.size = q at *
  clear hq hb1 hb2 hb3 hB3
  refine (of_any (-7) W4).mono ?_
  rintro e w5 ⟨rfl, hb5⟩
  go_wp2_with fail
  refine (of_any (-2) w5).mono ?_
  rintro e w6 ⟨rfl, hb6⟩
  have HQ := hide (quo_any quoLong_any (.agg #[.int .i64 (-7), .slice none 0 0]) (.agg #[.int .i64 (-2), .slice none 0 0]) (-7) (-2) w6 (.inl ⟨rfl, by omega, by omega⟩) (.inl ⟨rfl, by omega, by omega⟩) (small_pw (by decide) (by decide)) (small_pw (by decide) (by decide)))
  go_wp2_with fail
  refine (unhide HQ).mono ?_
  rintro e w7 ⟨r1, r2, rfl, hb7, hI1, hI2⟩
  obtain rfl := hI1.smallV (by decide) (by decide)
  obtain rfl := hI2.smallV (by decide) (by decide)
  have e1 : (-7 : Int) / (-2) = 4 := by decide
  have e2 : (-7 : Int) % (-2) = 1 := by decide
  rw [e1, e2]
  clear HQ hI1 hI2 e1 e2
  have xQ := ((xQ.below hb5).below hb6).below hb7
  have xR := ((xR.below hb5).below hb6).below hb7
  have hB7 := ((hB4.trans (hb5.mono hB4.size)).trans (hb6.mono (Nat.le_trans hB4.size hb5.size))).trans (hb7.mono (Nat.le_trans (Nat.le_trans hB4.size hb5.size) hb6.size))
  go_wp2_with fail
  have xP := (Bx.new w7 4 none 0 0).alloc (.cells #[.int .i64 1, .slice none 0 0] 26)
  have xS := Bx.new (w7.alloc (.cells #[.int .i64 4, .slice none 0 0] 26)) 1 none 0 0
  rw [World.size_alloc] at xS
  have xQ := (xQ.alloc (.cells #[.int .i64 4, .slice none 0 0] 26)).alloc (.cells #[.int .i64 1, .slice none 0 0] 26)
  have xR := (xR.alloc (.cells #[.int .i64 4, .slice none 0 0] 26)).alloc (.cells #[.int .i64 1, .slice none 0 0] 26)
  have hB8 : Below w.heap.size w ((w7.alloc (.cells #[.int .i64 4, .slice none 0 0] 26)).alloc (.cells #[.int .i64 1, .slice none 0 0] 26)) := (hB7.alloc hB7.size _).alloc (by have := hB7.size; simp; omega) _
  generalize ((w7.alloc (.cells #[.int .i64 4, .slice none 0 0] 26)).alloc (.cells #[.int .i64 1, .slice none 0 0] 26)) = W8 at *
  generalize hp : w7.heap.size = p at *
  refine (parse_no W8).mono ?_
  rintro e w9 ⟨rfl, hb9⟩
  have xQ := xQ.below hb9
  have xR := xR.below hb9
  have xP := xP.below hb9
  have xS := xS.below hb9
  have hB9 := hB8.trans (hb9.mono hB8.size)
  clear hp hB7 hb5 hb6 hb7 hB4 hB8 hb9
  obtain ⟨kQ0a, kQ1a, _, _⟩ := xQ.facts
  have lQa := xQ.lt
  obtain ⟨kR0a, kR1a, _, _⟩ := xR.facts
  have lRa := xR.lt
  obtain ⟨kP0a, kP1a, _, _⟩ := xP.facts
  have lPa := xP.lt
  obtain ⟨kS0a, kS1a, _, _⟩ := xS.facts
  have lSa := xS.lt
  go_wp2_with fail
  have xZ := Bx.new (w9.alloc (.cells #[.int .i64 0, .slice none 0 0] 26)) 0 none 0 0
  rw [World.size_alloc] at xZ
  have xQ := (xQ.alloc (.cells #[.int .i64 0, .slice none 0 0] 26)).alloc (.cells #[.int .i64 0, .slice none 0 0] 26)
  have xR := (xR.alloc (.cells #[.int .i64 0, .slice none 0 0] 26)).alloc (.cells #[.int .i64 0, .slice none 0 0] 26)
  have xP := (xP.alloc (.cells #[.int .i64 0, .slice none 0 0] 26)).alloc (.cells #[.int .i64 0, .slice none 0 0] 26)
  have xS := (xS.alloc (.cells #[.int .i64 0, .slice none 0 0] 26)).alloc (.cells #[.int .i64 0, .slice none 0 0] 26)
  have hB10 : Below w.heap.size w ((w9.alloc (.cells #[.int .i64 0, .slice none 0 0] 26)).alloc (.cells #[.int .i64 0, .slice none 0 0] 26)) := (hB9.alloc hB9.size _).alloc (by have := hB9.size; simp; omega) _
  generalize ((w9.alloc (.cells #[.int .i64 0, .slice none 0 0] 26)).alloc (.cells #[.int .i64 0, .slice none 0 0] 26)) = W10 at *
  generalize w9.heap.size = zz at *
  have HS := hide (str_at (-4) #[45, 52] W10 (hT.below hB10) (by decide) (by decide) (by rw [Lib.itoa]; simp [Lib.decDigits]; try decide))
  refine (unhide HS).mono ?_
  rintro e v0 ⟨rfl, hv0⟩
  have xQ := xQ.below hv0
  have xR := xR.below hv0
  have xP := xP.below hv0
  have xS := xS.below hv0
  have xZ := xZ.below hv0
  obtain ⟨mQ00, mQ10, _, _⟩ := xQ.facts
  obtain ⟨mR00, mR10, _, _⟩ := xR.facts
  obtain ⟨mP00, mP10, _, _⟩ := xP.facts
  obtain ⟨mS00, mS10, _, _⟩ := xS.facts
  obtain ⟨mZ00, mZ10, _, _⟩ := xZ.facts
  have hV0 := hB10.trans (hv0.mono hB10.size)
  clear HS
  go_wp2_with fail
  have HS := hide (str_at 1 #[49] v0 (hT.below hV0) (by decide) (by decide) (by rw [Lib.itoa]; simp [Lib.decDigits]; try decide))
  refine (unhide HS).mono ?_
  rintro e v1 ⟨rfl, hv1⟩
  have xQ := xQ.below hv1
  have xR := xR.below hv1
  have xP := xP.below hv1
  have xS := xS.below hv1
  have xZ := xZ.below hv1
  obtain ⟨mQ01, mQ11, _, _⟩ := xQ.facts
  obtain ⟨mR01, mR11, _, _⟩ := xR.facts
  obtain ⟨mP01, mP11, _, _⟩ := xP.facts
  obtain ⟨mS01, mS11, _, _⟩ := xS.facts
  obtain ⟨mZ01, mZ11, _, _⟩ := xZ.facts
  have hV1 := hV0.trans (hv1.mono hV0.size)
  clear HS
  go_wp2_with fail
  have HS := hide (str_at 4 #[52] v1 (hT.below hV1) (by decide) (by decide) (by rw [Lib.itoa]; simp [Lib.decDigits]; try decide))
  refine (unhide HS).mono ?_
  rintro e v2 ⟨rfl, hv2⟩
  have xQ := xQ.below hv2
  have xR := xR.below hv2
  have xP := xP.below hv2
  have xS := xS.below hv2
  have xZ := xZ.below hv2
  obtain ⟨mQ02, mQ12, _, _⟩ := xQ.facts
  obtain ⟨mR02, mR12, _, _⟩ := xR.facts
  obtain ⟨mP02, mP12, _, _⟩ := xP.facts
  obtain ⟨mS02, mS12, _, _⟩ := xS.facts
  obtain ⟨mZ02, mZ12, _, _⟩ := xZ.facts
  have hV2 := hV1.trans (hv2.mono hV1.size)
  clear HS
  go_wp2_with fail
  have HS := hide (str_at 1 #[49] v2 (hT.below hV2) (by decide) (by decide) (by rw [Lib.itoa]; simp [Lib.decDigits]; try decide))
  refine (unhide HS).mono ?_
  rintro e v3 ⟨rfl, hv3⟩
  have xQ := xQ.below hv3
  have xR := xR.below hv3
  have xP := xP.below hv3
  have xS := xS.below hv3
  have xZ := xZ.below hv3
  obtain ⟨mQ03, mQ13, _, _⟩ := xQ.facts
  obtain ⟨mR03, mR13, _, _⟩ := xR.facts
  obtain ⟨mP03, mP13, _, _⟩ := xP.facts
  obtain ⟨mS03, mS13, _, _⟩ := xS.facts
  obtain ⟨mZ03, mZ13, _, _⟩ := xZ.facts
  have hV3 := hV2.trans (hv3.mono hV2.size)
  clear HS
  go_wp2_with fail
  have HS := hide (str_at 0 #[48] v3 (hT.below hV3) (by decide) (by decide) (by rw [Lib.itoa]; simp [Lib.decDigits]; try decide))
  refine (unhide HS).mono ?_
  rintro e v4 ⟨rfl, hv4⟩
  have xQ := xQ.below hv4
  have xR := xR.below hv4
  have xP := xP.below hv4
  have xS := xS.below hv4
  have xZ := xZ.below hv4
  obtain ⟨mQ04, mQ14, _, _⟩ := xQ.facts
  obtain ⟨mR04, mR14, _, _⟩ := xR.facts
  obtain ⟨mP04, mP14, _, _⟩ := xP.facts
  obtain ⟨mS04, mS14, _, _⟩ := xS.facts
  obtain ⟨mZ04, mZ14, _, _⟩ := xZ.facts
  have hV4 := hV3.trans (hv4.mono hV3.size)
  clear HS
  go_wp2
  go_ret
  exact ⟨rfl, hV4⟩

end Go.Proofs.YtblblpilmoefgaaDoor
