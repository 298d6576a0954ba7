/- The document's parser: inner. -/
import Derived.Test.YtljhpbjngbbjbaaDoorZAI
set_option linter.unusedVariables false
set_option linter.unusedSimpArgs false

namespace Go.Proofs.YtljhpbjngbbjbaaDoor
open Go Go.RowKit
set_option maxRecDepth 100000 in
set_option maxHeartbeats 8000000 in
theorem dinner_of {r d : Nat} {ts : List (Int × ByteArray × Int)} {g : Ru → PS → Ex × PS} (hT : TsOk ts) (hE : DcC 54 r ts d (g .rE)) (hP : DcC 69 r ts d (partD ts g)) : DcO 66 r ts d (innerD ts g) := by
  intro w st he hR
  obtain ⟨Y, hY⟩ : ∃ Y, innerD ts g st = Y := ⟨_, rfl⟩
  show Calls _ _ _ _ (DE (innerD ts g st) r ts d w)
  rw [hY]
  unfold innerD at hY
  have hr := hR.rlt
  obtain ⟨A, eA, hbA, hzA, hsA⟩ := zb_new w
  have HB := hide (But.of (r := r) hbA)
  have HR := hide (hR.keep hbA)
  have HZ := hide hzA
  have HS : Hid (w.heap.size < A.heap.size) := by show _ < _; omega
  have HE := hide eA
  have HT := hide hT
  have HY := hide hY
  replace he := hide he
  have hrne : r ≠ w.heap.size := by omega
  replace hE := hide hE
  replace hP := hide hP
  clear hR hbA hzA hsA eA hT hY
  go_enter Tryd.func66, Tryd.ntmps66
  generalize hQQ : bodyPost Tryd.prog Tryd.f66 (DE Y r ts d w) = QQ
  have HQQ := hide hQQ
  clear hQQ
  have HC0 := hide (dt_any (unhide HR) (unhide HT))
  unfold tkV at HC0
  obtain ⟨⟨kk0, T0, at0⟩, hN0⟩ : ∃ X, tD ts (st) = X := ⟨_, rfl⟩
  rw [hN0] at HC0
  have HN0 := hide hN0
  have hf20 := fld2 (.int .i64 kk0) (.string T0) (.int .i64 at0)
  clear hN0
  go_wp2_with fail
  rw [unhide HE]
  refine (unhide HC0).mono ?_
  rintro e w0 ⟨rfl, hb0⟩
  have hY1 := unhide HY
  simp only [unhide HN0] at hY1
  replace HY := hide hY1
  clear hY1
  have hbu2 := But.of (r := r) hb0
  replace HR := hide ((unhide HR).keep hb0)
  replace HB := hide ((unhide HB).trans hbu2)
  replace HZ := hide ((unhide HZ).but hbu2 hrne)
  replace HS := hide (Nat.lt_of_lt_of_le (unhide HS) hbu2.size)
  clear hb0 HC0
  have HC3 := hide (eat_any (unhide HR) (unhide HT) ⟨#[105, 102]⟩)
  obtain ⟨bo3, hbo3⟩ : ∃ b, isD ts ⟨#[105, 102]⟩ (st) = b := ⟨_, rfl⟩
  unfold eatD at HC3
  rw [hbo3] at HC3
  have HO3 := hide hbo3
  clear hbo3
  go_wp2_with fail
  refine (unhide HC3).mono ?_
  rintro e w3 ⟨rfl, hb3, hR3⟩
  replace HB := hide ((unhide HB).trans hb3)
  replace HZ := hide ((unhide HZ).but hb3 hrne)
  replace HS := hide (Nat.lt_of_lt_of_le (unhide HS) hb3.size)
  replace HR := hide hR3
  have hY4 := unhide HY
  simp only [unhide HO3] at hY4
  replace HY := hide hY4
  clear hY4
  clear hb3 HC3 hR3
  rcases bo3 with _ | _
  rotate_left
  · have hY5 := unhide HY
    simp only [if_true] at hY5
    replace HY := hide hY5
    clear hY5
    have hRR := unhide HR
    rw [if_pos rfl] at hRR
    obtain ⟨S6, hS6⟩ : ∃ S, stepD ts (st) = S := ⟨_, rfl⟩
    rw [hS6] at hRR
    replace HR := hide hRR
    have HSt6 := hide hS6
    have hY7 := unhide HY
    simp only [unhide HSt6] at hY7
    replace HY := hide hY7
    clear hY7
    clear hRR hS6
    have hY8 := unhide HY
    simp only [ifD] at hY8
    replace HY := hide hY8
    clear hY8
    have HC9 := hide (unhide hE w3 (S6) (unhide HR))
    obtain ⟨⟨t9, S9⟩, hX9⟩ : ∃ X, g .rE (S6) = X := ⟨_, rfl⟩
    rw [hX9] at HC9
    have HX9 := hide hX9
    clear hX9
    go_wp2_with fail
    refine (unhide HC9).mono ?_
    rintro e w9 ⟨hb9, hR9, v9, rfl, hv9⟩
    have hY10 := unhide HY
    simp only [unhide HX9] at hY10
    replace HY := hide hY10
    clear hY10
    obtain ⟨i9, j9, s9, m9, b9, a9, n9, c9, rfl⟩ := hv9.form
    have HT9 := hide (hv9.keep (lo' := w.heap.size + 1) (Stays.of (Below.refl _ _)) (unhide HS))
    replace HB := hide ((unhide HB).trans hb9)
    replace HZ := hide ((unhide HZ).but hb9 hrne)
    replace HS := hide (Nat.lt_of_lt_of_le (unhide HS) hb9.size)
    replace HR := hide hR9
    clear hb9 hR9 hv9 HC9 HX9
    obtain ⟨B11, eB11, hbB11, hsB11, hhB11⟩ := box_new w9 #[.int .i64 i9, .string s9, .string m9, .bool b9, .slice a9 n9 c9, .int .i64 0, .int .i64 j9] 51
    have ne11 : r ≠ w9.heap.size := by have := unhide HS; omega
    have hbu12 := But.of (r := r) hbB11
    replace HR := hide ((unhide HR).keep hbB11)
    replace HB := hide ((unhide HB).trans hbu12)
    replace HZ := hide ((unhide HZ).but hbu12 hrne)
    replace HT9 := hide ((unhide HT9).keep (Stays.but hbu12 (Nat.lt_succ_of_lt hr)) (Nat.le_refl _))
    replace HS := hide (Nat.lt_of_lt_of_le (unhide HS) hbu12.size)
    have HX11 := hide hhB11
    have HEB11 := hide eB11
    have HSB11 := hide hsB11
    clear eB11 hbB11 hhB11 hsB11
    obtain ⟨S13, hS13⟩ : ∃ S, mustD ts ⟨#[116, 104, 101, 110]⟩ (S9) = S := ⟨_, rfl⟩
    have HC13 := hide (dmust_any (unhide HR) (unhide HT) ⟨#[116, 104, 101, 110]⟩)
    rw [hS13] at HC13
    have HS13 := hide hS13
    clear hS13
    go_wp2_with fail
    rw [unhide HEB11]
    refine (unhide HC13).mono ?_
    rintro e w13 ⟨rfl, hb13, hR13⟩
    have hY14 := unhide HY
    simp only [unhide HS13] at hY14
    replace HY := hide hY14
    clear hY14
    replace HB := hide ((unhide HB).trans hb13)
    replace HZ := hide ((unhide HZ).but hb13 hrne)
    replace HX11 := hide ((hb13.block _ (blk (unhide HX11)).1 (Ne.symm ne11)).trans (unhide HX11))
    replace HT9 := hide ((unhide HT9).keep (Stays.but hb13 (Nat.lt_succ_of_lt hr)) (Nat.le_refl _))
    replace HS := hide (Nat.lt_of_lt_of_le (unhide HS) hb13.size)
    replace HR := hide hR13
    clear hb13 hR13 HC13 HS13
    have HC15 := hide (unhide hE w13 (S13) (unhide HR))
    obtain ⟨⟨t15, S15⟩, hX15⟩ : ∃ X, g .rE (S13) = X := ⟨_, rfl⟩
    rw [hX15] at HC15
    have HX15 := hide hX15
    clear hX15
    go_wp2_with fail
    refine (unhide HC15).mono ?_
    rintro e w15 ⟨hb15, hR15, v15, rfl, hv15⟩
    have hY16 := unhide HY
    simp only [unhide HX15] at hY16
    replace HY := hide hY16
    clear hY16
    obtain ⟨i15, j15, s15, m15, b15, a15, n15, c15, rfl⟩ := hv15.form
    have HT15 := hide (hv15.keep (lo' := w.heap.size + 1) (Stays.of (Below.refl _ _)) (unhide HS))
    replace HB := hide ((unhide HB).trans hb15)
    replace HZ := hide ((unhide HZ).but hb15 hrne)
    replace HX11 := hide ((hb15.block _ (blk (unhide HX11)).1 (Ne.symm ne11)).trans (unhide HX11))
    replace HT9 := hide ((unhide HT9).keep (Stays.but hb15 (Nat.lt_succ_of_lt hr)) (Nat.le_refl _))
    replace HS := hide (Nat.lt_of_lt_of_le (unhide HS) hb15.size)
    replace HR := hide hR15
    clear hb15 hR15 hv15 HC15 HX15
    obtain ⟨B17, eB17, hbB17, hsB17, hhB17⟩ := box_new w15 #[.int .i64 i15, .string s15, .string m15, .bool b15, .slice a15 n15 c15, .int .i64 0, .int .i64 j15] 51
    have ne17 : r ≠ w15.heap.size := by have := unhide HS; omega
    have hbu18 := But.of (r := r) hbB17
    replace HR := hide ((unhide HR).keep hbB17)
    replace HB := hide ((unhide HB).trans hbu18)
    replace HZ := hide ((unhide HZ).but hbu18 hrne)
    replace HX11 := hide ((hbu18.block _ (blk (unhide HX11)).1 (Ne.symm ne11)).trans (unhide HX11))
    replace HT9 := hide ((unhide HT9).keep (Stays.but hbu18 (Nat.lt_succ_of_lt hr)) (Nat.le_refl _))
    replace HT15 := hide ((unhide HT15).keep (Stays.but hbu18 (Nat.lt_succ_of_lt hr)) (Nat.le_refl _))
    replace HS := hide (Nat.lt_of_lt_of_le (unhide HS) hbu18.size)
    have HX17 := hide hhB17
    have HEB17 := hide eB17
    have HSB17 := hide hsB17
    clear eB17 hbB17 hhB17 hsB17
    obtain ⟨S19, hS19⟩ : ∃ S, mustD ts ⟨#[101, 108, 115, 101]⟩ (S15) = S := ⟨_, rfl⟩
    have HC19 := hide (dmust_any (unhide HR) (unhide HT) ⟨#[101, 108, 115, 101]⟩)
    rw [hS19] at HC19
    have HS19 := hide hS19
    clear hS19
    go_wp2_with fail
    rw [unhide HEB17]
    refine (unhide HC19).mono ?_
    rintro e w19 ⟨rfl, hb19, hR19⟩
    have hY20 := unhide HY
    simp only [unhide HS19] at hY20
    replace HY := hide hY20
    clear hY20
    replace HB := hide ((unhide HB).trans hb19)
    replace HZ := hide ((unhide HZ).but hb19 hrne)
    replace HX11 := hide ((hb19.block _ (blk (unhide HX11)).1 (Ne.symm ne11)).trans (unhide HX11))
    replace HX17 := hide ((hb19.block _ (blk (unhide HX17)).1 (Ne.symm ne17)).trans (unhide HX17))
    replace HT9 := hide ((unhide HT9).keep (Stays.but hb19 (Nat.lt_succ_of_lt hr)) (Nat.le_refl _))
    replace HT15 := hide ((unhide HT15).keep (Stays.but hb19 (Nat.lt_succ_of_lt hr)) (Nat.le_refl _))
    replace HS := hide (Nat.lt_of_lt_of_le (unhide HS) hb19.size)
    replace HR := hide hR19
    clear hb19 hR19 HC19 HS19
    have HC21 := hide (unhide hE w19 (S19) (unhide HR))
    obtain ⟨⟨t21, S21⟩, hX21⟩ : ∃ X, g .rE (S19) = X := ⟨_, rfl⟩
    rw [hX21] at HC21
    have HX21 := hide hX21
    clear hX21
    go_wp2_with fail
    refine (unhide HC21).mono ?_
    rintro e w21 ⟨hb21, hR21, v21, rfl, hv21⟩
    have hY22 := unhide HY
    simp only [unhide HX21] at hY22
    replace HY := hide hY22
    clear hY22
    obtain ⟨i21, j21, s21, m21, b21, a21, n21, c21, rfl⟩ := hv21.form
    have HT21 := hide (hv21.keep (lo' := w.heap.size + 1) (Stays.of (Below.refl _ _)) (unhide HS))
    replace HB := hide ((unhide HB).trans hb21)
    replace HZ := hide ((unhide HZ).but hb21 hrne)
    replace HX11 := hide ((hb21.block _ (blk (unhide HX11)).1 (Ne.symm ne11)).trans (unhide HX11))
    replace HX17 := hide ((hb21.block _ (blk (unhide HX17)).1 (Ne.symm ne17)).trans (unhide HX17))
    replace HT9 := hide ((unhide HT9).keep (Stays.but hb21 (Nat.lt_succ_of_lt hr)) (Nat.le_refl _))
    replace HT15 := hide ((unhide HT15).keep (Stays.but hb21 (Nat.lt_succ_of_lt hr)) (Nat.le_refl _))
    replace HS := hide (Nat.lt_of_lt_of_le (unhide HS) hb21.size)
    replace HR := hide hR21
    clear hb21 hR21 hv21 HC21 HX21
    obtain ⟨B23, eB23, hbB23, hsB23, hhB23⟩ := box_new w21 #[.int .i64 i21, .string s21, .string m21, .bool b21, .slice a21 n21 c21, .int .i64 0, .int .i64 j21] 51
    have ne23 : r ≠ w21.heap.size := by have := unhide HS; omega
    have hbu24 := But.of (r := r) hbB23
    replace HR := hide ((unhide HR).keep hbB23)
    replace HB := hide ((unhide HB).trans hbu24)
    replace HZ := hide ((unhide HZ).but hbu24 hrne)
    replace HX11 := hide ((hbu24.block _ (blk (unhide HX11)).1 (Ne.symm ne11)).trans (unhide HX11))
    replace HX17 := hide ((hbu24.block _ (blk (unhide HX17)).1 (Ne.symm ne17)).trans (unhide HX17))
    replace HT9 := hide ((unhide HT9).keep (Stays.but hbu24 (Nat.lt_succ_of_lt hr)) (Nat.le_refl _))
    replace HT15 := hide ((unhide HT15).keep (Stays.but hbu24 (Nat.lt_succ_of_lt hr)) (Nat.le_refl _))
    replace HT21 := hide ((unhide HT21).keep (Stays.but hbu24 (Nat.lt_succ_of_lt hr)) (Nat.le_refl _))
    replace HS := hide (Nat.lt_of_lt_of_le (unhide HS) hbu24.size)
    have HX23 := hide hhB23
    have HEB23 := hide eB23
    have HSB23 := hide hsB23
    clear eB23 hbB23 hhB23 hsB23
    obtain ⟨y011, y111, y211, y311, y411, y511, y611⟩ := blk7 (unhide HX11)
    obtain ⟨y017, y117, y217, y317, y417, y517, y617⟩ := blk7 (unhide HX17)
    obtain ⟨y023, y123, y223, y323, y423, y523, y623⟩ := blk7 (unhide HX23)
    rw [← unhide HEB23] at y011 y111 y211 y311 y411 y511 y611 y017 y117 y217 y317 y417 y517 y617 y023 y123 y223 y323 y423 y523 y623
    obtain ⟨C25, eC25, hbC25, hsC25, hhC25⟩ := box_new B23 #[.int .i64 i9, .string s9, .string m9, .bool b9, .slice a9 n9 c9, .int .i64 0, .int .i64 j9, .int .i64 i15, .string s15, .string m15, .bool b15, .slice a15 n15 c15, .int .i64 0, .int .i64 j15, .int .i64 i21, .string s21, .string m21, .bool b21, .slice a21 n21 c21, .int .i64 0, .int .i64 j21] 51
    have hnode := node (l := [t9, t15, t21]) (vs := [[.int .i64 i9, .string s9, .string m9, .bool b9, .slice a9 n9 c9, .int .i64 0, .int .i64 j9], [.int .i64 i15, .string s15, .string m15, .bool b15, .slice a15 n15 c15, .int .i64 0, .int .i64 j15], [.int .i64 i21, .string s21, .string m21, .bool b21, .slice a21 n21 c21, .int .i64 0, .int .i64 j21]]) 22 at0 ⟨#[]⟩ ⟨#[]⟩ false eC25 rfl (by simp) rfl (by simp) (unhide HS) (fun j v t hv ht => by
      rcases j with _ | _ | _ | j
      · obtain rfl := Option.some.inj hv
        obtain rfl := Option.some.inj ht
        exact unhide HT9
      · obtain rfl := Option.some.inj hv
        obtain rfl := Option.some.inj ht
        exact unhide HT15
      · obtain rfl := Option.some.inj hv
        obtain rfl := Option.some.inj ht
        exact unhide HT21
      · simp at hv)
    rw [unhide HSB23] at hnode
    have hbu26 := But.of (r := r) hbC25
    replace HR := hide ((unhide HR).keep hbC25)
    replace HB := hide ((unhide HB).trans hbu26)
    replace HZ := hide ((unhide HZ).but hbu26 hrne)
    replace HX11 := hide ((hbu26.block _ (blk (unhide HX11)).1 (Ne.symm ne11)).trans (unhide HX11))
    replace HX17 := hide ((hbu26.block _ (blk (unhide HX17)).1 (Ne.symm ne17)).trans (unhide HX17))
    replace HX23 := hide ((hbu26.block _ (blk (unhide HX23)).1 (Ne.symm ne23)).trans (unhide HX23))
    replace HS := hide (Nat.lt_of_lt_of_le (unhide HS) hbu26.size)
    obtain ⟨y0, y1, y2, y3, y4, y5, y6⟩ := blk7 (unhide HZ)
    obtain ⟨z0, z1, z2, z3, z4, z5, z6⟩ := frz7 (unhide HZ)
    rw [← eC25, ← unhide HEB23] at y0 y1 y2 y3 y4 y5 y6 z0 z1 z2 z3 z4 z5 z6
    have HNode := hide hnode
    have HEC := hide eC25
    clear hnode eC25 hbC25 hsC25 hhC25
    go_wp2
    rw [unhide HEB23, unhide HEC]
    rw [← unhide HQQ]
    exact dret_put rfl rfl rfl (unhide HB) hr (unhide HZ) (unhide HY).symm (unhide HR) (Nat.lt_succ_self _) (unhide HNode)
  have hY27 := unhide HY
  simp only [Bool.false_eq_true, if_false] at hY27
  replace HY := hide hY27
  clear hY27
  have hRR := unhide HR
  rw [if_neg Bool.false_ne_true] at hRR
  replace HR := hide hRR
  clear hRR
  have HC28 := hide (eat_any (unhide HR) (unhide HT) ⟨#[108, 101, 116]⟩)
  obtain ⟨bo28, hbo28⟩ : ∃ b, isD ts ⟨#[108, 101, 116]⟩ (st) = b := ⟨_, rfl⟩
  unfold eatD at HC28
  rw [hbo28] at HC28
  have HO28 := hide hbo28
  clear hbo28
  go_wp2_with fail
  refine (unhide HC28).mono ?_
  rintro e w28 ⟨rfl, hb28, hR28⟩
  replace HB := hide ((unhide HB).trans hb28)
  replace HZ := hide ((unhide HZ).but hb28 hrne)
  replace HS := hide (Nat.lt_of_lt_of_le (unhide HS) hb28.size)
  replace HR := hide hR28
  have hY29 := unhide HY
  simp only [unhide HO28] at hY29
  replace HY := hide hY29
  clear hY29
  clear hb28 HC28 hR28
  rcases bo28 with _ | _
  rotate_left
  · have hY30 := unhide HY
    simp only [if_true] at hY30
    replace HY := hide hY30
    clear hY30
    have hRR := unhide HR
    rw [if_pos rfl] at hRR
    obtain ⟨S31, hS31⟩ : ∃ S, stepD ts (st) = S := ⟨_, rfl⟩
    rw [hS31] at hRR
    replace HR := hide hRR
    have HSt31 := hide hS31
    have hY32 := unhide HY
    simp only [unhide HSt31] at hY32
    replace HY := hide hY32
    clear hY32
    clear hRR hS31
    have hY33 := unhide HY
    simp only [letD] at hY33
    replace HY := hide hY33
    clear hY33
    have HC34 := hide (name_any (unhide HR) (unhide HT))
    unfold tkV at HC34
    obtain ⟨⟨⟨kk34, T34, at34⟩, S34⟩, hN34⟩ : ∃ X, nameD ts (S31) = X := ⟨_, rfl⟩
    rw [hN34] at HC34
    have HN34 := hide hN34
    clear hN34
    go_wp2_with fail
    refine (unhide HC34).mono ?_
    rintro e w34 ⟨rfl, hb34, hR34⟩
    have hY35 := unhide HY
    simp only [unhide HN34] at hY35
    replace HY := hide hY35
    clear hY35
    replace HB := hide ((unhide HB).trans hb34)
    replace HZ := hide ((unhide HZ).but hb34 hrne)
    replace HS := hide (Nat.lt_of_lt_of_le (unhide HS) hb34.size)
    replace HR := hide hR34
    clear hb34 hR34 HC34
    obtain ⟨B36, eB36, hbB36, hsB36, hhB36⟩ := box_new w34 #[.int .i64 kk34, .string T34, .int .i64 at34] 87
    have ne36 : r ≠ w34.heap.size := by have := unhide HS; omega
    have hbu37 := But.of (r := r) hbB36
    replace HR := hide ((unhide HR).keep hbB36)
    replace HB := hide ((unhide HB).trans hbu37)
    replace HZ := hide ((unhide HZ).but hbu37 hrne)
    replace HS := hide (Nat.lt_of_lt_of_le (unhide HS) hbu37.size)
    have HX36 := hide hhB36
    have HEB36 := hide eB36
    have HSB36 := hide hsB36
    clear eB36 hbB36 hhB36 hsB36
    obtain ⟨S38, hS38⟩ : ∃ S, mustD ts ⟨#[61]⟩ (S34) = S := ⟨_, rfl⟩
    have HC38 := hide (dmust_any (unhide HR) (unhide HT) ⟨#[61]⟩)
    rw [hS38] at HC38
    have HS38 := hide hS38
    clear hS38
    go_wp2_with fail
    rw [unhide HEB36]
    refine (unhide HC38).mono ?_
    rintro e w38 ⟨rfl, hb38, hR38⟩
    have hY39 := unhide HY
    simp only [unhide HS38] at hY39
    replace HY := hide hY39
    clear hY39
    replace HB := hide ((unhide HB).trans hb38)
    replace HZ := hide ((unhide HZ).but hb38 hrne)
    replace HX36 := hide ((hb38.block _ (blk (unhide HX36)).1 (Ne.symm ne36)).trans (unhide HX36))
    replace HS := hide (Nat.lt_of_lt_of_le (unhide HS) hb38.size)
    replace HR := hide hR38
    clear hb38 hR38 HC38 HS38
    have HC40 := hide (unhide hE w38 (S38) (unhide HR))
    obtain ⟨⟨t40, S40⟩, hX40⟩ : ∃ X, g .rE (S38) = X := ⟨_, rfl⟩
    rw [hX40] at HC40
    have HX40 := hide hX40
    clear hX40
    go_wp2_with fail
    refine (unhide HC40).mono ?_
    rintro e w40 ⟨hb40, hR40, v40, rfl, hv40⟩
    have hY41 := unhide HY
    simp only [unhide HX40] at hY41
    replace HY := hide hY41
    clear hY41
    obtain ⟨i40, j40, s40, m40, b40, a40, n40, c40, rfl⟩ := hv40.form
    have HT40 := hide (hv40.keep (lo' := w.heap.size + 1) (Stays.of (Below.refl _ _)) (unhide HS))
    replace HB := hide ((unhide HB).trans hb40)
    replace HZ := hide ((unhide HZ).but hb40 hrne)
    replace HX36 := hide ((hb40.block _ (blk (unhide HX36)).1 (Ne.symm ne36)).trans (unhide HX36))
    replace HS := hide (Nat.lt_of_lt_of_le (unhide HS) hb40.size)
    replace HR := hide hR40
    clear hb40 hR40 hv40 HC40 HX40
    obtain ⟨B42, eB42, hbB42, hsB42, hhB42⟩ := box_new w40 #[.int .i64 i40, .string s40, .string m40, .bool b40, .slice a40 n40 c40, .int .i64 0, .int .i64 j40] 51
    have ne42 : r ≠ w40.heap.size := by have := unhide HS; omega
    have hbu43 := But.of (r := r) hbB42
    replace HR := hide ((unhide HR).keep hbB42)
    replace HB := hide ((unhide HB).trans hbu43)
    replace HZ := hide ((unhide HZ).but hbu43 hrne)
    replace HX36 := hide ((hbu43.block _ (blk (unhide HX36)).1 (Ne.symm ne36)).trans (unhide HX36))
    replace HT40 := hide ((unhide HT40).keep (Stays.but hbu43 (Nat.lt_succ_of_lt hr)) (Nat.le_refl _))
    replace HS := hide (Nat.lt_of_lt_of_le (unhide HS) hbu43.size)
    have HX42 := hide hhB42
    have HEB42 := hide eB42
    have HSB42 := hide hsB42
    clear eB42 hbB42 hhB42 hsB42
    obtain ⟨S44, hS44⟩ : ∃ S, mustD ts ⟨#[105, 110]⟩ (S40) = S := ⟨_, rfl⟩
    have HC44 := hide (dmust_any (unhide HR) (unhide HT) ⟨#[105, 110]⟩)
    rw [hS44] at HC44
    have HS44 := hide hS44
    clear hS44
    go_wp2_with fail
    rw [unhide HEB42]
    refine (unhide HC44).mono ?_
    rintro e w44 ⟨rfl, hb44, hR44⟩
    have hY45 := unhide HY
    simp only [unhide HS44] at hY45
    replace HY := hide hY45
    clear hY45
    replace HB := hide ((unhide HB).trans hb44)
    replace HZ := hide ((unhide HZ).but hb44 hrne)
    replace HX36 := hide ((hb44.block _ (blk (unhide HX36)).1 (Ne.symm ne36)).trans (unhide HX36))
    replace HX42 := hide ((hb44.block _ (blk (unhide HX42)).1 (Ne.symm ne42)).trans (unhide HX42))
    replace HT40 := hide ((unhide HT40).keep (Stays.but hb44 (Nat.lt_succ_of_lt hr)) (Nat.le_refl _))
    replace HS := hide (Nat.lt_of_lt_of_le (unhide HS) hb44.size)
    replace HR := hide hR44
    clear hb44 hR44 HC44 HS44
    have HC46 := hide (unhide hE w44 (S44) (unhide HR))
    obtain ⟨⟨t46, S46⟩, hX46⟩ : ∃ X, g .rE (S44) = X := ⟨_, rfl⟩
    rw [hX46] at HC46
    have HX46 := hide hX46
    clear hX46
    go_wp2_with fail
    refine (unhide HC46).mono ?_
    rintro e w46 ⟨hb46, hR46, v46, rfl, hv46⟩
    have hY47 := unhide HY
    simp only [unhide HX46] at hY47
    replace HY := hide hY47
    clear hY47
    obtain ⟨i46, j46, s46, m46, b46, a46, n46, c46, rfl⟩ := hv46.form
    have HT46 := hide (hv46.keep (lo' := w.heap.size + 1) (Stays.of (Below.refl _ _)) (unhide HS))
    replace HB := hide ((unhide HB).trans hb46)
    replace HZ := hide ((unhide HZ).but hb46 hrne)
    replace HX36 := hide ((hb46.block _ (blk (unhide HX36)).1 (Ne.symm ne36)).trans (unhide HX36))
    replace HX42 := hide ((hb46.block _ (blk (unhide HX42)).1 (Ne.symm ne42)).trans (unhide HX42))
    replace HT40 := hide ((unhide HT40).keep (Stays.but hb46 (Nat.lt_succ_of_lt hr)) (Nat.le_refl _))
    replace HS := hide (Nat.lt_of_lt_of_le (unhide HS) hb46.size)
    replace HR := hide hR46
    clear hb46 hR46 hv46 HC46 HX46
    obtain ⟨B48, eB48, hbB48, hsB48, hhB48⟩ := box_new w46 #[.int .i64 i46, .string s46, .string m46, .bool b46, .slice a46 n46 c46, .int .i64 0, .int .i64 j46] 51
    have ne48 : r ≠ w46.heap.size := by have := unhide HS; omega
    have hbu49 := But.of (r := r) hbB48
    replace HR := hide ((unhide HR).keep hbB48)
    replace HB := hide ((unhide HB).trans hbu49)
    replace HZ := hide ((unhide HZ).but hbu49 hrne)
    replace HX36 := hide ((hbu49.block _ (blk (unhide HX36)).1 (Ne.symm ne36)).trans (unhide HX36))
    replace HX42 := hide ((hbu49.block _ (blk (unhide HX42)).1 (Ne.symm ne42)).trans (unhide HX42))
    replace HT40 := hide ((unhide HT40).keep (Stays.but hbu49 (Nat.lt_succ_of_lt hr)) (Nat.le_refl _))
    replace HT46 := hide ((unhide HT46).keep (Stays.but hbu49 (Nat.lt_succ_of_lt hr)) (Nat.le_refl _))
    replace HS := hide (Nat.lt_of_lt_of_le (unhide HS) hbu49.size)
    have HX48 := hide hhB48
    have HEB48 := hide eB48
    have HSB48 := hide hsB48
    clear eB48 hbB48 hhB48 hsB48
    have u036 := (blk (unhide HX36)).2.1 0 _ rfl
    have u136 := (blk (unhide HX36)).2.1 1 _ rfl
    have u236 := (blk (unhide HX36)).2.1 2 _ rfl
    obtain ⟨y042, y142, y242, y342, y442, y542, y642⟩ := blk7 (unhide HX42)
    obtain ⟨y048, y148, y248, y348, y448, y548, y648⟩ := blk7 (unhide HX48)
    rw [← unhide HEB48] at u036 u136 u236 y042 y142 y242 y342 y442 y542 y642 y048 y148 y248 y348 y448 y548 y648
    obtain ⟨C50, eC50, hbC50, hsC50, hhC50⟩ := box_new B48 #[.int .i64 i40, .string s40, .string m40, .bool b40, .slice a40 n40 c40, .int .i64 0, .int .i64 j40, .int .i64 i46, .string s46, .string m46, .bool b46, .slice a46 n46 c46, .int .i64 0, .int .i64 j46] 51
    have hnode := node (l := [t40, t46]) (vs := [[.int .i64 i40, .string s40, .string m40, .bool b40, .slice a40 n40 c40, .int .i64 0, .int .i64 j40], [.int .i64 i46, .string s46, .string m46, .bool b46, .slice a46 n46 c46, .int .i64 0, .int .i64 j46]]) 23 at0 T34 ⟨#[]⟩ false eC50 rfl (by simp) rfl (by simp) (unhide HS) (fun j v t hv ht => by
      rcases j with _ | _ | j
      · obtain rfl := Option.some.inj hv
        obtain rfl := Option.some.inj ht
        exact unhide HT40
      · obtain rfl := Option.some.inj hv
        obtain rfl := Option.some.inj ht
        exact unhide HT46
      · simp at hv)
    rw [unhide HSB48] at hnode
    have hbu51 := But.of (r := r) hbC50
    replace HR := hide ((unhide HR).keep hbC50)
    replace HB := hide ((unhide HB).trans hbu51)
    replace HZ := hide ((unhide HZ).but hbu51 hrne)
    replace HX36 := hide ((hbu51.block _ (blk (unhide HX36)).1 (Ne.symm ne36)).trans (unhide HX36))
    replace HX42 := hide ((hbu51.block _ (blk (unhide HX42)).1 (Ne.symm ne42)).trans (unhide HX42))
    replace HX48 := hide ((hbu51.block _ (blk (unhide HX48)).1 (Ne.symm ne48)).trans (unhide HX48))
    replace HS := hide (Nat.lt_of_lt_of_le (unhide HS) hbu51.size)
    obtain ⟨y0, y1, y2, y3, y4, y5, y6⟩ := blk7 (unhide HZ)
    obtain ⟨z0, z1, z2, z3, z4, z5, z6⟩ := frz7 (unhide HZ)
    rw [← eC50, ← unhide HEB48] at y0 y1 y2 y3 y4 y5 y6 z0 z1 z2 z3 z4 z5 z6
    have HNode := hide hnode
    have HEC := hide eC50
    clear hnode eC50 hbC50 hsC50 hhC50
    go_wp2
    rw [unhide HEB48, unhide HEC]
    rw [← unhide HQQ]
    exact dret_put rfl rfl rfl (unhide HB) hr (unhide HZ) (unhide HY).symm (unhide HR) (Nat.lt_succ_self _) (unhide HNode)
  have hY52 := unhide HY
  simp only [Bool.false_eq_true, if_false] at hY52
  replace HY := hide hY52
  clear hY52
  have hRR := unhide HR
  rw [if_neg Bool.false_ne_true] at hRR
  replace HR := hide hRR
  clear hRR
  have HC53 := hide (eat_any (unhide HR) (unhide HT) ⟨#[116, 114, 121]⟩)
  obtain ⟨bo53, hbo53⟩ : ∃ b, isD ts ⟨#[116, 114, 121]⟩ (st) = b := ⟨_, rfl⟩
  unfold eatD at HC53
  rw [hbo53] at HC53
  have HO53 := hide hbo53
  clear hbo53
  go_wp2_with fail
  refine (unhide HC53).mono ?_
  rintro e w53 ⟨rfl, hb53, hR53⟩
  replace HB := hide ((unhide HB).trans hb53)
  replace HZ := hide ((unhide HZ).but hb53 hrne)
  replace HS := hide (Nat.lt_of_lt_of_le (unhide HS) hb53.size)
  replace HR := hide hR53
  have hY54 := unhide HY
  simp only [unhide HO53] at hY54
  replace HY := hide hY54
  clear hY54
  clear hb53 HC53 hR53
  rcases bo53 with _ | _
  rotate_left
  · have hY55 := unhide HY
    simp only [if_true] at hY55
    replace HY := hide hY55
    clear hY55
    have hRR := unhide HR
    rw [if_pos rfl] at hRR
    obtain ⟨S56, hS56⟩ : ∃ S, stepD ts (st) = S := ⟨_, rfl⟩
    rw [hS56] at hRR
    replace HR := hide hRR
    have HSt56 := hide hS56
    have hY57 := unhide HY
    simp only [unhide HSt56] at hY57
    replace HY := hide hY57
    clear hY57
    clear hRR hS56
    have hY58 := unhide HY
    simp only [tryD] at hY58
    replace HY := hide hY58
    clear hY58
    have HC59 := hide (unhide hE w53 (S56) (unhide HR))
    obtain ⟨⟨t59, S59⟩, hX59⟩ : ∃ X, g .rE (S56) = X := ⟨_, rfl⟩
    rw [hX59] at HC59
    have HX59 := hide hX59
    clear hX59
    go_wp2_with fail
    refine (unhide HC59).mono ?_
    rintro e w59 ⟨hb59, hR59, v59, rfl, hv59⟩
    have hY60 := unhide HY
    simp only [unhide HX59] at hY60
    replace HY := hide hY60
    clear hY60
    obtain ⟨i59, j59, s59, m59, b59, a59, n59, c59, rfl⟩ := hv59.form
    have HT59 := hide (hv59.keep (lo' := w.heap.size + 1) (Stays.of (Below.refl _ _)) (unhide HS))
    replace HB := hide ((unhide HB).trans hb59)
    replace HZ := hide ((unhide HZ).but hb59 hrne)
    replace HS := hide (Nat.lt_of_lt_of_le (unhide HS) hb59.size)
    replace HR := hide hR59
    clear hb59 hR59 hv59 HC59 HX59
    obtain ⟨B61, eB61, hbB61, hsB61, hhB61⟩ := box_new w59 #[.int .i64 i59, .string s59, .string m59, .bool b59, .slice a59 n59 c59, .int .i64 0, .int .i64 j59] 51
    have ne61 : r ≠ w59.heap.size := by have := unhide HS; omega
    have hbu62 := But.of (r := r) hbB61
    replace HR := hide ((unhide HR).keep hbB61)
    replace HB := hide ((unhide HB).trans hbu62)
    replace HZ := hide ((unhide HZ).but hbu62 hrne)
    replace HT59 := hide ((unhide HT59).keep (Stays.but hbu62 (Nat.lt_succ_of_lt hr)) (Nat.le_refl _))
    replace HS := hide (Nat.lt_of_lt_of_le (unhide HS) hbu62.size)
    have HX61 := hide hhB61
    have HEB61 := hide eB61
    have HSB61 := hide hsB61
    clear eB61 hbB61 hhB61 hsB61
    obtain ⟨S63, hS63⟩ : ∃ S, mustD ts ⟨#[119, 105, 116, 104]⟩ (S59) = S := ⟨_, rfl⟩
    have HC63 := hide (dmust_any (unhide HR) (unhide HT) ⟨#[119, 105, 116, 104]⟩)
    rw [hS63] at HC63
    have HS63 := hide hS63
    clear hS63
    go_wp2_with fail
    rw [unhide HEB61]
    refine (unhide HC63).mono ?_
    rintro e w63 ⟨rfl, hb63, hR63⟩
    have hY64 := unhide HY
    simp only [unhide HS63] at hY64
    replace HY := hide hY64
    clear hY64
    replace HB := hide ((unhide HB).trans hb63)
    replace HZ := hide ((unhide HZ).but hb63 hrne)
    replace HX61 := hide ((hb63.block _ (blk (unhide HX61)).1 (Ne.symm ne61)).trans (unhide HX61))
    replace HT59 := hide ((unhide HT59).keep (Stays.but hb63 (Nat.lt_succ_of_lt hr)) (Nat.le_refl _))
    replace HS := hide (Nat.lt_of_lt_of_le (unhide HS) hb63.size)
    replace HR := hide hR63
    clear hb63 hR63 HC63 HS63
    have HC65 := hide (name_any (unhide HR) (unhide HT))
    unfold tkV at HC65
    obtain ⟨⟨⟨kk65, T65, at65⟩, S65⟩, hN65⟩ : ∃ X, nameD ts (S63) = X := ⟨_, rfl⟩
    rw [hN65] at HC65
    have HN65 := hide hN65
    clear hN65
    go_wp2_with fail
    refine (unhide HC65).mono ?_
    rintro e w65 ⟨rfl, hb65, hR65⟩
    have hY66 := unhide HY
    simp only [unhide HN65] at hY66
    replace HY := hide hY66
    clear hY66
    replace HB := hide ((unhide HB).trans hb65)
    replace HZ := hide ((unhide HZ).but hb65 hrne)
    replace HX61 := hide ((hb65.block _ (blk (unhide HX61)).1 (Ne.symm ne61)).trans (unhide HX61))
    replace HT59 := hide ((unhide HT59).keep (Stays.but hb65 (Nat.lt_succ_of_lt hr)) (Nat.le_refl _))
    replace HS := hide (Nat.lt_of_lt_of_le (unhide HS) hb65.size)
    replace HR := hide hR65
    clear hb65 hR65 HC65
    obtain ⟨B67, eB67, hbB67, hsB67, hhB67⟩ := box_new w65 #[.int .i64 kk65, .string T65, .int .i64 at65] 87
    have ne67 : r ≠ w65.heap.size := by have := unhide HS; omega
    have hbu68 := But.of (r := r) hbB67
    replace HR := hide ((unhide HR).keep hbB67)
    replace HB := hide ((unhide HB).trans hbu68)
    replace HZ := hide ((unhide HZ).but hbu68 hrne)
    replace HX61 := hide ((hbu68.block _ (blk (unhide HX61)).1 (Ne.symm ne61)).trans (unhide HX61))
    replace HT59 := hide ((unhide HT59).keep (Stays.but hbu68 (Nat.lt_succ_of_lt hr)) (Nat.le_refl _))
    replace HS := hide (Nat.lt_of_lt_of_le (unhide HS) hbu68.size)
    have HX67 := hide hhB67
    have HEB67 := hide eB67
    have HSB67 := hide hsB67
    clear eB67 hbB67 hhB67 hsB67
    obtain ⟨S69, hS69⟩ : ∃ S, mustD ts ⟨#[45, 62]⟩ (S65) = S := ⟨_, rfl⟩
    have HC69 := hide (dmust_any (unhide HR) (unhide HT) ⟨#[45, 62]⟩)
    rw [hS69] at HC69
    have HS69 := hide hS69
    clear hS69
    go_wp2_with fail
    rw [unhide HEB67]
    refine (unhide HC69).mono ?_
    rintro e w69 ⟨rfl, hb69, hR69⟩
    have hY70 := unhide HY
    simp only [unhide HS69] at hY70
    replace HY := hide hY70
    clear hY70
    replace HB := hide ((unhide HB).trans hb69)
    replace HZ := hide ((unhide HZ).but hb69 hrne)
    replace HX61 := hide ((hb69.block _ (blk (unhide HX61)).1 (Ne.symm ne61)).trans (unhide HX61))
    replace HX67 := hide ((hb69.block _ (blk (unhide HX67)).1 (Ne.symm ne67)).trans (unhide HX67))
    replace HT59 := hide ((unhide HT59).keep (Stays.but hb69 (Nat.lt_succ_of_lt hr)) (Nat.le_refl _))
    replace HS := hide (Nat.lt_of_lt_of_le (unhide HS) hb69.size)
    replace HR := hide hR69
    clear hb69 hR69 HC69 HS69
    have HC71 := hide (unhide hE w69 (S69) (unhide HR))
    obtain ⟨⟨t71, S71⟩, hX71⟩ : ∃ X, g .rE (S69) = X := ⟨_, rfl⟩
    rw [hX71] at HC71
    have HX71 := hide hX71
    clear hX71
    go_wp2_with fail
    refine (unhide HC71).mono ?_
    rintro e w71 ⟨hb71, hR71, v71, rfl, hv71⟩
    have hY72 := unhide HY
    simp only [unhide HX71] at hY72
    replace HY := hide hY72
    clear hY72
    obtain ⟨i71, j71, s71, m71, b71, a71, n71, c71, rfl⟩ := hv71.form
    have HT71 := hide (hv71.keep (lo' := w.heap.size + 1) (Stays.of (Below.refl _ _)) (unhide HS))
    replace HB := hide ((unhide HB).trans hb71)
    replace HZ := hide ((unhide HZ).but hb71 hrne)
    replace HX61 := hide ((hb71.block _ (blk (unhide HX61)).1 (Ne.symm ne61)).trans (unhide HX61))
    replace HX67 := hide ((hb71.block _ (blk (unhide HX67)).1 (Ne.symm ne67)).trans (unhide HX67))
    replace HT59 := hide ((unhide HT59).keep (Stays.but hb71 (Nat.lt_succ_of_lt hr)) (Nat.le_refl _))
    replace HS := hide (Nat.lt_of_lt_of_le (unhide HS) hb71.size)
    replace HR := hide hR71
    clear hb71 hR71 hv71 HC71 HX71
    obtain ⟨B73, eB73, hbB73, hsB73, hhB73⟩ := box_new w71 #[.int .i64 i71, .string s71, .string m71, .bool b71, .slice a71 n71 c71, .int .i64 0, .int .i64 j71] 51
    have ne73 : r ≠ w71.heap.size := by have := unhide HS; omega
    have hbu74 := But.of (r := r) hbB73
    replace HR := hide ((unhide HR).keep hbB73)
    replace HB := hide ((unhide HB).trans hbu74)
    replace HZ := hide ((unhide HZ).but hbu74 hrne)
    replace HX61 := hide ((hbu74.block _ (blk (unhide HX61)).1 (Ne.symm ne61)).trans (unhide HX61))
    replace HX67 := hide ((hbu74.block _ (blk (unhide HX67)).1 (Ne.symm ne67)).trans (unhide HX67))
    replace HT59 := hide ((unhide HT59).keep (Stays.but hbu74 (Nat.lt_succ_of_lt hr)) (Nat.le_refl _))
    replace HT71 := hide ((unhide HT71).keep (Stays.but hbu74 (Nat.lt_succ_of_lt hr)) (Nat.le_refl _))
    replace HS := hide (Nat.lt_of_lt_of_le (unhide HS) hbu74.size)
    have HX73 := hide hhB73
    have HEB73 := hide eB73
    have HSB73 := hide hsB73
    clear eB73 hbB73 hhB73 hsB73
    have u067 := (blk (unhide HX67)).2.1 0 _ rfl
    have u167 := (blk (unhide HX67)).2.1 1 _ rfl
    have u267 := (blk (unhide HX67)).2.1 2 _ rfl
    obtain ⟨y061, y161, y261, y361, y461, y561, y661⟩ := blk7 (unhide HX61)
    obtain ⟨y073, y173, y273, y373, y473, y573, y673⟩ := blk7 (unhide HX73)
    rw [← unhide HEB73] at u067 u167 u267 y061 y161 y261 y361 y461 y561 y661 y073 y173 y273 y373 y473 y573 y673
    obtain ⟨C75, eC75, hbC75, hsC75, hhC75⟩ := box_new B73 #[.int .i64 i59, .string s59, .string m59, .bool b59, .slice a59 n59 c59, .int .i64 0, .int .i64 j59, .int .i64 i71, .string s71, .string m71, .bool b71, .slice a71 n71 c71, .int .i64 0, .int .i64 j71] 51
    have hnode := node (l := [t59, t71]) (vs := [[.int .i64 i59, .string s59, .string m59, .bool b59, .slice a59 n59 c59, .int .i64 0, .int .i64 j59], [.int .i64 i71, .string s71, .string m71, .bool b71, .slice a71 n71 c71, .int .i64 0, .int .i64 j71]]) 27 at0 T65 ⟨#[]⟩ false eC75 rfl (by simp) rfl (by simp) (unhide HS) (fun j v t hv ht => by
      rcases j with _ | _ | j
      · obtain rfl := Option.some.inj hv
        obtain rfl := Option.some.inj ht
        exact unhide HT59
      · obtain rfl := Option.some.inj hv
        obtain rfl := Option.some.inj ht
        exact unhide HT71
      · simp at hv)
    rw [unhide HSB73] at hnode
    have hbu76 := But.of (r := r) hbC75
    replace HR := hide ((unhide HR).keep hbC75)
    replace HB := hide ((unhide HB).trans hbu76)
    replace HZ := hide ((unhide HZ).but hbu76 hrne)
    replace HX61 := hide ((hbu76.block _ (blk (unhide HX61)).1 (Ne.symm ne61)).trans (unhide HX61))
    replace HX67 := hide ((hbu76.block _ (blk (unhide HX67)).1 (Ne.symm ne67)).trans (unhide HX67))
    replace HX73 := hide ((hbu76.block _ (blk (unhide HX73)).1 (Ne.symm ne73)).trans (unhide HX73))
    replace HS := hide (Nat.lt_of_lt_of_le (unhide HS) hbu76.size)
    obtain ⟨y0, y1, y2, y3, y4, y5, y6⟩ := blk7 (unhide HZ)
    obtain ⟨z0, z1, z2, z3, z4, z5, z6⟩ := frz7 (unhide HZ)
    rw [← eC75, ← unhide HEB73] at y0 y1 y2 y3 y4 y5 y6 z0 z1 z2 z3 z4 z5 z6
    have HNode := hide hnode
    have HEC := hide eC75
    clear hnode eC75 hbC75 hsC75 hhC75
    go_wp2
    rw [unhide HEB73, unhide HEC]
    rw [← unhide HQQ]
    exact dret_put rfl rfl rfl (unhide HB) hr (unhide HZ) (unhide HY).symm (unhide HR) (Nat.lt_succ_self _) (unhide HNode)
  have hY77 := unhide HY
  simp only [Bool.false_eq_true, if_false] at hY77
  replace HY := hide hY77
  clear hY77
  have hRR := unhide HR
  rw [if_neg Bool.false_ne_true] at hRR
  replace HR := hide hRR
  clear hRR
  have HC78 := hide (unhide hP w53 (st) (unhide HR))
  obtain ⟨⟨t78, S78⟩, hX78⟩ : ∃ X, partD ts g (st) = X := ⟨_, rfl⟩
  rw [hX78] at HC78
  have HX78 := hide hX78
  clear hX78
  go_wp2_with fail
  refine (unhide HC78).mono ?_
  rintro e w78 ⟨hb78, hR78, v78, rfl, hv78⟩
  have hY79 := unhide HY
  simp only [unhide HX78] at hY79
  replace HY := hide hY79
  clear hY79
  obtain ⟨i78, j78, s78, m78, b78, a78, n78, c78, rfl⟩ := hv78.form
  have HT78 := hide (hv78.keep (lo' := w.heap.size + 1) (Stays.of (Below.refl _ _)) (unhide HS))
  replace HB := hide ((unhide HB).trans hb78)
  replace HZ := hide ((unhide HZ).but hb78 hrne)
  replace HS := hide (Nat.lt_of_lt_of_le (unhide HS) hb78.size)
  replace HR := hide hR78
  clear hb78 hR78 hv78 HC78 HX78
  obtain ⟨B80, eB80, hbB80, hsB80, hhB80⟩ := box_new w78 #[.int .i64 i78, .string s78, .string m78, .bool b78, .slice a78 n78 c78, .int .i64 0, .int .i64 j78] 51
  have ne80 : r ≠ w78.heap.size := by have := unhide HS; omega
  have hbu81 := But.of (r := r) hbB80
  replace HR := hide ((unhide HR).keep hbB80)
  replace HB := hide ((unhide HB).trans hbu81)
  replace HZ := hide ((unhide HZ).but hbu81 hrne)
  replace HT78 := hide ((unhide HT78).keep (Stays.but hbu81 (Nat.lt_succ_of_lt hr)) (Nat.le_refl _))
  replace HS := hide (Nat.lt_of_lt_of_le (unhide HS) hbu81.size)
  have HX80 := hide hhB80
  have HEB80 := hide eB80
  have HSB80 := hide hsB80
  clear eB80 hbB80 hhB80 hsB80
  have HC82 := hide (dt_any (unhide HR) (unhide HT))
  unfold tkV at HC82
  obtain ⟨⟨kk82, T82, at82⟩, hN82⟩ : ∃ X, tD ts (S78) = X := ⟨_, rfl⟩
  rw [hN82] at HC82
  have HN82 := hide hN82
  have hf282 := fld2 (.int .i64 kk82) (.string T82) (.int .i64 at82)
  clear hN82
  go_wp2_with fail
  rw [unhide HEB80]
  refine (unhide HC82).mono ?_
  rintro e w82 ⟨rfl, hb82⟩
  have hY83 := unhide HY
  simp only [unhide HN82] at hY83
  replace HY := hide hY83
  clear hY83
  have hbu84 := But.of (r := r) hb82
  replace HR := hide ((unhide HR).keep hb82)
  replace HB := hide ((unhide HB).trans hbu84)
  replace HZ := hide ((unhide HZ).but hbu84 hrne)
  replace HX80 := hide ((hbu84.block _ (blk (unhide HX80)).1 (Ne.symm ne80)).trans (unhide HX80))
  replace HT78 := hide ((unhide HT78).keep (Stays.but hbu84 (Nat.lt_succ_of_lt hr)) (Nat.le_refl _))
  replace HS := hide (Nat.lt_of_lt_of_le (unhide HS) hbu84.size)
  clear hb82 HC82
  have HC85 := hide (eat_any (unhide HR) (unhide HT) ⟨#[59]⟩)
  obtain ⟨bo85, hbo85⟩ : ∃ b, isD ts ⟨#[59]⟩ (S78) = b := ⟨_, rfl⟩
  unfold eatD at HC85
  rw [hbo85] at HC85
  have HO85 := hide hbo85
  clear hbo85
  go_wp2_with fail
  refine (unhide HC85).mono ?_
  rintro e w85 ⟨rfl, hb85, hR85⟩
  replace HB := hide ((unhide HB).trans hb85)
  replace HZ := hide ((unhide HZ).but hb85 hrne)
  replace HX80 := hide ((hb85.block _ (blk (unhide HX80)).1 (Ne.symm ne80)).trans (unhide HX80))
  replace HT78 := hide ((unhide HT78).keep (Stays.but hb85 (Nat.lt_succ_of_lt hr)) (Nat.le_refl _))
  replace HS := hide (Nat.lt_of_lt_of_le (unhide HS) hb85.size)
  replace HR := hide hR85
  have hY86 := unhide HY
  simp only [unhide HO85] at hY86
  replace HY := hide hY86
  clear hY86
  clear hb85 HC85 hR85
  rcases bo85 with _ | _
  rotate_left
  · have hY87 := unhide HY
    simp only [if_true] at hY87
    replace HY := hide hY87
    clear hY87
    have hRR := unhide HR
    rw [if_pos rfl] at hRR
    obtain ⟨S88, hS88⟩ : ∃ S, stepD ts (S78) = S := ⟨_, rfl⟩
    rw [hS88] at hRR
    replace HR := hide hRR
    have HSt88 := hide hS88
    have hY89 := unhide HY
    simp only [unhide HSt88] at hY89
    replace HY := hide hY89
    clear hY89
    clear hRR hS88
    have HC90 := hide (unhide hE w85 (S88) (unhide HR))
    obtain ⟨⟨t90, S90⟩, hX90⟩ : ∃ X, g .rE (S88) = X := ⟨_, rfl⟩
    rw [hX90] at HC90
    have HX90 := hide hX90
    clear hX90
    go_wp2_with fail
    refine (unhide HC90).mono ?_
    rintro e w90 ⟨hb90, hR90, v90, rfl, hv90⟩
    have hY91 := unhide HY
    simp only [unhide HX90] at hY91
    replace HY := hide hY91
    clear hY91
    obtain ⟨i90, j90, s90, m90, b90, a90, n90, c90, rfl⟩ := hv90.form
    have HT90 := hide (hv90.keep (lo' := w.heap.size + 1) (Stays.of (Below.refl _ _)) (unhide HS))
    replace HB := hide ((unhide HB).trans hb90)
    replace HZ := hide ((unhide HZ).but hb90 hrne)
    replace HX80 := hide ((hb90.block _ (blk (unhide HX80)).1 (Ne.symm ne80)).trans (unhide HX80))
    replace HT78 := hide ((unhide HT78).keep (Stays.but hb90 (Nat.lt_succ_of_lt hr)) (Nat.le_refl _))
    replace HS := hide (Nat.lt_of_lt_of_le (unhide HS) hb90.size)
    replace HR := hide hR90
    clear hb90 hR90 hv90 HC90 HX90
    obtain ⟨B92, eB92, hbB92, hsB92, hhB92⟩ := box_new w90 #[.int .i64 i90, .string s90, .string m90, .bool b90, .slice a90 n90 c90, .int .i64 0, .int .i64 j90] 51
    have ne92 : r ≠ w90.heap.size := by have := unhide HS; omega
    have hbu93 := But.of (r := r) hbB92
    replace HR := hide ((unhide HR).keep hbB92)
    replace HB := hide ((unhide HB).trans hbu93)
    replace HZ := hide ((unhide HZ).but hbu93 hrne)
    replace HX80 := hide ((hbu93.block _ (blk (unhide HX80)).1 (Ne.symm ne80)).trans (unhide HX80))
    replace HT78 := hide ((unhide HT78).keep (Stays.but hbu93 (Nat.lt_succ_of_lt hr)) (Nat.le_refl _))
    replace HT90 := hide ((unhide HT90).keep (Stays.but hbu93 (Nat.lt_succ_of_lt hr)) (Nat.le_refl _))
    replace HS := hide (Nat.lt_of_lt_of_le (unhide HS) hbu93.size)
    have HX92 := hide hhB92
    have HEB92 := hide eB92
    have HSB92 := hide hsB92
    clear eB92 hbB92 hhB92 hsB92
    obtain ⟨y080, y180, y280, y380, y480, y580, y680⟩ := blk7 (unhide HX80)
    obtain ⟨y092, y192, y292, y392, y492, y592, y692⟩ := blk7 (unhide HX92)
    rw [← unhide HEB92] at y080 y180 y280 y380 y480 y580 y680 y092 y192 y292 y392 y492 y592 y692
    obtain ⟨C94, eC94, hbC94, hsC94, hhC94⟩ := box_new B92 #[.int .i64 i78, .string s78, .string m78, .bool b78, .slice a78 n78 c78, .int .i64 0, .int .i64 j78, .int .i64 i90, .string s90, .string m90, .bool b90, .slice a90 n90 c90, .int .i64 0, .int .i64 j90] 51
    have hnode := node (l := [t78, t90]) (vs := [[.int .i64 i78, .string s78, .string m78, .bool b78, .slice a78 n78 c78, .int .i64 0, .int .i64 j78], [.int .i64 i90, .string s90, .string m90, .bool b90, .slice a90 n90 c90, .int .i64 0, .int .i64 j90]]) 24 at82 ⟨#[]⟩ ⟨#[]⟩ false eC94 rfl (by simp) rfl (by simp) (unhide HS) (fun j v t hv ht => by
      rcases j with _ | _ | j
      · obtain rfl := Option.some.inj hv
        obtain rfl := Option.some.inj ht
        exact unhide HT78
      · obtain rfl := Option.some.inj hv
        obtain rfl := Option.some.inj ht
        exact unhide HT90
      · simp at hv)
    rw [unhide HSB92] at hnode
    have hbu95 := But.of (r := r) hbC94
    replace HR := hide ((unhide HR).keep hbC94)
    replace HB := hide ((unhide HB).trans hbu95)
    replace HZ := hide ((unhide HZ).but hbu95 hrne)
    replace HX80 := hide ((hbu95.block _ (blk (unhide HX80)).1 (Ne.symm ne80)).trans (unhide HX80))
    replace HX92 := hide ((hbu95.block _ (blk (unhide HX92)).1 (Ne.symm ne92)).trans (unhide HX92))
    replace HS := hide (Nat.lt_of_lt_of_le (unhide HS) hbu95.size)
    obtain ⟨y0, y1, y2, y3, y4, y5, y6⟩ := blk7 (unhide HZ)
    obtain ⟨z0, z1, z2, z3, z4, z5, z6⟩ := frz7 (unhide HZ)
    rw [← eC94, ← unhide HEB92] at y0 y1 y2 y3 y4 y5 y6 z0 z1 z2 z3 z4 z5 z6
    have HNode := hide hnode
    have HEC := hide eC94
    clear hnode eC94 hbC94 hsC94 hhC94
    go_wp2
    rw [unhide HEB92, unhide HEC]
    rw [← unhide HQQ]
    exact dret_put rfl rfl rfl (unhide HB) hr (unhide HZ) (unhide HY).symm (unhide HR) (Nat.lt_succ_self _) (unhide HNode)
  have hY96 := unhide HY
  simp only [Bool.false_eq_true, if_false] at hY96
  replace HY := hide hY96
  clear hY96
  have hRR := unhide HR
  rw [if_neg Bool.false_ne_true] at hRR
  replace HR := hide hRR
  clear hRR
  obtain ⟨y080, y180, y280, y380, y480, y580, y680⟩ := blk7 (unhide HX80)
  obtain ⟨y0, y1, y2, y3, y4, y5, y6⟩ := blk7 (unhide HZ)
  obtain ⟨z0, z1, z2, z3, z4, z5, z6⟩ := frz7 (unhide HZ)
  have HNode := hide (unhide HT78)
  go_wp2
  rw [← unhide HQQ]
  exact dret_put rfl rfl rfl (unhide HB) hr (unhide HZ) (unhide HY).symm (unhide HR) (Nat.lt_succ_self _) (unhide HNode)
end Go.Proofs.YtljhpbjngbbjbaaDoor
