/- The document's parser: part. -/
import Derived.Test.YtljhpbjngbbjbaaDoorZAJ
set_option linter.unusedVariables false
set_option linter.unusedSimpArgs false

namespace Go.Proofs.YtljhpbjngbbjbaaDoor
open Go Go.RowKit
set_option maxRecDepth 100000 in
set_option maxHeartbeats 8000000 in
theorem dpart_of {r d : Nat} {ts : List (Int × ByteArray × Int)} {g : Ru → PS → Ex × PS} (hT : TsOk ts) (hI : DcC 78 r ts d (impD ts g)) : DcC 69 r ts d (partD ts g) := by
  intro w st hR
  obtain ⟨Y, hY⟩ : ∃ Y, partD ts g st = Y := ⟨_, rfl⟩
  show Calls _ _ _ _ (DE (partD ts g st) r ts d w)
  rw [hY]
  unfold partD at hY
  have hr := hR.rlt
  obtain ⟨A, eA, hbA, hzA, hsA⟩ := zb_new w
  have HB := hide (But.of (r := r) hbA)
  have HR := hide (hR.keep hbA)
  have HZ := hide hzA
  have HS : Hid (w.heap.size < A.heap.size) := by show _ < _; omega
  have HE := hide eA
  have HT := hide hT
  have HY := hide hY
  have hrne : r ≠ w.heap.size := by omega
  replace hI := hide hI
  clear hR hbA hzA hsA eA hT hY
  go_enter Tryd.func69, Tryd.ntmps69
  generalize hQQ : bodyPost Tryd.prog Tryd.f69 (DE Y r ts d w) = QQ
  have HQQ := hide hQQ
  clear hQQ
  have HC0 := hide (dt_any (unhide HR) (unhide HT))
  unfold tkV at HC0
  obtain ⟨⟨kk0, T0, at0⟩, hN0⟩ : ∃ X, tD ts (st) = X := ⟨_, rfl⟩
  rw [hN0] at HC0
  have HN0 := hide hN0
  have hf20 := fld2 (.int .i64 kk0) (.string T0) (.int .i64 at0)
  clear hN0
  go_wp2_with fail
  rw [unhide HE]
  refine (unhide HC0).mono ?_
  rintro e w0 ⟨rfl, hb0⟩
  have hY1 := unhide HY
  simp only [unhide HN0] at hY1
  replace HY := hide hY1
  clear hY1
  have hbu2 := But.of (r := r) hb0
  replace HR := hide ((unhide HR).keep hb0)
  replace HB := hide ((unhide HB).trans hbu2)
  replace HZ := hide ((unhide HZ).but hbu2 hrne)
  replace HS := hide (Nat.lt_of_lt_of_le (unhide HS) hbu2.size)
  clear hb0 HC0
  obtain ⟨B3, eB3, hbB3, hsB3, hhB3⟩ := box_new w0 #[.int .i64 kk0, .string T0, .int .i64 at0] 87
  have ne3 : r ≠ w0.heap.size := by have := unhide HS; omega
  have hbu4 := But.of (r := r) hbB3
  replace HR := hide ((unhide HR).keep hbB3)
  replace HB := hide ((unhide HB).trans hbu4)
  replace HZ := hide ((unhide HZ).but hbu4 hrne)
  replace HS := hide (Nat.lt_of_lt_of_le (unhide HS) hbu4.size)
  have HX3 := hide hhB3
  have HEB3 := hide eB3
  have HSB3 := hide hsB3
  clear eB3 hbB3 hhB3 hsB3
  have u03 := (blk (unhide HX3)).2.1 0 _ rfl
  have u13 := (blk (unhide HX3)).2.1 1 _ rfl
  have u23 := (blk (unhide HX3)).2.1 2 _ rfl
  rw [← unhide HEB3] at u03 u13 u23
  obtain ⟨gg5, gc5, x05, x15, x25, x35, x45, hc5, hl5, hf5, ht5⟩ := (unhide HR).facts (Below.refl _ _)
  rw [← unhide HEB3] at x25 hl5
  clear hc5 hf5 ht5 x05 x15 x35 x45
  obtain ⟨er, her⟩ : ∃ er, st.e = er := ⟨_, rfl⟩
  by_cases he : st.e = 0
  · rw [he] at x25
    by_cases hk1 : kk0 = 1
    · have kk1 := hk1
      subst hk1
      have HC8 := hide (dnext_any (unhide HR) (unhide HT))
      unfold tkV at HC8
      obtain ⟨⟨kk8, T8, at8⟩, hN8⟩ : ∃ X, nx ts ((st).i + 1) = X := ⟨_, rfl⟩
      rw [hN8] at HC8
      have HN8 := hide hN8
      have hf08 := fld0 (.int .i64 kk8) (.string T8) (.int .i64 at8)
      have hf18 := fld1 (.int .i64 kk8) (.string T8) (.int .i64 at8)
      clear hN8
      go_wp2_with fail
      rw [unhide HEB3]
      refine (unhide HC8).mono ?_
      rintro e w8 ⟨rfl, hb8⟩
      have hbu9 := But.of (r := r) hb8
      replace HR := hide ((unhide HR).keep hb8)
      replace HB := hide ((unhide HB).trans hbu9)
      replace HZ := hide ((unhide HZ).but hbu9 hrne)
      replace HX3 := hide ((hbu9.block _ (blk (unhide HX3)).1 (Ne.symm ne3)).trans (unhide HX3))
      replace HS := hide (Nat.lt_of_lt_of_le (unhide HS) hbu9.size)
      clear hb8 HC8
      by_cases hk4 : kk8 = 4
      · subst hk4
        have HC11 := hide (dnext_any (unhide HR) (unhide HT))
        unfold tkV at HC11
        obtain ⟨⟨kk11, T11, at11⟩, hN11⟩ : ∃ X, nx ts ((st).i + 1) = X := ⟨_, rfl⟩
        rw [hN11] at HC11
        have HN11 := hide hN11
        have hf011 := fld0 (.int .i64 kk11) (.string T11) (.int .i64 at11)
        have hf111 := fld1 (.int .i64 kk11) (.string T11) (.int .i64 at11)
        clear hN11
        go_wp2_with fail
        refine (unhide HC11).mono ?_
        rintro e w11 ⟨rfl, hb11⟩
        have hbu12 := But.of (r := r) hb11
        replace HR := hide ((unhide HR).keep hb11)
        replace HB := hide ((unhide HB).trans hbu12)
        replace HZ := hide ((unhide HZ).but hbu12 hrne)
        replace HX3 := hide ((hbu12.block _ (blk (unhide HX3)).1 (Ne.symm ne3)).trans (unhide HX3))
        replace HS := hide (Nat.lt_of_lt_of_le (unhide HS) hbu12.size)
        clear hb11 HC11
        obtain ⟨rfl, rfl, rfl⟩ : 4 = kk11 ∧ T8 = T11 ∧ at8 = at11 := by have h1 := unhide HN8; have h2 := unhide HN11; rw [h1] at h2; simp only [Prod.mk.injEq] at h2; exact ⟨h2.1, h2.2.1, h2.2.2⟩
        by_cases hT4 : T8 = ⟨#[58, 61]⟩
        · have eT : (T8.toList == [58, 61]) = true := (eqb T8 ⟨#[58, 61]⟩ [58, 61] rfl).mp hT4
          have hYn := unhide HY
          rw [if_pos (by rw [unhide HN8]; exact ⟨he, (by first | rfl | trivial), (by first | rfl | trivial), hT4⟩)] at hYn
          replace HY := hide hYn
          clear hYn hT4
          obtain ⟨S14, hS14⟩ : ∃ S, stepD ts (st) = S := ⟨_, rfl⟩
          have HC14 := hide (step_any (unhide HR) (unhide HT))
          rw [hS14] at HC14
          have HS14 := hide hS14
          clear hS14
          go_wp2_with fail
          refine (unhide HC14).mono ?_
          rintro e w14 ⟨rfl, hb14, hR14⟩
          have hY15 := unhide HY
          simp only [unhide HS14] at hY15
          replace HY := hide hY15
          clear hY15
          replace HB := hide ((unhide HB).trans hb14)
          replace HZ := hide ((unhide HZ).but hb14 hrne)
          replace HX3 := hide ((hb14.block _ (blk (unhide HX3)).1 (Ne.symm ne3)).trans (unhide HX3))
          replace HS := hide (Nat.lt_of_lt_of_le (unhide HS) hb14.size)
          replace HR := hide hR14
          clear hb14 hR14 HC14 HS14
          obtain ⟨S16, hS16⟩ : ∃ S, stepD ts (S14) = S := ⟨_, rfl⟩
          have HC16 := hide (step_any (unhide HR) (unhide HT))
          rw [hS16] at HC16
          have HS16 := hide hS16
          clear hS16
          go_wp2_with fail
          refine (unhide HC16).mono ?_
          rintro e w16 ⟨rfl, hb16, hR16⟩
          have hY17 := unhide HY
          simp only [unhide HS16] at hY17
          replace HY := hide hY17
          clear hY17
          replace HB := hide ((unhide HB).trans hb16)
          replace HZ := hide ((unhide HZ).but hb16 hrne)
          replace HX3 := hide ((hb16.block _ (blk (unhide HX3)).1 (Ne.symm ne3)).trans (unhide HX3))
          replace HS := hide (Nat.lt_of_lt_of_le (unhide HS) hb16.size)
          replace HR := hide hR16
          clear hb16 hR16 HC16 HS16
          have HC18 := hide (unhide hI w16 (S16) (unhide HR))
          obtain ⟨⟨t18, S18⟩, hX18⟩ : ∃ X, impD ts g (S16) = X := ⟨_, rfl⟩
          rw [hX18] at HC18
          have HX18 := hide hX18
          clear hX18
          go_wp2_with fail
          refine (unhide HC18).mono ?_
          rintro e w18 ⟨hb18, hR18, v18, rfl, hv18⟩
          have hY19 := unhide HY
          simp only [unhide HX18] at hY19
          replace HY := hide hY19
          clear hY19
          obtain ⟨i18, j18, s18, m18, b18, a18, n18, c18, rfl⟩ := hv18.form
          have HT18 := hide (hv18.keep (lo' := w.heap.size + 1) (Stays.of (Below.refl _ _)) (unhide HS))
          replace HB := hide ((unhide HB).trans hb18)
          replace HZ := hide ((unhide HZ).but hb18 hrne)
          replace HX3 := hide ((hb18.block _ (blk (unhide HX3)).1 (Ne.symm ne3)).trans (unhide HX3))
          replace HS := hide (Nat.lt_of_lt_of_le (unhide HS) hb18.size)
          replace HR := hide hR18
          clear hb18 hR18 hv18 HC18 HX18
          obtain ⟨B20, eB20, hbB20, hsB20, hhB20⟩ := box_new w18 #[.int .i64 i18, .string s18, .string m18, .bool b18, .slice a18 n18 c18, .int .i64 0, .int .i64 j18] 51
          have ne20 : r ≠ w18.heap.size := by have := unhide HS; omega
          have hbu21 := But.of (r := r) hbB20
          replace HR := hide ((unhide HR).keep hbB20)
          replace HB := hide ((unhide HB).trans hbu21)
          replace HZ := hide ((unhide HZ).but hbu21 hrne)
          replace HX3 := hide ((hbu21.block _ (blk (unhide HX3)).1 (Ne.symm ne3)).trans (unhide HX3))
          replace HT18 := hide ((unhide HT18).keep (Stays.but hbu21 (Nat.lt_succ_of_lt hr)) (Nat.le_refl _))
          replace HS := hide (Nat.lt_of_lt_of_le (unhide HS) hbu21.size)
          have HX20 := hide hhB20
          have HEB20 := hide eB20
          have HSB20 := hide hsB20
          clear eB20 hbB20 hhB20 hsB20
          obtain ⟨y020, y120, y220, y320, y420, y520, y620⟩ := blk7 (unhide HX20)
          have u03 := (blk (unhide HX3)).2.1 0 _ rfl
          have u13 := (blk (unhide HX3)).2.1 1 _ rfl
          have u23 := (blk (unhide HX3)).2.1 2 _ rfl
          rw [← unhide HEB20] at y020 y120 y220 y320 y420 y520 y620 u03 u13 u23
          obtain ⟨C22, eC22, hbC22, hsC22, hhC22⟩ := box_new B20 #[.int .i64 i18, .string s18, .string m18, .bool b18, .slice a18 n18 c18, .int .i64 0, .int .i64 j18] 51
          have hnode := node (l := [t18]) (vs := [[.int .i64 i18, .string s18, .string m18, .bool b18, .slice a18 n18 c18, .int .i64 0, .int .i64 j18]]) 25 at0 T0 ⟨#[]⟩ false eC22 rfl (by simp) rfl (by simp) (unhide HS) (fun j v t hv ht => by
            rcases j with _ | j
            · obtain rfl := Option.some.inj hv
              obtain rfl := Option.some.inj ht
              exact unhide HT18
            · simp at hv)
          rw [unhide HSB20] at hnode
          have hbu23 := But.of (r := r) hbC22
          replace HR := hide ((unhide HR).keep hbC22)
          replace HB := hide ((unhide HB).trans hbu23)
          replace HZ := hide ((unhide HZ).but hbu23 hrne)
          replace HX3 := hide ((hbu23.block _ (blk (unhide HX3)).1 (Ne.symm ne3)).trans (unhide HX3))
          replace HX20 := hide ((hbu23.block _ (blk (unhide HX20)).1 (Ne.symm ne20)).trans (unhide HX20))
          replace HS := hide (Nat.lt_of_lt_of_le (unhide HS) hbu23.size)
          obtain ⟨y0, y1, y2, y3, y4, y5, y6⟩ := blk7 (unhide HZ)
          obtain ⟨z0, z1, z2, z3, z4, z5, z6⟩ := frz7 (unhide HZ)
          have uc03 := (blk (unhide HX3)).2.1 0 _ rfl
          have uc13 := (blk (unhide HX3)).2.1 1 _ rfl
          have uc23 := (blk (unhide HX3)).2.1 2 _ rfl
          rw [← eC22, ← unhide HEB20] at y0 y1 y2 y3 y4 y5 y6 z0 z1 z2 z3 z4 z5 z6 uc03 uc13 uc23
          have HNode := hide hnode
          have HEC := hide eC22
          clear hnode eC22 hbC22 hsC22 hhC22
          go_wp2
          rw [unhide HEB20, unhide HEC]
          rw [← unhide HQQ]
          exact dret_put rfl rfl rfl (unhide HB) hr (unhide HZ) (unhide HY).symm (unhide HR) (Nat.lt_succ_self _) (unhide HNode)
        · have eT : (T8.toList == [58, 61]) = false := Bool.eq_false_iff.mpr (fun hq => hT4 ((eqb T8 ⟨#[58, 61]⟩ [58, 61] rfl).mpr hq))
          have hYn := unhide HY
          rw [if_neg (fun h => hT4 (by have h1 := h.2.2.2; rw [unhide HN8] at h1; exact h1))] at hYn
          replace HY := hide hYn
          clear hYn
          have HC24 := hide (eat_any (unhide HR) (unhide HT) ⟨#[114, 97, 105, 115, 101]⟩)
          obtain ⟨bo24, hbo24⟩ : ∃ b, isD ts ⟨#[114, 97, 105, 115, 101]⟩ (st) = b := ⟨_, rfl⟩
          unfold eatD at HC24
          rw [hbo24] at HC24
          have HO24 := hide hbo24
          clear hbo24
          go_wp2_with fail
          refine (unhide HC24).mono ?_
          rintro e w24 ⟨rfl, hb24, hR24⟩
          replace HB := hide ((unhide HB).trans hb24)
          replace HZ := hide ((unhide HZ).but hb24 hrne)
          replace HX3 := hide ((hb24.block _ (blk (unhide HX3)).1 (Ne.symm ne3)).trans (unhide HX3))
          replace HS := hide (Nat.lt_of_lt_of_le (unhide HS) hb24.size)
          replace HR := hide hR24
          have hY25 := unhide HY
          simp only [unhide HO24] at hY25
          replace HY := hide hY25
          clear hY25
          clear hb24 HC24 hR24
          rcases bo24 with _ | _
          rotate_left
          · have hY26 := unhide HY
            simp only [if_true] at hY26
            replace HY := hide hY26
            clear hY26
            have hRR := unhide HR
            rw [if_pos rfl] at hRR
            obtain ⟨S27, hS27⟩ : ∃ S, stepD ts (st) = S := ⟨_, rfl⟩
            rw [hS27] at hRR
            replace HR := hide hRR
            have HSt27 := hide hS27
            have hY28 := unhide HY
            simp only [unhide HSt27] at hY28
            replace HY := hide hY28
            clear hY28
            clear hRR hS27
            have HC29 := hide (unhide hI w24 (S27) (unhide HR))
            obtain ⟨⟨t29, S29⟩, hX29⟩ : ∃ X, impD ts g (S27) = X := ⟨_, rfl⟩
            rw [hX29] at HC29
            have HX29 := hide hX29
            clear hX29
            go_wp2_with fail
            refine (unhide HC29).mono ?_
            rintro e w29 ⟨hb29, hR29, v29, rfl, hv29⟩
            have hY30 := unhide HY
            simp only [unhide HX29] at hY30
            replace HY := hide hY30
            clear hY30
            obtain ⟨i29, j29, s29, m29, b29, a29, n29, c29, rfl⟩ := hv29.form
            have HT29 := hide (hv29.keep (lo' := w.heap.size + 1) (Stays.of (Below.refl _ _)) (unhide HS))
            replace HB := hide ((unhide HB).trans hb29)
            replace HZ := hide ((unhide HZ).but hb29 hrne)
            replace HX3 := hide ((hb29.block _ (blk (unhide HX3)).1 (Ne.symm ne3)).trans (unhide HX3))
            replace HS := hide (Nat.lt_of_lt_of_le (unhide HS) hb29.size)
            replace HR := hide hR29
            clear hb29 hR29 hv29 HC29 HX29
            obtain ⟨B31, eB31, hbB31, hsB31, hhB31⟩ := box_new w29 #[.int .i64 i29, .string s29, .string m29, .bool b29, .slice a29 n29 c29, .int .i64 0, .int .i64 j29] 51
            have ne31 : r ≠ w29.heap.size := by have := unhide HS; omega
            have hbu32 := But.of (r := r) hbB31
            replace HR := hide ((unhide HR).keep hbB31)
            replace HB := hide ((unhide HB).trans hbu32)
            replace HZ := hide ((unhide HZ).but hbu32 hrne)
            replace HX3 := hide ((hbu32.block _ (blk (unhide HX3)).1 (Ne.symm ne3)).trans (unhide HX3))
            replace HT29 := hide ((unhide HT29).keep (Stays.but hbu32 (Nat.lt_succ_of_lt hr)) (Nat.le_refl _))
            replace HS := hide (Nat.lt_of_lt_of_le (unhide HS) hbu32.size)
            have HX31 := hide hhB31
            have HEB31 := hide eB31
            have HSB31 := hide hsB31
            clear eB31 hbB31 hhB31 hsB31
            obtain ⟨y031, y131, y231, y331, y431, y531, y631⟩ := blk7 (unhide HX31)
            have u03 := (blk (unhide HX3)).2.1 0 _ rfl
            have u13 := (blk (unhide HX3)).2.1 1 _ rfl
            have u23 := (blk (unhide HX3)).2.1 2 _ rfl
            rw [← unhide HEB31] at y031 y131 y231 y331 y431 y531 y631 u03 u13 u23
            obtain ⟨C33, eC33, hbC33, hsC33, hhC33⟩ := box_new B31 #[.int .i64 i29, .string s29, .string m29, .bool b29, .slice a29 n29 c29, .int .i64 0, .int .i64 j29] 51
            have hnode := node (l := [t29]) (vs := [[.int .i64 i29, .string s29, .string m29, .bool b29, .slice a29 n29 c29, .int .i64 0, .int .i64 j29]]) 26 at0 ⟨#[]⟩ ⟨#[]⟩ false eC33 rfl (by simp) rfl (by simp) (unhide HS) (fun j v t hv ht => by
              rcases j with _ | j
              · obtain rfl := Option.some.inj hv
                obtain rfl := Option.some.inj ht
                exact unhide HT29
              · simp at hv)
            rw [unhide HSB31] at hnode
            have hbu34 := But.of (r := r) hbC33
            replace HR := hide ((unhide HR).keep hbC33)
            replace HB := hide ((unhide HB).trans hbu34)
            replace HZ := hide ((unhide HZ).but hbu34 hrne)
            replace HX3 := hide ((hbu34.block _ (blk (unhide HX3)).1 (Ne.symm ne3)).trans (unhide HX3))
            replace HX31 := hide ((hbu34.block _ (blk (unhide HX31)).1 (Ne.symm ne31)).trans (unhide HX31))
            replace HS := hide (Nat.lt_of_lt_of_le (unhide HS) hbu34.size)
            obtain ⟨y0, y1, y2, y3, y4, y5, y6⟩ := blk7 (unhide HZ)
            obtain ⟨z0, z1, z2, z3, z4, z5, z6⟩ := frz7 (unhide HZ)
            have uc03 := (blk (unhide HX3)).2.1 0 _ rfl
            have uc13 := (blk (unhide HX3)).2.1 1 _ rfl
            have uc23 := (blk (unhide HX3)).2.1 2 _ rfl
            rw [← eC33, ← unhide HEB31] at y0 y1 y2 y3 y4 y5 y6 z0 z1 z2 z3 z4 z5 z6 uc03 uc13 uc23
            have HNode := hide hnode
            have HEC := hide eC33
            clear hnode eC33 hbC33 hsC33 hhC33
            go_wp2
            rw [unhide HEB31, unhide HEC]
            rw [← unhide HQQ]
            exact dret_put rfl rfl rfl (unhide HB) hr (unhide HZ) (unhide HY).symm (unhide HR) (Nat.lt_succ_self _) (unhide HNode)
          have hY35 := unhide HY
          simp only [Bool.false_eq_true, if_false] at hY35
          replace HY := hide hY35
          clear hY35
          have hRR := unhide HR
          rw [if_neg Bool.false_ne_true] at hRR
          replace HR := hide hRR
          clear hRR
          have HC36 := hide (eat_any (unhide HR) (unhide HT) ⟨#[97, 115, 115, 101, 114, 116]⟩)
          obtain ⟨bo36, hbo36⟩ : ∃ b, isD ts ⟨#[97, 115, 115, 101, 114, 116]⟩ (st) = b := ⟨_, rfl⟩
          unfold eatD at HC36
          rw [hbo36] at HC36
          have HO36 := hide hbo36
          clear hbo36
          go_wp2_with fail
          refine (unhide HC36).mono ?_
          rintro e w36 ⟨rfl, hb36, hR36⟩
          replace HB := hide ((unhide HB).trans hb36)
          replace HZ := hide ((unhide HZ).but hb36 hrne)
          replace HX3 := hide ((hb36.block _ (blk (unhide HX3)).1 (Ne.symm ne3)).trans (unhide HX3))
          replace HS := hide (Nat.lt_of_lt_of_le (unhide HS) hb36.size)
          replace HR := hide hR36
          have hY37 := unhide HY
          simp only [unhide HO36] at hY37
          replace HY := hide hY37
          clear hY37
          clear hb36 HC36 hR36
          rcases bo36 with _ | _
          rotate_left
          · have hY38 := unhide HY
            simp only [if_true] at hY38
            replace HY := hide hY38
            clear hY38
            have hRR := unhide HR
            rw [if_pos rfl] at hRR
            obtain ⟨S39, hS39⟩ : ∃ S, stepD ts (st) = S := ⟨_, rfl⟩
            rw [hS39] at hRR
            replace HR := hide hRR
            have HSt39 := hide hS39
            have hY40 := unhide HY
            simp only [unhide HSt39] at hY40
            replace HY := hide hY40
            clear hY40
            clear hRR hS39
            have HC41 := hide (unhide hI w36 (S39) (unhide HR))
            obtain ⟨⟨t41, S41⟩, hX41⟩ : ∃ X, impD ts g (S39) = X := ⟨_, rfl⟩
            rw [hX41] at HC41
            have HX41 := hide hX41
            clear hX41
            go_wp2_with fail
            refine (unhide HC41).mono ?_
            rintro e w41 ⟨hb41, hR41, v41, rfl, hv41⟩
            have hY42 := unhide HY
            simp only [unhide HX41] at hY42
            replace HY := hide hY42
            clear hY42
            obtain ⟨i41, j41, s41, m41, b41, a41, n41, c41, rfl⟩ := hv41.form
            have HT41 := hide (hv41.keep (lo' := w.heap.size + 1) (Stays.of (Below.refl _ _)) (unhide HS))
            replace HB := hide ((unhide HB).trans hb41)
            replace HZ := hide ((unhide HZ).but hb41 hrne)
            replace HX3 := hide ((hb41.block _ (blk (unhide HX3)).1 (Ne.symm ne3)).trans (unhide HX3))
            replace HS := hide (Nat.lt_of_lt_of_le (unhide HS) hb41.size)
            replace HR := hide hR41
            clear hb41 hR41 hv41 HC41 HX41
            obtain ⟨B43, eB43, hbB43, hsB43, hhB43⟩ := box_new w41 #[.int .i64 i41, .string s41, .string m41, .bool b41, .slice a41 n41 c41, .int .i64 0, .int .i64 j41] 51
            have ne43 : r ≠ w41.heap.size := by have := unhide HS; omega
            have hbu44 := But.of (r := r) hbB43
            replace HR := hide ((unhide HR).keep hbB43)
            replace HB := hide ((unhide HB).trans hbu44)
            replace HZ := hide ((unhide HZ).but hbu44 hrne)
            replace HX3 := hide ((hbu44.block _ (blk (unhide HX3)).1 (Ne.symm ne3)).trans (unhide HX3))
            replace HT41 := hide ((unhide HT41).keep (Stays.but hbu44 (Nat.lt_succ_of_lt hr)) (Nat.le_refl _))
            replace HS := hide (Nat.lt_of_lt_of_le (unhide HS) hbu44.size)
            have HX43 := hide hhB43
            have HEB43 := hide eB43
            have HSB43 := hide hsB43
            clear eB43 hbB43 hhB43 hsB43
            obtain ⟨y043, y143, y243, y343, y443, y543, y643⟩ := blk7 (unhide HX43)
            have u03 := (blk (unhide HX3)).2.1 0 _ rfl
            have u13 := (blk (unhide HX3)).2.1 1 _ rfl
            have u23 := (blk (unhide HX3)).2.1 2 _ rfl
            rw [← unhide HEB43] at y043 y143 y243 y343 y443 y543 y643 u03 u13 u23
            obtain ⟨C45, eC45, hbC45, hsC45, hhC45⟩ := box_new B43 #[.int .i64 i41, .string s41, .string m41, .bool b41, .slice a41 n41 c41, .int .i64 0, .int .i64 j41] 51
            have hnode := node (l := [t41]) (vs := [[.int .i64 i41, .string s41, .string m41, .bool b41, .slice a41 n41 c41, .int .i64 0, .int .i64 j41]]) 28 at0 ⟨#[]⟩ ⟨#[]⟩ false eC45 rfl (by simp) rfl (by simp) (unhide HS) (fun j v t hv ht => by
              rcases j with _ | j
              · obtain rfl := Option.some.inj hv
                obtain rfl := Option.some.inj ht
                exact unhide HT41
              · simp at hv)
            rw [unhide HSB43] at hnode
            have hbu46 := But.of (r := r) hbC45
            replace HR := hide ((unhide HR).keep hbC45)
            replace HB := hide ((unhide HB).trans hbu46)
            replace HZ := hide ((unhide HZ).but hbu46 hrne)
            replace HX3 := hide ((hbu46.block _ (blk (unhide HX3)).1 (Ne.symm ne3)).trans (unhide HX3))
            replace HX43 := hide ((hbu46.block _ (blk (unhide HX43)).1 (Ne.symm ne43)).trans (unhide HX43))
            replace HS := hide (Nat.lt_of_lt_of_le (unhide HS) hbu46.size)
            obtain ⟨y0, y1, y2, y3, y4, y5, y6⟩ := blk7 (unhide HZ)
            obtain ⟨z0, z1, z2, z3, z4, z5, z6⟩ := frz7 (unhide HZ)
            have uc03 := (blk (unhide HX3)).2.1 0 _ rfl
            have uc13 := (blk (unhide HX3)).2.1 1 _ rfl
            have uc23 := (blk (unhide HX3)).2.1 2 _ rfl
            rw [← eC45, ← unhide HEB43] at y0 y1 y2 y3 y4 y5 y6 z0 z1 z2 z3 z4 z5 z6 uc03 uc13 uc23
            have HNode := hide hnode
            have HEC := hide eC45
            clear hnode eC45 hbC45 hsC45 hhC45
            go_wp2
            rw [unhide HEB43, unhide HEC]
            rw [← unhide HQQ]
            exact dret_put rfl rfl rfl (unhide HB) hr (unhide HZ) (unhide HY).symm (unhide HR) (Nat.lt_succ_self _) (unhide HNode)
          have hY47 := unhide HY
          simp only [Bool.false_eq_true, if_false] at hY47
          replace HY := hide hY47
          clear hY47
          have hRR := unhide HR
          rw [if_neg Bool.false_ne_true] at hRR
          replace HR := hide hRR
          clear hRR
          have HC48 := hide (unhide hI w36 (st) (unhide HR))
          obtain ⟨⟨t48, S48⟩, hX48⟩ : ∃ X, impD ts g (st) = X := ⟨_, rfl⟩
          rw [hX48] at HC48
          have HX48 := hide hX48
          clear hX48
          go_wp2_with fail
          refine (unhide HC48).mono ?_
          rintro e w48 ⟨hb48, hR48, v48, rfl, hv48⟩
          have hY49 := unhide HY
          simp only [unhide HX48] at hY49
          replace HY := hide hY49
          clear hY49
          obtain ⟨i48, j48, s48, m48, b48, a48, n48, c48, rfl⟩ := hv48.form
          have HT48 := hide (hv48.keep (lo' := w.heap.size + 1) (Stays.of (Below.refl _ _)) (unhide HS))
          replace HB := hide ((unhide HB).trans hb48)
          replace HZ := hide ((unhide HZ).but hb48 hrne)
          replace HX3 := hide ((hb48.block _ (blk (unhide HX3)).1 (Ne.symm ne3)).trans (unhide HX3))
          replace HS := hide (Nat.lt_of_lt_of_le (unhide HS) hb48.size)
          replace HR := hide hR48
          clear hb48 hR48 hv48 HC48 HX48
          obtain ⟨y0, y1, y2, y3, y4, y5, y6⟩ := blk7 (unhide HZ)
          obtain ⟨z0, z1, z2, z3, z4, z5, z6⟩ := frz7 (unhide HZ)
          have HNode := hide (unhide HT48)
          go_wp2
          rw [← unhide HQQ]
          exact dret_put rfl rfl rfl (unhide HB) hr (unhide HZ) (unhide HY).symm (unhide HR) (Nat.lt_succ_self _) (unhide HNode)
      · have d4 : decide (kk8 = 4) = false := decide_eq_false hk4
        have e4 : (kk8 == 4) = false := by simpa using hk4
        have hYn := unhide HY
        rw [if_neg (fun h => hk4 (by have h1 := h.2.2.1; rw [unhide HN8] at h1; exact h1))] at hYn
        replace HY := hide hYn
        clear hYn
        have HC50 := hide (eat_any (unhide HR) (unhide HT) ⟨#[114, 97, 105, 115, 101]⟩)
        obtain ⟨bo50, hbo50⟩ : ∃ b, isD ts ⟨#[114, 97, 105, 115, 101]⟩ (st) = b := ⟨_, rfl⟩
        unfold eatD at HC50
        rw [hbo50] at HC50
        have HO50 := hide hbo50
        clear hbo50
        go_wp2_with fail
        refine (unhide HC50).mono ?_
        rintro e w50 ⟨rfl, hb50, hR50⟩
        replace HB := hide ((unhide HB).trans hb50)
        replace HZ := hide ((unhide HZ).but hb50 hrne)
        replace HX3 := hide ((hb50.block _ (blk (unhide HX3)).1 (Ne.symm ne3)).trans (unhide HX3))
        replace HS := hide (Nat.lt_of_lt_of_le (unhide HS) hb50.size)
        replace HR := hide hR50
        have hY51 := unhide HY
        simp only [unhide HO50] at hY51
        replace HY := hide hY51
        clear hY51
        clear hb50 HC50 hR50
        rcases bo50 with _ | _
        rotate_left
        · have hY52 := unhide HY
          simp only [if_true] at hY52
          replace HY := hide hY52
          clear hY52
          have hRR := unhide HR
          rw [if_pos rfl] at hRR
          obtain ⟨S53, hS53⟩ : ∃ S, stepD ts (st) = S := ⟨_, rfl⟩
          rw [hS53] at hRR
          replace HR := hide hRR
          have HSt53 := hide hS53
          have hY54 := unhide HY
          simp only [unhide HSt53] at hY54
          replace HY := hide hY54
          clear hY54
          clear hRR hS53
          have HC55 := hide (unhide hI w50 (S53) (unhide HR))
          obtain ⟨⟨t55, S55⟩, hX55⟩ : ∃ X, impD ts g (S53) = X := ⟨_, rfl⟩
          rw [hX55] at HC55
          have HX55 := hide hX55
          clear hX55
          go_wp2_with fail
          refine (unhide HC55).mono ?_
          rintro e w55 ⟨hb55, hR55, v55, rfl, hv55⟩
          have hY56 := unhide HY
          simp only [unhide HX55] at hY56
          replace HY := hide hY56
          clear hY56
          obtain ⟨i55, j55, s55, m55, b55, a55, n55, c55, rfl⟩ := hv55.form
          have HT55 := hide (hv55.keep (lo' := w.heap.size + 1) (Stays.of (Below.refl _ _)) (unhide HS))
          replace HB := hide ((unhide HB).trans hb55)
          replace HZ := hide ((unhide HZ).but hb55 hrne)
          replace HX3 := hide ((hb55.block _ (blk (unhide HX3)).1 (Ne.symm ne3)).trans (unhide HX3))
          replace HS := hide (Nat.lt_of_lt_of_le (unhide HS) hb55.size)
          replace HR := hide hR55
          clear hb55 hR55 hv55 HC55 HX55
          obtain ⟨B57, eB57, hbB57, hsB57, hhB57⟩ := box_new w55 #[.int .i64 i55, .string s55, .string m55, .bool b55, .slice a55 n55 c55, .int .i64 0, .int .i64 j55] 51
          have ne57 : r ≠ w55.heap.size := by have := unhide HS; omega
          have hbu58 := But.of (r := r) hbB57
          replace HR := hide ((unhide HR).keep hbB57)
          replace HB := hide ((unhide HB).trans hbu58)
          replace HZ := hide ((unhide HZ).but hbu58 hrne)
          replace HX3 := hide ((hbu58.block _ (blk (unhide HX3)).1 (Ne.symm ne3)).trans (unhide HX3))
          replace HT55 := hide ((unhide HT55).keep (Stays.but hbu58 (Nat.lt_succ_of_lt hr)) (Nat.le_refl _))
          replace HS := hide (Nat.lt_of_lt_of_le (unhide HS) hbu58.size)
          have HX57 := hide hhB57
          have HEB57 := hide eB57
          have HSB57 := hide hsB57
          clear eB57 hbB57 hhB57 hsB57
          obtain ⟨y057, y157, y257, y357, y457, y557, y657⟩ := blk7 (unhide HX57)
          have u03 := (blk (unhide HX3)).2.1 0 _ rfl
          have u13 := (blk (unhide HX3)).2.1 1 _ rfl
          have u23 := (blk (unhide HX3)).2.1 2 _ rfl
          rw [← unhide HEB57] at y057 y157 y257 y357 y457 y557 y657 u03 u13 u23
          obtain ⟨C59, eC59, hbC59, hsC59, hhC59⟩ := box_new B57 #[.int .i64 i55, .string s55, .string m55, .bool b55, .slice a55 n55 c55, .int .i64 0, .int .i64 j55] 51
          have hnode := node (l := [t55]) (vs := [[.int .i64 i55, .string s55, .string m55, .bool b55, .slice a55 n55 c55, .int .i64 0, .int .i64 j55]]) 26 at0 ⟨#[]⟩ ⟨#[]⟩ false eC59 rfl (by simp) rfl (by simp) (unhide HS) (fun j v t hv ht => by
            rcases j with _ | j
            · obtain rfl := Option.some.inj hv
              obtain rfl := Option.some.inj ht
              exact unhide HT55
            · simp at hv)
          rw [unhide HSB57] at hnode
          have hbu60 := But.of (r := r) hbC59
          replace HR := hide ((unhide HR).keep hbC59)
          replace HB := hide ((unhide HB).trans hbu60)
          replace HZ := hide ((unhide HZ).but hbu60 hrne)
          replace HX3 := hide ((hbu60.block _ (blk (unhide HX3)).1 (Ne.symm ne3)).trans (unhide HX3))
          replace HX57 := hide ((hbu60.block _ (blk (unhide HX57)).1 (Ne.symm ne57)).trans (unhide HX57))
          replace HS := hide (Nat.lt_of_lt_of_le (unhide HS) hbu60.size)
          obtain ⟨y0, y1, y2, y3, y4, y5, y6⟩ := blk7 (unhide HZ)
          obtain ⟨z0, z1, z2, z3, z4, z5, z6⟩ := frz7 (unhide HZ)
          have uc03 := (blk (unhide HX3)).2.1 0 _ rfl
          have uc13 := (blk (unhide HX3)).2.1 1 _ rfl
          have uc23 := (blk (unhide HX3)).2.1 2 _ rfl
          rw [← eC59, ← unhide HEB57] at y0 y1 y2 y3 y4 y5 y6 z0 z1 z2 z3 z4 z5 z6 uc03 uc13 uc23
          have HNode := hide hnode
          have HEC := hide eC59
          clear hnode eC59 hbC59 hsC59 hhC59
          go_wp2
          rw [unhide HEB57, unhide HEC]
          rw [← unhide HQQ]
          exact dret_put rfl rfl rfl (unhide HB) hr (unhide HZ) (unhide HY).symm (unhide HR) (Nat.lt_succ_self _) (unhide HNode)
        have hY61 := unhide HY
        simp only [Bool.false_eq_true, if_false] at hY61
        replace HY := hide hY61
        clear hY61
        have hRR := unhide HR
        rw [if_neg Bool.false_ne_true] at hRR
        replace HR := hide hRR
        clear hRR
        have HC62 := hide (eat_any (unhide HR) (unhide HT) ⟨#[97, 115, 115, 101, 114, 116]⟩)
        obtain ⟨bo62, hbo62⟩ : ∃ b, isD ts ⟨#[97, 115, 115, 101, 114, 116]⟩ (st) = b := ⟨_, rfl⟩
        unfold eatD at HC62
        rw [hbo62] at HC62
        have HO62 := hide hbo62
        clear hbo62
        go_wp2_with fail
        refine (unhide HC62).mono ?_
        rintro e w62 ⟨rfl, hb62, hR62⟩
        replace HB := hide ((unhide HB).trans hb62)
        replace HZ := hide ((unhide HZ).but hb62 hrne)
        replace HX3 := hide ((hb62.block _ (blk (unhide HX3)).1 (Ne.symm ne3)).trans (unhide HX3))
        replace HS := hide (Nat.lt_of_lt_of_le (unhide HS) hb62.size)
        replace HR := hide hR62
        have hY63 := unhide HY
        simp only [unhide HO62] at hY63
        replace HY := hide hY63
        clear hY63
        clear hb62 HC62 hR62
        rcases bo62 with _ | _
        rotate_left
        · have hY64 := unhide HY
          simp only [if_true] at hY64
          replace HY := hide hY64
          clear hY64
          have hRR := unhide HR
          rw [if_pos rfl] at hRR
          obtain ⟨S65, hS65⟩ : ∃ S, stepD ts (st) = S := ⟨_, rfl⟩
          rw [hS65] at hRR
          replace HR := hide hRR
          have HSt65 := hide hS65
          have hY66 := unhide HY
          simp only [unhide HSt65] at hY66
          replace HY := hide hY66
          clear hY66
          clear hRR hS65
          have HC67 := hide (unhide hI w62 (S65) (unhide HR))
          obtain ⟨⟨t67, S67⟩, hX67⟩ : ∃ X, impD ts g (S65) = X := ⟨_, rfl⟩
          rw [hX67] at HC67
          have HX67 := hide hX67
          clear hX67
          go_wp2_with fail
          refine (unhide HC67).mono ?_
          rintro e w67 ⟨hb67, hR67, v67, rfl, hv67⟩
          have hY68 := unhide HY
          simp only [unhide HX67] at hY68
          replace HY := hide hY68
          clear hY68
          obtain ⟨i67, j67, s67, m67, b67, a67, n67, c67, rfl⟩ := hv67.form
          have HT67 := hide (hv67.keep (lo' := w.heap.size + 1) (Stays.of (Below.refl _ _)) (unhide HS))
          replace HB := hide ((unhide HB).trans hb67)
          replace HZ := hide ((unhide HZ).but hb67 hrne)
          replace HX3 := hide ((hb67.block _ (blk (unhide HX3)).1 (Ne.symm ne3)).trans (unhide HX3))
          replace HS := hide (Nat.lt_of_lt_of_le (unhide HS) hb67.size)
          replace HR := hide hR67
          clear hb67 hR67 hv67 HC67 HX67
          obtain ⟨B69, eB69, hbB69, hsB69, hhB69⟩ := box_new w67 #[.int .i64 i67, .string s67, .string m67, .bool b67, .slice a67 n67 c67, .int .i64 0, .int .i64 j67] 51
          have ne69 : r ≠ w67.heap.size := by have := unhide HS; omega
          have hbu70 := But.of (r := r) hbB69
          replace HR := hide ((unhide HR).keep hbB69)
          replace HB := hide ((unhide HB).trans hbu70)
          replace HZ := hide ((unhide HZ).but hbu70 hrne)
          replace HX3 := hide ((hbu70.block _ (blk (unhide HX3)).1 (Ne.symm ne3)).trans (unhide HX3))
          replace HT67 := hide ((unhide HT67).keep (Stays.but hbu70 (Nat.lt_succ_of_lt hr)) (Nat.le_refl _))
          replace HS := hide (Nat.lt_of_lt_of_le (unhide HS) hbu70.size)
          have HX69 := hide hhB69
          have HEB69 := hide eB69
          have HSB69 := hide hsB69
          clear eB69 hbB69 hhB69 hsB69
          obtain ⟨y069, y169, y269, y369, y469, y569, y669⟩ := blk7 (unhide HX69)
          have u03 := (blk (unhide HX3)).2.1 0 _ rfl
          have u13 := (blk (unhide HX3)).2.1 1 _ rfl
          have u23 := (blk (unhide HX3)).2.1 2 _ rfl
          rw [← unhide HEB69] at y069 y169 y269 y369 y469 y569 y669 u03 u13 u23
          obtain ⟨C71, eC71, hbC71, hsC71, hhC71⟩ := box_new B69 #[.int .i64 i67, .string s67, .string m67, .bool b67, .slice a67 n67 c67, .int .i64 0, .int .i64 j67] 51
          have hnode := node (l := [t67]) (vs := [[.int .i64 i67, .string s67, .string m67, .bool b67, .slice a67 n67 c67, .int .i64 0, .int .i64 j67]]) 28 at0 ⟨#[]⟩ ⟨#[]⟩ false eC71 rfl (by simp) rfl (by simp) (unhide HS) (fun j v t hv ht => by
            rcases j with _ | j
            · obtain rfl := Option.some.inj hv
              obtain rfl := Option.some.inj ht
              exact unhide HT67
            · simp at hv)
          rw [unhide HSB69] at hnode
          have hbu72 := But.of (r := r) hbC71
          replace HR := hide ((unhide HR).keep hbC71)
          replace HB := hide ((unhide HB).trans hbu72)
          replace HZ := hide ((unhide HZ).but hbu72 hrne)
          replace HX3 := hide ((hbu72.block _ (blk (unhide HX3)).1 (Ne.symm ne3)).trans (unhide HX3))
          replace HX69 := hide ((hbu72.block _ (blk (unhide HX69)).1 (Ne.symm ne69)).trans (unhide HX69))
          replace HS := hide (Nat.lt_of_lt_of_le (unhide HS) hbu72.size)
          obtain ⟨y0, y1, y2, y3, y4, y5, y6⟩ := blk7 (unhide HZ)
          obtain ⟨z0, z1, z2, z3, z4, z5, z6⟩ := frz7 (unhide HZ)
          have uc03 := (blk (unhide HX3)).2.1 0 _ rfl
          have uc13 := (blk (unhide HX3)).2.1 1 _ rfl
          have uc23 := (blk (unhide HX3)).2.1 2 _ rfl
          rw [← eC71, ← unhide HEB69] at y0 y1 y2 y3 y4 y5 y6 z0 z1 z2 z3 z4 z5 z6 uc03 uc13 uc23
          have HNode := hide hnode
          have HEC := hide eC71
          clear hnode eC71 hbC71 hsC71 hhC71
          go_wp2
          rw [unhide HEB69, unhide HEC]
          rw [← unhide HQQ]
          exact dret_put rfl rfl rfl (unhide HB) hr (unhide HZ) (unhide HY).symm (unhide HR) (Nat.lt_succ_self _) (unhide HNode)
        have hY73 := unhide HY
        simp only [Bool.false_eq_true, if_false] at hY73
        replace HY := hide hY73
        clear hY73
        have hRR := unhide HR
        rw [if_neg Bool.false_ne_true] at hRR
        replace HR := hide hRR
        clear hRR
        have HC74 := hide (unhide hI w62 (st) (unhide HR))
        obtain ⟨⟨t74, S74⟩, hX74⟩ : ∃ X, impD ts g (st) = X := ⟨_, rfl⟩
        rw [hX74] at HC74
        have HX74 := hide hX74
        clear hX74
        go_wp2_with fail
        refine (unhide HC74).mono ?_
        rintro e w74 ⟨hb74, hR74, v74, rfl, hv74⟩
        have hY75 := unhide HY
        simp only [unhide HX74] at hY75
        replace HY := hide hY75
        clear hY75
        obtain ⟨i74, j74, s74, m74, b74, a74, n74, c74, rfl⟩ := hv74.form
        have HT74 := hide (hv74.keep (lo' := w.heap.size + 1) (Stays.of (Below.refl _ _)) (unhide HS))
        replace HB := hide ((unhide HB).trans hb74)
        replace HZ := hide ((unhide HZ).but hb74 hrne)
        replace HX3 := hide ((hb74.block _ (blk (unhide HX3)).1 (Ne.symm ne3)).trans (unhide HX3))
        replace HS := hide (Nat.lt_of_lt_of_le (unhide HS) hb74.size)
        replace HR := hide hR74
        clear hb74 hR74 hv74 HC74 HX74
        obtain ⟨y0, y1, y2, y3, y4, y5, y6⟩ := blk7 (unhide HZ)
        obtain ⟨z0, z1, z2, z3, z4, z5, z6⟩ := frz7 (unhide HZ)
        have HNode := hide (unhide HT74)
        go_wp2
        rw [← unhide HQQ]
        exact dret_put rfl rfl rfl (unhide HB) hr (unhide HZ) (unhide HY).symm (unhide HR) (Nat.lt_succ_self _) (unhide HNode)
    · have d1 : decide (kk0 = 1) = false := decide_eq_false hk1
      have e1 : (kk0 == 1) = false := by simpa using hk1
      have hYn := unhide HY
      rw [if_neg (fun h => hk1 h.2.1)] at hYn
      replace HY := hide hYn
      clear hYn
      have HC76 := hide (eat_any (unhide HR) (unhide HT) ⟨#[114, 97, 105, 115, 101]⟩)
      obtain ⟨bo76, hbo76⟩ : ∃ b, isD ts ⟨#[114, 97, 105, 115, 101]⟩ (st) = b := ⟨_, rfl⟩
      unfold eatD at HC76
      rw [hbo76] at HC76
      have HO76 := hide hbo76
      clear hbo76
      go_wp2_with fail
      rw [unhide HEB3]
      refine (unhide HC76).mono ?_
      rintro e w76 ⟨rfl, hb76, hR76⟩
      replace HB := hide ((unhide HB).trans hb76)
      replace HZ := hide ((unhide HZ).but hb76 hrne)
      replace HX3 := hide ((hb76.block _ (blk (unhide HX3)).1 (Ne.symm ne3)).trans (unhide HX3))
      replace HS := hide (Nat.lt_of_lt_of_le (unhide HS) hb76.size)
      replace HR := hide hR76
      have hY77 := unhide HY
      simp only [unhide HO76] at hY77
      replace HY := hide hY77
      clear hY77
      clear hb76 HC76 hR76
      rcases bo76 with _ | _
      rotate_left
      · have hY78 := unhide HY
        simp only [if_true] at hY78
        replace HY := hide hY78
        clear hY78
        have hRR := unhide HR
        rw [if_pos rfl] at hRR
        obtain ⟨S79, hS79⟩ : ∃ S, stepD ts (st) = S := ⟨_, rfl⟩
        rw [hS79] at hRR
        replace HR := hide hRR
        have HSt79 := hide hS79
        have hY80 := unhide HY
        simp only [unhide HSt79] at hY80
        replace HY := hide hY80
        clear hY80
        clear hRR hS79
        have HC81 := hide (unhide hI w76 (S79) (unhide HR))
        obtain ⟨⟨t81, S81⟩, hX81⟩ : ∃ X, impD ts g (S79) = X := ⟨_, rfl⟩
        rw [hX81] at HC81
        have HX81 := hide hX81
        clear hX81
        go_wp2_with fail
        refine (unhide HC81).mono ?_
        rintro e w81 ⟨hb81, hR81, v81, rfl, hv81⟩
        have hY82 := unhide HY
        simp only [unhide HX81] at hY82
        replace HY := hide hY82
        clear hY82
        obtain ⟨i81, j81, s81, m81, b81, a81, n81, c81, rfl⟩ := hv81.form
        have HT81 := hide (hv81.keep (lo' := w.heap.size + 1) (Stays.of (Below.refl _ _)) (unhide HS))
        replace HB := hide ((unhide HB).trans hb81)
        replace HZ := hide ((unhide HZ).but hb81 hrne)
        replace HX3 := hide ((hb81.block _ (blk (unhide HX3)).1 (Ne.symm ne3)).trans (unhide HX3))
        replace HS := hide (Nat.lt_of_lt_of_le (unhide HS) hb81.size)
        replace HR := hide hR81
        clear hb81 hR81 hv81 HC81 HX81
        obtain ⟨B83, eB83, hbB83, hsB83, hhB83⟩ := box_new w81 #[.int .i64 i81, .string s81, .string m81, .bool b81, .slice a81 n81 c81, .int .i64 0, .int .i64 j81] 51
        have ne83 : r ≠ w81.heap.size := by have := unhide HS; omega
        have hbu84 := But.of (r := r) hbB83
        replace HR := hide ((unhide HR).keep hbB83)
        replace HB := hide ((unhide HB).trans hbu84)
        replace HZ := hide ((unhide HZ).but hbu84 hrne)
        replace HX3 := hide ((hbu84.block _ (blk (unhide HX3)).1 (Ne.symm ne3)).trans (unhide HX3))
        replace HT81 := hide ((unhide HT81).keep (Stays.but hbu84 (Nat.lt_succ_of_lt hr)) (Nat.le_refl _))
        replace HS := hide (Nat.lt_of_lt_of_le (unhide HS) hbu84.size)
        have HX83 := hide hhB83
        have HEB83 := hide eB83
        have HSB83 := hide hsB83
        clear eB83 hbB83 hhB83 hsB83
        obtain ⟨y083, y183, y283, y383, y483, y583, y683⟩ := blk7 (unhide HX83)
        have u03 := (blk (unhide HX3)).2.1 0 _ rfl
        have u13 := (blk (unhide HX3)).2.1 1 _ rfl
        have u23 := (blk (unhide HX3)).2.1 2 _ rfl
        rw [← unhide HEB83] at y083 y183 y283 y383 y483 y583 y683 u03 u13 u23
        obtain ⟨C85, eC85, hbC85, hsC85, hhC85⟩ := box_new B83 #[.int .i64 i81, .string s81, .string m81, .bool b81, .slice a81 n81 c81, .int .i64 0, .int .i64 j81] 51
        have hnode := node (l := [t81]) (vs := [[.int .i64 i81, .string s81, .string m81, .bool b81, .slice a81 n81 c81, .int .i64 0, .int .i64 j81]]) 26 at0 ⟨#[]⟩ ⟨#[]⟩ false eC85 rfl (by simp) rfl (by simp) (unhide HS) (fun j v t hv ht => by
          rcases j with _ | j
          · obtain rfl := Option.some.inj hv
            obtain rfl := Option.some.inj ht
            exact unhide HT81
          · simp at hv)
        rw [unhide HSB83] at hnode
        have hbu86 := But.of (r := r) hbC85
        replace HR := hide ((unhide HR).keep hbC85)
        replace HB := hide ((unhide HB).trans hbu86)
        replace HZ := hide ((unhide HZ).but hbu86 hrne)
        replace HX3 := hide ((hbu86.block _ (blk (unhide HX3)).1 (Ne.symm ne3)).trans (unhide HX3))
        replace HX83 := hide ((hbu86.block _ (blk (unhide HX83)).1 (Ne.symm ne83)).trans (unhide HX83))
        replace HS := hide (Nat.lt_of_lt_of_le (unhide HS) hbu86.size)
        obtain ⟨y0, y1, y2, y3, y4, y5, y6⟩ := blk7 (unhide HZ)
        obtain ⟨z0, z1, z2, z3, z4, z5, z6⟩ := frz7 (unhide HZ)
        have uc03 := (blk (unhide HX3)).2.1 0 _ rfl
        have uc13 := (blk (unhide HX3)).2.1 1 _ rfl
        have uc23 := (blk (unhide HX3)).2.1 2 _ rfl
        rw [← eC85, ← unhide HEB83] at y0 y1 y2 y3 y4 y5 y6 z0 z1 z2 z3 z4 z5 z6 uc03 uc13 uc23
        have HNode := hide hnode
        have HEC := hide eC85
        clear hnode eC85 hbC85 hsC85 hhC85
        go_wp2
        rw [unhide HEB83, unhide HEC]
        rw [← unhide HQQ]
        exact dret_put rfl rfl rfl (unhide HB) hr (unhide HZ) (unhide HY).symm (unhide HR) (Nat.lt_succ_self _) (unhide HNode)
      have hY87 := unhide HY
      simp only [Bool.false_eq_true, if_false] at hY87
      replace HY := hide hY87
      clear hY87
      have hRR := unhide HR
      rw [if_neg Bool.false_ne_true] at hRR
      replace HR := hide hRR
      clear hRR
      have HC88 := hide (eat_any (unhide HR) (unhide HT) ⟨#[97, 115, 115, 101, 114, 116]⟩)
      obtain ⟨bo88, hbo88⟩ : ∃ b, isD ts ⟨#[97, 115, 115, 101, 114, 116]⟩ (st) = b := ⟨_, rfl⟩
      unfold eatD at HC88
      rw [hbo88] at HC88
      have HO88 := hide hbo88
      clear hbo88
      go_wp2_with fail
      refine (unhide HC88).mono ?_
      rintro e w88 ⟨rfl, hb88, hR88⟩
      replace HB := hide ((unhide HB).trans hb88)
      replace HZ := hide ((unhide HZ).but hb88 hrne)
      replace HX3 := hide ((hb88.block _ (blk (unhide HX3)).1 (Ne.symm ne3)).trans (unhide HX3))
      replace HS := hide (Nat.lt_of_lt_of_le (unhide HS) hb88.size)
      replace HR := hide hR88
      have hY89 := unhide HY
      simp only [unhide HO88] at hY89
      replace HY := hide hY89
      clear hY89
      clear hb88 HC88 hR88
      rcases bo88 with _ | _
      rotate_left
      · have hY90 := unhide HY
        simp only [if_true] at hY90
        replace HY := hide hY90
        clear hY90
        have hRR := unhide HR
        rw [if_pos rfl] at hRR
        obtain ⟨S91, hS91⟩ : ∃ S, stepD ts (st) = S := ⟨_, rfl⟩
        rw [hS91] at hRR
        replace HR := hide hRR
        have HSt91 := hide hS91
        have hY92 := unhide HY
        simp only [unhide HSt91] at hY92
        replace HY := hide hY92
        clear hY92
        clear hRR hS91
        have HC93 := hide (unhide hI w88 (S91) (unhide HR))
        obtain ⟨⟨t93, S93⟩, hX93⟩ : ∃ X, impD ts g (S91) = X := ⟨_, rfl⟩
        rw [hX93] at HC93
        have HX93 := hide hX93
        clear hX93
        go_wp2_with fail
        refine (unhide HC93).mono ?_
        rintro e w93 ⟨hb93, hR93, v93, rfl, hv93⟩
        have hY94 := unhide HY
        simp only [unhide HX93] at hY94
        replace HY := hide hY94
        clear hY94
        obtain ⟨i93, j93, s93, m93, b93, a93, n93, c93, rfl⟩ := hv93.form
        have HT93 := hide (hv93.keep (lo' := w.heap.size + 1) (Stays.of (Below.refl _ _)) (unhide HS))
        replace HB := hide ((unhide HB).trans hb93)
        replace HZ := hide ((unhide HZ).but hb93 hrne)
        replace HX3 := hide ((hb93.block _ (blk (unhide HX3)).1 (Ne.symm ne3)).trans (unhide HX3))
        replace HS := hide (Nat.lt_of_lt_of_le (unhide HS) hb93.size)
        replace HR := hide hR93
        clear hb93 hR93 hv93 HC93 HX93
        obtain ⟨B95, eB95, hbB95, hsB95, hhB95⟩ := box_new w93 #[.int .i64 i93, .string s93, .string m93, .bool b93, .slice a93 n93 c93, .int .i64 0, .int .i64 j93] 51
        have ne95 : r ≠ w93.heap.size := by have := unhide HS; omega
        have hbu96 := But.of (r := r) hbB95
        replace HR := hide ((unhide HR).keep hbB95)
        replace HB := hide ((unhide HB).trans hbu96)
        replace HZ := hide ((unhide HZ).but hbu96 hrne)
        replace HX3 := hide ((hbu96.block _ (blk (unhide HX3)).1 (Ne.symm ne3)).trans (unhide HX3))
        replace HT93 := hide ((unhide HT93).keep (Stays.but hbu96 (Nat.lt_succ_of_lt hr)) (Nat.le_refl _))
        replace HS := hide (Nat.lt_of_lt_of_le (unhide HS) hbu96.size)
        have HX95 := hide hhB95
        have HEB95 := hide eB95
        have HSB95 := hide hsB95
        clear eB95 hbB95 hhB95 hsB95
        obtain ⟨y095, y195, y295, y395, y495, y595, y695⟩ := blk7 (unhide HX95)
        have u03 := (blk (unhide HX3)).2.1 0 _ rfl
        have u13 := (blk (unhide HX3)).2.1 1 _ rfl
        have u23 := (blk (unhide HX3)).2.1 2 _ rfl
        rw [← unhide HEB95] at y095 y195 y295 y395 y495 y595 y695 u03 u13 u23
        obtain ⟨C97, eC97, hbC97, hsC97, hhC97⟩ := box_new B95 #[.int .i64 i93, .string s93, .string m93, .bool b93, .slice a93 n93 c93, .int .i64 0, .int .i64 j93] 51
        have hnode := node (l := [t93]) (vs := [[.int .i64 i93, .string s93, .string m93, .bool b93, .slice a93 n93 c93, .int .i64 0, .int .i64 j93]]) 28 at0 ⟨#[]⟩ ⟨#[]⟩ false eC97 rfl (by simp) rfl (by simp) (unhide HS) (fun j v t hv ht => by
          rcases j with _ | j
          · obtain rfl := Option.some.inj hv
            obtain rfl := Option.some.inj ht
            exact unhide HT93
          · simp at hv)
        rw [unhide HSB95] at hnode
        have hbu98 := But.of (r := r) hbC97
        replace HR := hide ((unhide HR).keep hbC97)
        replace HB := hide ((unhide HB).trans hbu98)
        replace HZ := hide ((unhide HZ).but hbu98 hrne)
        replace HX3 := hide ((hbu98.block _ (blk (unhide HX3)).1 (Ne.symm ne3)).trans (unhide HX3))
        replace HX95 := hide ((hbu98.block _ (blk (unhide HX95)).1 (Ne.symm ne95)).trans (unhide HX95))
        replace HS := hide (Nat.lt_of_lt_of_le (unhide HS) hbu98.size)
        obtain ⟨y0, y1, y2, y3, y4, y5, y6⟩ := blk7 (unhide HZ)
        obtain ⟨z0, z1, z2, z3, z4, z5, z6⟩ := frz7 (unhide HZ)
        have uc03 := (blk (unhide HX3)).2.1 0 _ rfl
        have uc13 := (blk (unhide HX3)).2.1 1 _ rfl
        have uc23 := (blk (unhide HX3)).2.1 2 _ rfl
        rw [← eC97, ← unhide HEB95] at y0 y1 y2 y3 y4 y5 y6 z0 z1 z2 z3 z4 z5 z6 uc03 uc13 uc23
        have HNode := hide hnode
        have HEC := hide eC97
        clear hnode eC97 hbC97 hsC97 hhC97
        go_wp2
        rw [unhide HEB95, unhide HEC]
        rw [← unhide HQQ]
        exact dret_put rfl rfl rfl (unhide HB) hr (unhide HZ) (unhide HY).symm (unhide HR) (Nat.lt_succ_self _) (unhide HNode)
      have hY99 := unhide HY
      simp only [Bool.false_eq_true, if_false] at hY99
      replace HY := hide hY99
      clear hY99
      have hRR := unhide HR
      rw [if_neg Bool.false_ne_true] at hRR
      replace HR := hide hRR
      clear hRR
      have HC100 := hide (unhide hI w88 (st) (unhide HR))
      obtain ⟨⟨t100, S100⟩, hX100⟩ : ∃ X, impD ts g (st) = X := ⟨_, rfl⟩
      rw [hX100] at HC100
      have HX100 := hide hX100
      clear hX100
      go_wp2_with fail
      refine (unhide HC100).mono ?_
      rintro e w100 ⟨hb100, hR100, v100, rfl, hv100⟩
      have hY101 := unhide HY
      simp only [unhide HX100] at hY101
      replace HY := hide hY101
      clear hY101
      obtain ⟨i100, j100, s100, m100, b100, a100, n100, c100, rfl⟩ := hv100.form
      have HT100 := hide (hv100.keep (lo' := w.heap.size + 1) (Stays.of (Below.refl _ _)) (unhide HS))
      replace HB := hide ((unhide HB).trans hb100)
      replace HZ := hide ((unhide HZ).but hb100 hrne)
      replace HX3 := hide ((hb100.block _ (blk (unhide HX3)).1 (Ne.symm ne3)).trans (unhide HX3))
      replace HS := hide (Nat.lt_of_lt_of_le (unhide HS) hb100.size)
      replace HR := hide hR100
      clear hb100 hR100 hv100 HC100 HX100
      obtain ⟨y0, y1, y2, y3, y4, y5, y6⟩ := blk7 (unhide HZ)
      obtain ⟨z0, z1, z2, z3, z4, z5, z6⟩ := frz7 (unhide HZ)
      have HNode := hide (unhide HT100)
      go_wp2
      rw [← unhide HQQ]
      exact dret_put rfl rfl rfl (unhide HB) hr (unhide HZ) (unhide HY).symm (unhide HR) (Nat.lt_succ_self _) (unhide HNode)
  · rw [her] at x25
    have d0 : decide (er = 0) = false := decide_eq_false (by rw [← her]; exact he)
    have e0 : (er == 0) = false := by have h := he; rw [her] at h; simpa using h
    have hYn := unhide HY
    rw [if_neg (fun h => he h.1)] at hYn
    replace HY := hide hYn
    clear hYn
    have HC102 := hide (eat_any (unhide HR) (unhide HT) ⟨#[114, 97, 105, 115, 101]⟩)
    obtain ⟨bo102, hbo102⟩ : ∃ b, isD ts ⟨#[114, 97, 105, 115, 101]⟩ (st) = b := ⟨_, rfl⟩
    unfold eatD at HC102
    rw [hbo102] at HC102
    have HO102 := hide hbo102
    clear hbo102
    go_wp2_with fail
    rw [unhide HEB3]
    refine (unhide HC102).mono ?_
    rintro e w102 ⟨rfl, hb102, hR102⟩
    replace HB := hide ((unhide HB).trans hb102)
    replace HZ := hide ((unhide HZ).but hb102 hrne)
    replace HX3 := hide ((hb102.block _ (blk (unhide HX3)).1 (Ne.symm ne3)).trans (unhide HX3))
    replace HS := hide (Nat.lt_of_lt_of_le (unhide HS) hb102.size)
    replace HR := hide hR102
    have hY103 := unhide HY
    simp only [unhide HO102] at hY103
    replace HY := hide hY103
    clear hY103
    clear hb102 HC102 hR102
    rcases bo102 with _ | _
    rotate_left
    · have hY104 := unhide HY
      simp only [if_true] at hY104
      replace HY := hide hY104
      clear hY104
      have hRR := unhide HR
      rw [if_pos rfl] at hRR
      obtain ⟨S105, hS105⟩ : ∃ S, stepD ts (st) = S := ⟨_, rfl⟩
      rw [hS105] at hRR
      replace HR := hide hRR
      have HSt105 := hide hS105
      have hY106 := unhide HY
      simp only [unhide HSt105] at hY106
      replace HY := hide hY106
      clear hY106
      clear hRR hS105
      have HC107 := hide (unhide hI w102 (S105) (unhide HR))
      obtain ⟨⟨t107, S107⟩, hX107⟩ : ∃ X, impD ts g (S105) = X := ⟨_, rfl⟩
      rw [hX107] at HC107
      have HX107 := hide hX107
      clear hX107
      go_wp2_with fail
      refine (unhide HC107).mono ?_
      rintro e w107 ⟨hb107, hR107, v107, rfl, hv107⟩
      have hY108 := unhide HY
      simp only [unhide HX107] at hY108
      replace HY := hide hY108
      clear hY108
      obtain ⟨i107, j107, s107, m107, b107, a107, n107, c107, rfl⟩ := hv107.form
      have HT107 := hide (hv107.keep (lo' := w.heap.size + 1) (Stays.of (Below.refl _ _)) (unhide HS))
      replace HB := hide ((unhide HB).trans hb107)
      replace HZ := hide ((unhide HZ).but hb107 hrne)
      replace HX3 := hide ((hb107.block _ (blk (unhide HX3)).1 (Ne.symm ne3)).trans (unhide HX3))
      replace HS := hide (Nat.lt_of_lt_of_le (unhide HS) hb107.size)
      replace HR := hide hR107
      clear hb107 hR107 hv107 HC107 HX107
      obtain ⟨B109, eB109, hbB109, hsB109, hhB109⟩ := box_new w107 #[.int .i64 i107, .string s107, .string m107, .bool b107, .slice a107 n107 c107, .int .i64 0, .int .i64 j107] 51
      have ne109 : r ≠ w107.heap.size := by have := unhide HS; omega
      have hbu110 := But.of (r := r) hbB109
      replace HR := hide ((unhide HR).keep hbB109)
      replace HB := hide ((unhide HB).trans hbu110)
      replace HZ := hide ((unhide HZ).but hbu110 hrne)
      replace HX3 := hide ((hbu110.block _ (blk (unhide HX3)).1 (Ne.symm ne3)).trans (unhide HX3))
      replace HT107 := hide ((unhide HT107).keep (Stays.but hbu110 (Nat.lt_succ_of_lt hr)) (Nat.le_refl _))
      replace HS := hide (Nat.lt_of_lt_of_le (unhide HS) hbu110.size)
      have HX109 := hide hhB109
      have HEB109 := hide eB109
      have HSB109 := hide hsB109
      clear eB109 hbB109 hhB109 hsB109
      obtain ⟨y0109, y1109, y2109, y3109, y4109, y5109, y6109⟩ := blk7 (unhide HX109)
      have u03 := (blk (unhide HX3)).2.1 0 _ rfl
      have u13 := (blk (unhide HX3)).2.1 1 _ rfl
      have u23 := (blk (unhide HX3)).2.1 2 _ rfl
      rw [← unhide HEB109] at y0109 y1109 y2109 y3109 y4109 y5109 y6109 u03 u13 u23
      obtain ⟨C111, eC111, hbC111, hsC111, hhC111⟩ := box_new B109 #[.int .i64 i107, .string s107, .string m107, .bool b107, .slice a107 n107 c107, .int .i64 0, .int .i64 j107] 51
      have hnode := node (l := [t107]) (vs := [[.int .i64 i107, .string s107, .string m107, .bool b107, .slice a107 n107 c107, .int .i64 0, .int .i64 j107]]) 26 at0 ⟨#[]⟩ ⟨#[]⟩ false eC111 rfl (by simp) rfl (by simp) (unhide HS) (fun j v t hv ht => by
        rcases j with _ | j
        · obtain rfl := Option.some.inj hv
          obtain rfl := Option.some.inj ht
          exact unhide HT107
        · simp at hv)
      rw [unhide HSB109] at hnode
      have hbu112 := But.of (r := r) hbC111
      replace HR := hide ((unhide HR).keep hbC111)
      replace HB := hide ((unhide HB).trans hbu112)
      replace HZ := hide ((unhide HZ).but hbu112 hrne)
      replace HX3 := hide ((hbu112.block _ (blk (unhide HX3)).1 (Ne.symm ne3)).trans (unhide HX3))
      replace HX109 := hide ((hbu112.block _ (blk (unhide HX109)).1 (Ne.symm ne109)).trans (unhide HX109))
      replace HS := hide (Nat.lt_of_lt_of_le (unhide HS) hbu112.size)
      obtain ⟨y0, y1, y2, y3, y4, y5, y6⟩ := blk7 (unhide HZ)
      obtain ⟨z0, z1, z2, z3, z4, z5, z6⟩ := frz7 (unhide HZ)
      have uc03 := (blk (unhide HX3)).2.1 0 _ rfl
      have uc13 := (blk (unhide HX3)).2.1 1 _ rfl
      have uc23 := (blk (unhide HX3)).2.1 2 _ rfl
      rw [← eC111, ← unhide HEB109] at y0 y1 y2 y3 y4 y5 y6 z0 z1 z2 z3 z4 z5 z6 uc03 uc13 uc23
      have HNode := hide hnode
      have HEC := hide eC111
      clear hnode eC111 hbC111 hsC111 hhC111
      go_wp2
      rw [unhide HEB109, unhide HEC]
      rw [← unhide HQQ]
      exact dret_put rfl rfl rfl (unhide HB) hr (unhide HZ) (unhide HY).symm (unhide HR) (Nat.lt_succ_self _) (unhide HNode)
    have hY113 := unhide HY
    simp only [Bool.false_eq_true, if_false] at hY113
    replace HY := hide hY113
    clear hY113
    have hRR := unhide HR
    rw [if_neg Bool.false_ne_true] at hRR
    replace HR := hide hRR
    clear hRR
    have HC114 := hide (eat_any (unhide HR) (unhide HT) ⟨#[97, 115, 115, 101, 114, 116]⟩)
    obtain ⟨bo114, hbo114⟩ : ∃ b, isD ts ⟨#[97, 115, 115, 101, 114, 116]⟩ (st) = b := ⟨_, rfl⟩
    unfold eatD at HC114
    rw [hbo114] at HC114
    have HO114 := hide hbo114
    clear hbo114
    go_wp2_with fail
    refine (unhide HC114).mono ?_
    rintro e w114 ⟨rfl, hb114, hR114⟩
    replace HB := hide ((unhide HB).trans hb114)
    replace HZ := hide ((unhide HZ).but hb114 hrne)
    replace HX3 := hide ((hb114.block _ (blk (unhide HX3)).1 (Ne.symm ne3)).trans (unhide HX3))
    replace HS := hide (Nat.lt_of_lt_of_le (unhide HS) hb114.size)
    replace HR := hide hR114
    have hY115 := unhide HY
    simp only [unhide HO114] at hY115
    replace HY := hide hY115
    clear hY115
    clear hb114 HC114 hR114
    rcases bo114 with _ | _
    rotate_left
    · have hY116 := unhide HY
      simp only [if_true] at hY116
      replace HY := hide hY116
      clear hY116
      have hRR := unhide HR
      rw [if_pos rfl] at hRR
      obtain ⟨S117, hS117⟩ : ∃ S, stepD ts (st) = S := ⟨_, rfl⟩
      rw [hS117] at hRR
      replace HR := hide hRR
      have HSt117 := hide hS117
      have hY118 := unhide HY
      simp only [unhide HSt117] at hY118
      replace HY := hide hY118
      clear hY118
      clear hRR hS117
      have HC119 := hide (unhide hI w114 (S117) (unhide HR))
      obtain ⟨⟨t119, S119⟩, hX119⟩ : ∃ X, impD ts g (S117) = X := ⟨_, rfl⟩
      rw [hX119] at HC119
      have HX119 := hide hX119
      clear hX119
      go_wp2_with fail
      refine (unhide HC119).mono ?_
      rintro e w119 ⟨hb119, hR119, v119, rfl, hv119⟩
      have hY120 := unhide HY
      simp only [unhide HX119] at hY120
      replace HY := hide hY120
      clear hY120
      obtain ⟨i119, j119, s119, m119, b119, a119, n119, c119, rfl⟩ := hv119.form
      have HT119 := hide (hv119.keep (lo' := w.heap.size + 1) (Stays.of (Below.refl _ _)) (unhide HS))
      replace HB := hide ((unhide HB).trans hb119)
      replace HZ := hide ((unhide HZ).but hb119 hrne)
      replace HX3 := hide ((hb119.block _ (blk (unhide HX3)).1 (Ne.symm ne3)).trans (unhide HX3))
      replace HS := hide (Nat.lt_of_lt_of_le (unhide HS) hb119.size)
      replace HR := hide hR119
      clear hb119 hR119 hv119 HC119 HX119
      obtain ⟨B121, eB121, hbB121, hsB121, hhB121⟩ := box_new w119 #[.int .i64 i119, .string s119, .string m119, .bool b119, .slice a119 n119 c119, .int .i64 0, .int .i64 j119] 51
      have ne121 : r ≠ w119.heap.size := by have := unhide HS; omega
      have hbu122 := But.of (r := r) hbB121
      replace HR := hide ((unhide HR).keep hbB121)
      replace HB := hide ((unhide HB).trans hbu122)
      replace HZ := hide ((unhide HZ).but hbu122 hrne)
      replace HX3 := hide ((hbu122.block _ (blk (unhide HX3)).1 (Ne.symm ne3)).trans (unhide HX3))
      replace HT119 := hide ((unhide HT119).keep (Stays.but hbu122 (Nat.lt_succ_of_lt hr)) (Nat.le_refl _))
      replace HS := hide (Nat.lt_of_lt_of_le (unhide HS) hbu122.size)
      have HX121 := hide hhB121
      have HEB121 := hide eB121
      have HSB121 := hide hsB121
      clear eB121 hbB121 hhB121 hsB121
      obtain ⟨y0121, y1121, y2121, y3121, y4121, y5121, y6121⟩ := blk7 (unhide HX121)
      have u03 := (blk (unhide HX3)).2.1 0 _ rfl
      have u13 := (blk (unhide HX3)).2.1 1 _ rfl
      have u23 := (blk (unhide HX3)).2.1 2 _ rfl
      rw [← unhide HEB121] at y0121 y1121 y2121 y3121 y4121 y5121 y6121 u03 u13 u23
      obtain ⟨C123, eC123, hbC123, hsC123, hhC123⟩ := box_new B121 #[.int .i64 i119, .string s119, .string m119, .bool b119, .slice a119 n119 c119, .int .i64 0, .int .i64 j119] 51
      have hnode := node (l := [t119]) (vs := [[.int .i64 i119, .string s119, .string m119, .bool b119, .slice a119 n119 c119, .int .i64 0, .int .i64 j119]]) 28 at0 ⟨#[]⟩ ⟨#[]⟩ false eC123 rfl (by simp) rfl (by simp) (unhide HS) (fun j v t hv ht => by
        rcases j with _ | j
        · obtain rfl := Option.some.inj hv
          obtain rfl := Option.some.inj ht
          exact unhide HT119
        · simp at hv)
      rw [unhide HSB121] at hnode
      have hbu124 := But.of (r := r) hbC123
      replace HR := hide ((unhide HR).keep hbC123)
      replace HB := hide ((unhide HB).trans hbu124)
      replace HZ := hide ((unhide HZ).but hbu124 hrne)
      replace HX3 := hide ((hbu124.block _ (blk (unhide HX3)).1 (Ne.symm ne3)).trans (unhide HX3))
      replace HX121 := hide ((hbu124.block _ (blk (unhide HX121)).1 (Ne.symm ne121)).trans (unhide HX121))
      replace HS := hide (Nat.lt_of_lt_of_le (unhide HS) hbu124.size)
      obtain ⟨y0, y1, y2, y3, y4, y5, y6⟩ := blk7 (unhide HZ)
      obtain ⟨z0, z1, z2, z3, z4, z5, z6⟩ := frz7 (unhide HZ)
      have uc03 := (blk (unhide HX3)).2.1 0 _ rfl
      have uc13 := (blk (unhide HX3)).2.1 1 _ rfl
      have uc23 := (blk (unhide HX3)).2.1 2 _ rfl
      rw [← eC123, ← unhide HEB121] at y0 y1 y2 y3 y4 y5 y6 z0 z1 z2 z3 z4 z5 z6 uc03 uc13 uc23
      have HNode := hide hnode
      have HEC := hide eC123
      clear hnode eC123 hbC123 hsC123 hhC123
      go_wp2
      rw [unhide HEB121, unhide HEC]
      rw [← unhide HQQ]
      exact dret_put rfl rfl rfl (unhide HB) hr (unhide HZ) (unhide HY).symm (unhide HR) (Nat.lt_succ_self _) (unhide HNode)
    have hY125 := unhide HY
    simp only [Bool.false_eq_true, if_false] at hY125
    replace HY := hide hY125
    clear hY125
    have hRR := unhide HR
    rw [if_neg Bool.false_ne_true] at hRR
    replace HR := hide hRR
    clear hRR
    have HC126 := hide (unhide hI w114 (st) (unhide HR))
    obtain ⟨⟨t126, S126⟩, hX126⟩ : ∃ X, impD ts g (st) = X := ⟨_, rfl⟩
    rw [hX126] at HC126
    have HX126 := hide hX126
    clear hX126
    go_wp2_with fail
    refine (unhide HC126).mono ?_
    rintro e w126 ⟨hb126, hR126, v126, rfl, hv126⟩
    have hY127 := unhide HY
    simp only [unhide HX126] at hY127
    replace HY := hide hY127
    clear hY127
    obtain ⟨i126, j126, s126, m126, b126, a126, n126, c126, rfl⟩ := hv126.form
    have HT126 := hide (hv126.keep (lo' := w.heap.size + 1) (Stays.of (Below.refl _ _)) (unhide HS))
    replace HB := hide ((unhide HB).trans hb126)
    replace HZ := hide ((unhide HZ).but hb126 hrne)
    replace HX3 := hide ((hb126.block _ (blk (unhide HX3)).1 (Ne.symm ne3)).trans (unhide HX3))
    replace HS := hide (Nat.lt_of_lt_of_le (unhide HS) hb126.size)
    replace HR := hide hR126
    clear hb126 hR126 hv126 HC126 HX126
    obtain ⟨y0, y1, y2, y3, y4, y5, y6⟩ := blk7 (unhide HZ)
    obtain ⟨z0, z1, z2, z3, z4, z5, z6⟩ := frz7 (unhide HZ)
    have HNode := hide (unhide HT126)
    go_wp2
    rw [← unhide HQQ]
    exact dret_put rfl rfl rfl (unhide HB) hr (unhide HZ) (unhide HY).symm (unhide HR) (Nat.lt_succ_self _) (unhide HNode)
end Go.Proofs.YtljhpbjngbbjbaaDoor
