/- Package parse: primaries. -/
import Derived.Test.YtfkfnbehdcmgeaaGreatDoorZAI
import Derived.Test.YtfkfnbehdcmgeaaGreatDoorZAH
set_option linter.unusedVariables false
set_option linter.unusedSimpArgs false

/- Package parse: parts. -/
namespace Go.Proofs.YtfkfnbehdcmgeaaGreatDoor
open Go Go.RowKit
set_option maxRecDepth 100000 in
set_option maxHeartbeats 8000000 in
theorem part_of {r d lo : Nat} {ts : List (Int × ByteArray × Int)} {g : Ru → Nat → Nat → (Except (Int × Int) (Ex × Nat))} (hT : TsOk ts) (hI : RuC 115 r ts d lo (impR ts g d)) {w : World} {p : Nat} (hlo : lo ≤ p) (hR : RD w r ts p d) : Calls Tryz.prog 112 #[.pointer (some ⟨r, 0, none⟩)] w (PE (partR ts g d p) r ts p d w) := by
  obtain ⟨Y, hY⟩ : ∃ Y, partR ts g d p = Y := ⟨_, rfl⟩
  rw [hY]
  unfold partR at hY
  have hr := hR.rlt
  obtain ⟨A, eA, hbA, hzA, hsA⟩ := zb_new w
  have HB := hide (But.of (r := r) hbA)
  have HR := hide (hR.keep hbA)
  have HZ := hide hzA
  have HS : Hid (w.heap.size < A.heap.size) := by show _ < _; omega
  have HL : Hid (p ≤ p ∧ lo ≤ p) := ⟨Nat.le_refl _, hlo⟩
  have HE := hide eA
  have HT := hide hT
  have HY := hide hY
  have hrne : r ≠ w.heap.size := by omega
  have hmf : ∀ (fn : Fn) (first cap : Array Value) (w : World), (Instr.makeFunc fn first cap).run Tryz.prog w = .ok (.func fn first cap) w := fun _ _ _ _ => rfl
  replace hI := hide hI
  clear hlo hR hbA hzA hsA eA hT hY
  go_enter Tryz.func112, Tryz.ntmps112
  have HC0 := hide (next_any (unhide HR) (unhide HT))
  unfold tkV at HC0
  obtain ⟨⟨kk0, T0, at0⟩, hN0⟩ : ∃ X, nx ts p = X := ⟨_, rfl⟩
  rw [hN0] at HC0
  have HN0 := hide hN0
  clear hN0
  go_wp2_with fail
  rw [unhide HE]
  refine (unhide HC0).mono ?_
  rintro e w0 ⟨rfl, hb0⟩
  have hbu1 := But.of (r := r) hb0
  replace HR := hide ((unhide HR).keep hb0)
  replace HB := hide ((unhide HB).trans hbu1)
  replace HZ := hide ((unhide HZ).but hbu1 hrne)
  replace HS := hide (Nat.lt_of_lt_of_le (unhide HS) hbu1.size)
  clear hb0 HC0
  obtain ⟨B2, eB2, hbB2, hsB2, hhB2⟩ := box_new w0 #[.int .i64 kk0, .string T0, .int .i64 at0] 74
  have ne2 : r ≠ w0.heap.size := by have := unhide HS; omega
  have HQHX2 := HS
  have hbu3 := But.of (r := r) hbB2
  replace HR := hide ((unhide HR).keep hbB2)
  replace HB := hide ((unhide HB).trans hbu3)
  replace HZ := hide ((unhide HZ).but hbu3 hrne)
  replace HS := hide (Nat.lt_of_lt_of_le (unhide HS) hbu3.size)
  have HX2 := hide hhB2
  have HEB2 := hide eB2
  have HSB2 := hide hsB2
  clear eB2 hbB2 hhB2 hsB2
  have u02 := (blk (unhide HX2)).2.1 0 _ rfl
  have u12 := (blk (unhide HX2)).2.1 1 _ rfl
  have u22 := (blk (unhide HX2)).2.1 2 _ rfl
  rw [← unhide HEB2] at u02 u12 u22
  by_cases hk1 : kk0 = 1
  · subst hk1
    have hp1 : p + 1 < ts.length := nx_kind (unhide HT) (unhide HR).lt (by rw [unhide HN0]; exact (by decide : (1 : Int) ≠ 0))
    have HC4 := hide (behind_any (unhide HR) (unhide HT) hp1)
    replace hp1 := hide hp1
    unfold tkV at HC4
    obtain ⟨⟨ku4, U4, au4⟩, hN4⟩ : ∃ X, nx ts (p + 1) = X := ⟨_, rfl⟩
    rw [hN4] at HC4
    have hu4 : txt ts (p + 1) = U4 := by unfold txt; rw [hN4]
    replace hu4 := hide hu4
    have HNb4 := hide hN4
    have hfb4 := fld1 (.int .i64 ku4) (.string U4) (.int .i64 au4)
    clear hN4
    go_wp2_with fail
    rw [unhide HEB2]
    refine (unhide HC4).mono ?_
    rintro e w4 ⟨rfl, hb4⟩
    have hbu5 := But.of (r := r) hb4
    replace HR := hide ((unhide HR).keep hb4)
    replace HB := hide ((unhide HB).trans hbu5)
    replace HZ := hide ((unhide HZ).but hbu5 hrne)
    replace HX2 := hide ((hbu5.block _ (blk (unhide HX2)).1 (Ne.symm ne2)).trans (unhide HX2))
    replace HS := hide (Nat.lt_of_lt_of_le (unhide HS) hbu5.size)
    clear hb4 HC4
    by_cases hT4 : U4 = ⟨#[58, 61]⟩
    · have e4 : (U4.toList == [58, 61]) = true := (eqb U4 ⟨#[58, 61]⟩ [58, 61] rfl).mp hT4
      have hub : txt ts (p + 1) = ⟨#[58, 61]⟩ := (unhide hu4).trans hT4
      replace hub := hide hub
      clear hT4
      have hY6 := unhide HY
      rw [if_pos ⟨by rw [unhide HN0], unhide hub⟩] at hY6
      replace HY := hide hY6
      clear hY6
      have HC7 := hide (take_any (unhide HR) (unhide HT) (unhide hp1))
      unfold tkV at HC7
      obtain ⟨⟨kk7, T7, at7⟩, hN7⟩ : ∃ X, nx ts p = X := ⟨_, rfl⟩
      rw [hN7] at HC7
      have HN7 := hide hN7
      clear hN7
      go_wp2_with fail
      refine (unhide HC7).mono ?_
      rintro e w7 ⟨rfl, hb7, hR7⟩
      replace HB := hide ((unhide HB).trans hb7)
      replace HZ := hide ((unhide HZ).but hb7 hrne)
      replace HX2 := hide ((hb7.block _ (blk (unhide HX2)).1 (Ne.symm ne2)).trans (unhide HX2))
      replace HS := hide (Nat.lt_of_lt_of_le (unhide HS) hb7.size)
      replace HR := hide hR7
      replace HL : Hid (p ≤ p + 1 ∧ lo + 1 ≤ p + 1) := And.intro (Nat.le_succ_of_le (unhide HL).1) (Nat.succ_le_succ (unhide HL).2)
      clear hb7 hR7 HC7
      have HC8 := hide (must_any (unhide HR) (unhide HT) (s := ⟨#[58, 61]⟩) (by decide))
      have hm8 : mustR ts ⟨#[58, 61]⟩ (p + 1) = .ok ((), p + 1 + 1) := by unfold mustR sees; rw [unhide hub]; rfl
      rw [hm8] at HC8
      clear hm8
      go_wp2_with fail
      refine (unhide HC8).mono ?_
      rintro e w8 ⟨hb8, hle8, hR8, v8, rfl, hv8⟩
      obtain rfl : v8 = _ := hv8
      replace HB := hide ((unhide HB).trans hb8)
      replace HZ := hide ((unhide HZ).but hb8 hrne)
      replace HX2 := hide ((hb8.block _ (blk (unhide HX2)).1 (Ne.symm ne2)).trans (unhide HX2))
      replace HS := hide (Nat.lt_of_lt_of_le (unhide HS) hb8.size)
      replace HR := hide hR8
      replace HL := hide (And.intro (Nat.le_trans (unhide HL).1 hle8) (Nat.le_trans (unhide HL).2 hle8))
      clear hb8 hle8 hR8 HC8
      have HC9 := hide (unhide hI w8.drew (p + 1 + 1) (Nat.le_of_succ_le (unhide HL).2) ((unhide HR).keep ((Below.refl _ w8).drew)))
      go_wp2_with fail
      have n39 : w0.heap.size ≠ w.heap.size := by have := unhide HQHX2; omega
      refine part_r5 (X := impR ts g d (p + 1 + 1)) rfl rfl rfl rfl (unhide HX2) (unhide HZ) ne2 hrne n39 (unhide HC9) ?_ ?_
      · intro a w9 ei en hX hd hb
        have hYe : Y = .error (ei, en) := by have h := unhide HY; rw [hX] at h; exact h.symm
        subst hYe
        exact ⟨hd, (unhide HB).trans hb, rfl⟩
      · intro a W2 t q b hX hd hk hb hR hle hv
        have hY9 := unhide HY
        rw [hX] at hY9
        simp only [thenR, txt] at hY9
        rw [unhide HN0] at hY9
        have HF := hide (And.intro hd (And.intro ((hk 2 (by decide)).trans rfl) (And.intro ((unhide HB).trans hb) (And.intro ((unhide HZ).but hb hrne) (And.intro hR (And.intro (Nat.le_trans (unhide HL).1 hle) (And.intro hY9 hv)))))))
        clear hd hk hb hR hle hY9 hX hv
        go_wp2
        obtain ⟨hd, h2, hb, hz, hR, hle, hY9, hv⟩ := unhide HF
        exact ret_put rfl h2 hd hb hr hz hY9.symm hle hR (unhide HS) hv
    · have e4 : (U4.toList == [58, 61]) = false := by have h := hT4; rw [eqb U4 ⟨#[58, 61]⟩ [58, 61] rfl] at h; simpa using h
      have hub : ¬ txt ts (p + 1) = ⟨#[58, 61]⟩ := fun h => hT4 ((unhide hu4).symm.trans h)
      replace hub := hide hub
      clear hT4
      have hY10 := unhide HY
      rw [if_neg (fun h => unhide hub h.2)] at hY10
      replace HY := hide hY10
      clear hY10
      have HC11 := hide (takeIf_any (unhide HR) (unhide HT) (s := ⟨#[114, 97, 105, 115, 101]⟩) (by decide))
      obtain ⟨bo11, hbo11⟩ : ∃ b, sees ts (p) ⟨#[114, 97, 105, 115, 101]⟩ = b := ⟨_, rfl⟩
      rw [hbo11] at HC11
      have hY11 := unhide HY
      rw [hbo11] at hY11
      replace HY := hide hY11
      have HO11 := hide hbo11
      clear hY11 hbo11
      go_wp2_with fail
      refine (unhide HC11).mono ?_
      rintro e w11 ⟨rfl, hb11, hR11⟩
      replace HB := hide ((unhide HB).trans hb11)
      replace HZ := hide ((unhide HZ).but hb11 hrne)
      replace HX2 := hide ((hb11.block _ (blk (unhide HX2)).1 (Ne.symm ne2)).trans (unhide HX2))
      replace HS := hide (Nat.lt_of_lt_of_le (unhide HS) hb11.size)
      replace HR := hide hR11
      clear hb11 hR11 HC11
      rcases bo11 with _ | _
      rotate_left
      · have hY11 := unhide HY
        simp only [if_true] at hY11
        replace HY := hide hY11
        have hRR := unhide HR
        rw [if_pos rfl] at hRR
        replace HR := hide hRR
        clear hY11 hRR
        replace HL : Hid (p ≤ p + 1 ∧ lo + 1 ≤ p + 1) := And.intro (Nat.le_succ_of_le (unhide HL).1) (Nat.succ_le_succ (unhide HL).2)
        have HC12 := hide (unhide hI w11.drew (p + 1) (Nat.le_of_succ_le (unhide HL).2) ((unhide HR).keep ((Below.refl _ w11).drew)))
        go_wp2_with fail
        have n312 : w0.heap.size ≠ w.heap.size := by have := unhide HQHX2; omega
        refine part_r7 (X := impR ts g d (p + 1)) rfl rfl rfl rfl (unhide HX2) (unhide HZ) ne2 hrne n312 (unhide HC12) ?_ ?_
        · intro a w9 ei en hX hd hb
          have hYe : Y = .error (ei, en) := by have h := unhide HY; rw [hX] at h; exact h.symm
          subst hYe
          exact ⟨hd, (unhide HB).trans hb, rfl⟩
        · intro a W2 t q b hX hd hk hb hR hle hv
          have hY9 := unhide HY
          rw [hX] at hY9
          simp only [thenR, txt] at hY9
          rw [unhide HN0] at hY9
          have HF := hide (And.intro hd (And.intro ((hk 2 (by decide)).trans rfl) (And.intro ((unhide HB).trans hb) (And.intro ((unhide HZ).but hb hrne) (And.intro hR (And.intro (Nat.le_trans (unhide HL).1 hle) (And.intro hY9 hv)))))))
          clear hd hk hb hR hle hY9 hX hv
          go_wp2
          obtain ⟨hd, h2, hb, hz, hR, hle, hY9, hv⟩ := unhide HF
          exact ret_put rfl h2 hd hb hr hz hY9.symm hle hR (unhide HS) hv
      have hY11 := unhide HY
      simp only [Bool.false_eq_true, if_false] at hY11
      replace HY := hide hY11
      have hRR := unhide HR
      rw [if_neg Bool.false_ne_true] at hRR
      replace HR := hide hRR
      clear hY11 hRR
      have HC13 := hide (takeIf_any (unhide HR) (unhide HT) (s := ⟨#[97, 115, 115, 101, 114, 116]⟩) (by decide))
      obtain ⟨bo13, hbo13⟩ : ∃ b, sees ts (p) ⟨#[97, 115, 115, 101, 114, 116]⟩ = b := ⟨_, rfl⟩
      rw [hbo13] at HC13
      have hY13 := unhide HY
      rw [hbo13] at hY13
      replace HY := hide hY13
      have HO13 := hide hbo13
      clear hY13 hbo13
      go_wp2_with fail
      refine (unhide HC13).mono ?_
      rintro e w13 ⟨rfl, hb13, hR13⟩
      replace HB := hide ((unhide HB).trans hb13)
      replace HZ := hide ((unhide HZ).but hb13 hrne)
      replace HX2 := hide ((hb13.block _ (blk (unhide HX2)).1 (Ne.symm ne2)).trans (unhide HX2))
      replace HS := hide (Nat.lt_of_lt_of_le (unhide HS) hb13.size)
      replace HR := hide hR13
      clear hb13 hR13 HC13
      rcases bo13 with _ | _
      rotate_left
      · have hY13 := unhide HY
        simp only [if_true] at hY13
        replace HY := hide hY13
        have hRR := unhide HR
        rw [if_pos rfl] at hRR
        replace HR := hide hRR
        clear hY13 hRR
        replace HL : Hid (p ≤ p + 1 ∧ lo + 1 ≤ p + 1) := And.intro (Nat.le_succ_of_le (unhide HL).1) (Nat.succ_le_succ (unhide HL).2)
        have HC14 := hide (unhide hI w13.drew (p + 1) (Nat.le_of_succ_le (unhide HL).2) ((unhide HR).keep ((Below.refl _ w13).drew)))
        go_wp2_with fail
        have n314 : w0.heap.size ≠ w.heap.size := by have := unhide HQHX2; omega
        refine part_r9 (X := impR ts g d (p + 1)) rfl rfl rfl rfl (unhide HX2) (unhide HZ) ne2 hrne n314 (unhide HC14) ?_ ?_
        · intro a w9 ei en hX hd hb
          have hYe : Y = .error (ei, en) := by have h := unhide HY; rw [hX] at h; exact h.symm
          subst hYe
          exact ⟨hd, (unhide HB).trans hb, rfl⟩
        · intro a W2 t q b hX hd hk hb hR hle hv
          have hY9 := unhide HY
          rw [hX] at hY9
          simp only [thenR, txt] at hY9
          rw [unhide HN0] at hY9
          have HF := hide (And.intro hd (And.intro ((hk 2 (by decide)).trans rfl) (And.intro ((unhide HB).trans hb) (And.intro ((unhide HZ).but hb hrne) (And.intro hR (And.intro (Nat.le_trans (unhide HL).1 hle) (And.intro hY9 hv)))))))
          clear hd hk hb hR hle hY9 hX hv
          go_wp2
          obtain ⟨hd, h2, hb, hz, hR, hle, hY9, hv⟩ := unhide HF
          exact ret_put rfl h2 hd hb hr hz hY9.symm hle hR (unhide HS) hv
      have hY13 := unhide HY
      simp only [Bool.false_eq_true, if_false] at hY13
      replace HY := hide hY13
      have hRR := unhide HR
      rw [if_neg Bool.false_ne_true] at hRR
      replace HR := hide hRR
      clear hY13 hRR
      have HC15 := hide (unhide hI w13 (p) (unhide HL).2 (unhide HR))
      go_wp2_with fail
      refine (unhide HC15).mono ?_
      intro e w15 h15
      rcases hX15 : impR ts g d (p) with er | ⟨t15, q15⟩
      · rw [hX15] at h15
        obtain ⟨ei, en⟩ := er
        have hYe : Y = .error (ei, en) := by have h := unhide HY; rw [hX15] at h; exact h.symm
        subst hYe
        obtain ⟨hb15, h15⟩ := h15
        obtain rfl : e = _ := h15
        have HP := hide ((unhide HB).trans hb15)
        clear hb15 HC15 hX15
        go_wp2
        exact ⟨rfl, unhide HP, rfl⟩
      rw [hX15] at h15
      obtain ⟨hb15, hle15, hR15, v15, rfl, hv15⟩ := h15
      have hY15 := unhide HY
      rw [hX15] at hY15
      replace HY := hide hY15
      clear hY15
      obtain ⟨i15, j15, s15, m15, b15, a15, n15, c15, rfl⟩ := hv15.form
      have HT15 := hide (hv15.keep (lo' := w.heap.size + 1) (Stays.of (Below.refl _ _)) (unhide HS))
      replace HB := hide ((unhide HB).trans hb15)
      replace HZ := hide ((unhide HZ).but hb15 hrne)
      replace HX2 := hide ((hb15.block _ (blk (unhide HX2)).1 (Ne.symm ne2)).trans (unhide HX2))
      replace HS := hide (Nat.lt_of_lt_of_le (unhide HS) hb15.size)
      replace HR := hide hR15
      replace HL := hide (And.intro (Nat.le_trans (unhide HL).1 hle15) (Nat.le_trans (unhide HL).2 hle15))
      clear hb15 hle15 hR15 hv15 HC15 hX15
      obtain ⟨y0, y1, y2, y3, y4, y5, y6⟩ := blk7 (unhide HZ)
      obtain ⟨z0, z1, z2, z3, z4, z5, z6⟩ := frz7 (unhide HZ)
      have HNode := hide (unhide HT15)
      go_wp2
      exact ret_put rfl rfl rfl (unhide HB) hr (unhide HZ) (by have h := unhide HY; exact h.symm) (unhide HL).1 (unhide HR) (Nat.lt_succ_self _) (unhide HNode)
  · have ek1 : (kk0 == 1) = false := by simpa using hk1
    have ek2 : decide (kk0 = 1) = false := by simpa using hk1
    have hY16 := unhide HY
    rw [if_neg (fun h => hk1 (by have h1 := h.1; rw [unhide HN0] at h1; exact h1))] at hY16
    replace HY := hide hY16
    clear hY16
    have HC17 := hide (takeIf_any (unhide HR) (unhide HT) (s := ⟨#[114, 97, 105, 115, 101]⟩) (by decide))
    obtain ⟨bo17, hbo17⟩ : ∃ b, sees ts (p) ⟨#[114, 97, 105, 115, 101]⟩ = b := ⟨_, rfl⟩
    rw [hbo17] at HC17
    have hY17 := unhide HY
    rw [hbo17] at hY17
    replace HY := hide hY17
    have HO17 := hide hbo17
    clear hY17 hbo17
    go_wp2_with fail
    rw [unhide HEB2]
    refine (unhide HC17).mono ?_
    rintro e w17 ⟨rfl, hb17, hR17⟩
    replace HB := hide ((unhide HB).trans hb17)
    replace HZ := hide ((unhide HZ).but hb17 hrne)
    replace HX2 := hide ((hb17.block _ (blk (unhide HX2)).1 (Ne.symm ne2)).trans (unhide HX2))
    replace HS := hide (Nat.lt_of_lt_of_le (unhide HS) hb17.size)
    replace HR := hide hR17
    clear hb17 hR17 HC17
    rcases bo17 with _ | _
    rotate_left
    · have hY17 := unhide HY
      simp only [if_true] at hY17
      replace HY := hide hY17
      have hRR := unhide HR
      rw [if_pos rfl] at hRR
      replace HR := hide hRR
      clear hY17 hRR
      replace HL : Hid (p ≤ p + 1 ∧ lo + 1 ≤ p + 1) := And.intro (Nat.le_succ_of_le (unhide HL).1) (Nat.succ_le_succ (unhide HL).2)
      have HC18 := hide (unhide hI w17.drew (p + 1) (Nat.le_of_succ_le (unhide HL).2) ((unhide HR).keep ((Below.refl _ w17).drew)))
      go_wp2_with fail
      have n318 : w0.heap.size ≠ w.heap.size := by have := unhide HQHX2; omega
      refine part_r7 (X := impR ts g d (p + 1)) rfl rfl rfl rfl (unhide HX2) (unhide HZ) ne2 hrne n318 (unhide HC18) ?_ ?_
      · intro a w9 ei en hX hd hb
        have hYe : Y = .error (ei, en) := by have h := unhide HY; rw [hX] at h; exact h.symm
        subst hYe
        exact ⟨hd, (unhide HB).trans hb, rfl⟩
      · intro a W2 t q b hX hd hk hb hR hle hv
        have hY9 := unhide HY
        rw [hX] at hY9
        simp only [thenR, txt] at hY9
        rw [unhide HN0] at hY9
        have HF := hide (And.intro hd (And.intro ((hk 2 (by decide)).trans rfl) (And.intro ((unhide HB).trans hb) (And.intro ((unhide HZ).but hb hrne) (And.intro hR (And.intro (Nat.le_trans (unhide HL).1 hle) (And.intro hY9 hv)))))))
        clear hd hk hb hR hle hY9 hX hv
        go_wp2
        obtain ⟨hd, h2, hb, hz, hR, hle, hY9, hv⟩ := unhide HF
        exact ret_put rfl h2 hd hb hr hz hY9.symm hle hR (unhide HS) hv
    have hY17 := unhide HY
    simp only [Bool.false_eq_true, if_false] at hY17
    replace HY := hide hY17
    have hRR := unhide HR
    rw [if_neg Bool.false_ne_true] at hRR
    replace HR := hide hRR
    clear hY17 hRR
    have HC19 := hide (takeIf_any (unhide HR) (unhide HT) (s := ⟨#[97, 115, 115, 101, 114, 116]⟩) (by decide))
    obtain ⟨bo19, hbo19⟩ : ∃ b, sees ts (p) ⟨#[97, 115, 115, 101, 114, 116]⟩ = b := ⟨_, rfl⟩
    rw [hbo19] at HC19
    have hY19 := unhide HY
    rw [hbo19] at hY19
    replace HY := hide hY19
    have HO19 := hide hbo19
    clear hY19 hbo19
    go_wp2_with fail
    refine (unhide HC19).mono ?_
    rintro e w19 ⟨rfl, hb19, hR19⟩
    replace HB := hide ((unhide HB).trans hb19)
    replace HZ := hide ((unhide HZ).but hb19 hrne)
    replace HX2 := hide ((hb19.block _ (blk (unhide HX2)).1 (Ne.symm ne2)).trans (unhide HX2))
    replace HS := hide (Nat.lt_of_lt_of_le (unhide HS) hb19.size)
    replace HR := hide hR19
    clear hb19 hR19 HC19
    rcases bo19 with _ | _
    rotate_left
    · have hY19 := unhide HY
      simp only [if_true] at hY19
      replace HY := hide hY19
      have hRR := unhide HR
      rw [if_pos rfl] at hRR
      replace HR := hide hRR
      clear hY19 hRR
      replace HL : Hid (p ≤ p + 1 ∧ lo + 1 ≤ p + 1) := And.intro (Nat.le_succ_of_le (unhide HL).1) (Nat.succ_le_succ (unhide HL).2)
      have HC20 := hide (unhide hI w19.drew (p + 1) (Nat.le_of_succ_le (unhide HL).2) ((unhide HR).keep ((Below.refl _ w19).drew)))
      go_wp2_with fail
      have n320 : w0.heap.size ≠ w.heap.size := by have := unhide HQHX2; omega
      refine part_r9 (X := impR ts g d (p + 1)) rfl rfl rfl rfl (unhide HX2) (unhide HZ) ne2 hrne n320 (unhide HC20) ?_ ?_
      · intro a w9 ei en hX hd hb
        have hYe : Y = .error (ei, en) := by have h := unhide HY; rw [hX] at h; exact h.symm
        subst hYe
        exact ⟨hd, (unhide HB).trans hb, rfl⟩
      · intro a W2 t q b hX hd hk hb hR hle hv
        have hY9 := unhide HY
        rw [hX] at hY9
        simp only [thenR, txt] at hY9
        rw [unhide HN0] at hY9
        have HF := hide (And.intro hd (And.intro ((hk 2 (by decide)).trans rfl) (And.intro ((unhide HB).trans hb) (And.intro ((unhide HZ).but hb hrne) (And.intro hR (And.intro (Nat.le_trans (unhide HL).1 hle) (And.intro hY9 hv)))))))
        clear hd hk hb hR hle hY9 hX hv
        go_wp2
        obtain ⟨hd, h2, hb, hz, hR, hle, hY9, hv⟩ := unhide HF
        exact ret_put rfl h2 hd hb hr hz hY9.symm hle hR (unhide HS) hv
    have hY19 := unhide HY
    simp only [Bool.false_eq_true, if_false] at hY19
    replace HY := hide hY19
    have hRR := unhide HR
    rw [if_neg Bool.false_ne_true] at hRR
    replace HR := hide hRR
    clear hY19 hRR
    have HC21 := hide (unhide hI w19 (p) (unhide HL).2 (unhide HR))
    go_wp2_with fail
    refine (unhide HC21).mono ?_
    intro e w21 h21
    rcases hX21 : impR ts g d (p) with er | ⟨t21, q21⟩
    · rw [hX21] at h21
      obtain ⟨ei, en⟩ := er
      have hYe : Y = .error (ei, en) := by have h := unhide HY; rw [hX21] at h; exact h.symm
      subst hYe
      obtain ⟨hb21, h21⟩ := h21
      obtain rfl : e = _ := h21
      have HP := hide ((unhide HB).trans hb21)
      clear hb21 HC21 hX21
      go_wp2
      exact ⟨rfl, unhide HP, rfl⟩
    rw [hX21] at h21
    obtain ⟨hb21, hle21, hR21, v21, rfl, hv21⟩ := h21
    have hY21 := unhide HY
    rw [hX21] at hY21
    replace HY := hide hY21
    clear hY21
    obtain ⟨i21, j21, s21, m21, b21, a21, n21, c21, rfl⟩ := hv21.form
    have HT21 := hide (hv21.keep (lo' := w.heap.size + 1) (Stays.of (Below.refl _ _)) (unhide HS))
    replace HB := hide ((unhide HB).trans hb21)
    replace HZ := hide ((unhide HZ).but hb21 hrne)
    replace HX2 := hide ((hb21.block _ (blk (unhide HX2)).1 (Ne.symm ne2)).trans (unhide HX2))
    replace HS := hide (Nat.lt_of_lt_of_le (unhide HS) hb21.size)
    replace HR := hide hR21
    replace HL := hide (And.intro (Nat.le_trans (unhide HL).1 hle21) (Nat.le_trans (unhide HL).2 hle21))
    clear hb21 hle21 hR21 hv21 HC21 hX21
    obtain ⟨y0, y1, y2, y3, y4, y5, y6⟩ := blk7 (unhide HZ)
    obtain ⟨z0, z1, z2, z3, z4, z5, z6⟩ := frz7 (unhide HZ)
    have HNode := hide (unhide HT21)
    go_wp2
    exact ret_put rfl rfl rfl (unhide HB) hr (unhide HZ) (by have h := unhide HY; exact h.symm) (unhide HL).1 (unhide HR) (Nat.lt_succ_self _) (unhide HNode)
end Go.Proofs.YtfkfnbehdcmgeaaGreatDoor

/- Package parse: the drawn region in which a number is made. -/
namespace Go.Proofs.YtfkfnbehdcmgeaaGreatDoor
open Go Go.RowKit
section
variable {X : Exit → Act → World → Prop} {K : Act → World → Prop} {a : Act} {w : World} {dst : Option Tmp} {ty : TypeId} {pos : String} {af : Array Edge} {gd : Option (Nat × Bool)}
set_option maxRecDepth 100000 in
set_option maxHeartbeats 4000000 in
theorem op_bldN {k1 k2 : Nat} {T : ByteArray} {ai : Int} (h1 : a.tmps.getD k1 undef = .string T) (h2 : a.tmps.getD k2 undef = .int .i64 ai) (h : K (a.put dst (.agg #[.int .i64 1, .string ⟨#[]⟩, .string T, .bool false, .slice none 0 0, .int .i64 0, .int .i64 ai])) w) : Oper.wp Tryz.prog ⟨dst, .build 36 #[(0, .const (.int .i64 1)), (2, .tmp k1), (6, .tmp k2)], ty, pos, af, gd⟩ a w K X := by
  have e1 : a.eval (.tmp k1) = .string T := h1
  have e2 : a.eval (.tmp k2) = .int .i64 ai := h2
  have e3 : a.eval (.const (.int .i64 1)) = .int .i64 1 := rfl
  unfold Oper.wp
  simp only [execOp, List.map_toArray, List.map_cons, List.map_nil, e1, e2, e3]
  go_simp
  exact h
end
def stN (W : World) (r : Nat) (ts : List (Int × ByteArray × Int)) (p d q6 : Nat) (ai : Int) (T : ByteArray) (n : Nat) (_ : Nat → Value) (w : World) : Prop := match n with
  | 0 => w = W.drew
  | 1 => But r W w ∧ RD w r ts (p + 1) d
  | _ => ∃ W2, But r W W2 ∧ RD W2 r ts (p + 1) d ∧ w = set7 W2 q6 (.int .i64 1) (.string ⟨#[]⟩) (.string T) (.bool false) (.slice none 0 0) (.int .i64 0) (.int .i64 ai)
theorem stN_at {W : World} {r p d q6 : Nat} {ts : List (Int × ByteArray × Int)} {ai : Int} {T : ByteArray} {n : Nat} {s : Nat → Value} {w : World} (h : stN W r ts p d q6 ai T n s w) : ∀ q, q < W.heap.size → q ≠ q6 → r ≠ q → w.heap[q]? = W.heap[q]? := by
  intro q3 hq hne hr
  rcases n with _ | _ | n
  · obtain rfl : w = W.drew := h
    rfl
  · exact h.1.block q3 hq (Ne.symm hr)
  · obtain ⟨W2, hb, -, rfl⟩ := h
    unfold set7
    rw [same7 hne]
    exact hb.block q3 hq (Ne.symm hr)
def spN (r q3 : Nat) (kk ai : Int) (T : ByteArray) : List Value := [.pointer (some ⟨r, 0, none⟩), .agg #[.int .i64 kk, .string T, .int .i64 ai], .string T, .pointer (some ⟨q3, 2, none⟩), .int .i64 ai, .agg #[.int .i64 1, .string ⟨#[]⟩, .string T, .bool false, .slice none 0 0, .int .i64 0, .int .i64 ai]]
set_option maxRecDepth 100000 in
set_option maxHeartbeats 4000000 in
theorem prim_r3 {Q : Exit → Act → World → Prop} {a0 : Act} {W : World} {r p d q3 q6 : Nat} {ts : List (Int × ByteArray × Int)} {kk ai : Int} {T : ByteArray} (hN : a0.tmps.size = 50) (h0 : a0.tmps[0]? = some (.pointer (some ⟨r, 0, none⟩))) (h2 : a0.tmps[2]? = some (.pointer (some ⟨q6, 0, none⟩))) (h3 : a0.tmps[3]? = some (.pointer (some ⟨q3, 0, none⟩)))
    (b3 : W.heap[q3]? = some (.cells #[.int .i64 kk, .string T, .int .i64 ai] 74)) (z6 : ZB W q6) (n1 : r ≠ q3) (n2 : r ≠ q6) (n3 : q3 ≠ q6) (hC : Calls Tryz.prog 87 #[.pointer (some ⟨r, 0, none⟩)] W.drew fun e w' => e = .returned (.agg #[.int .i64 kk, .string T, .int .i64 ai]) ∧ But r W.drew w' ∧ RD w' r ts (p + 1) d)
    (hend : ∀ (a : Act) (W2 : World), a.defers = a0.defers → (∀ k, k ∈ ((List.range 50).filter fun i => !([10, 11, 12, 13, 14, 15].contains i)) → a.tmps[k]? = a0.tmps[k]?) → But r W W2 → RD W2 r ts (p + 1) d → Q .normal a (set7 W2 q6 (.int .i64 1) (.string ⟨#[]⟩) (.string T) (.bool false) (.slice none 0 0) (.int .i64 0) (.int .i64 ai))) :
    (Code.region 3 (regionOf Tryz.f128 3).toArray true).wp Tryz.prog Q a0 W := by
  have hl : (regionOf Tryz.f128 3).length = 7 := by kernel_rfl
  have hds : ((List.range 6).all fun i => ((regionOf Tryz.f128 3).getD i default).dst.isSome) = true := by kernel_rfl
  have bx : ∀ {n : Nat} {s : Nat → Value} {w : World}, stN W r ts p d q6 ai T n s w → w.heap[q3]? = some (.cells #[.int .i64 kk, .string T, .int .i64 ai] 74) := fun h => (stN_at h q3 (blk b3).1 n3 n1).trans b3
  have hk3 : 3 ∈ ((List.range 50).filter fun i => !([10, 11, 12, 13, 14, 15].contains i)) := by decide
  have hk2 : 2 ∈ ((List.range 50).filter fun i => !([10, 11, 12, 13, 14, 15].contains i)) := by decide
  have hk0 : 0 ∈ ((List.range 50).filter fun i => !([10, 11, 12, 13, 14, 15].contains i)) := by decide
  refine wp_region_any (by kernel_rfl) ?_
  refine seqN (l := (regionOf Tryz.f128 3)) 50 ((List.range 50).filter fun i => !([10, 11, 12, 13, 14, 15].contains i)) [1, 6] (fun j v => j < 6 → v = (spN r q3 kk ai T).getD j undef) (stN W r ts p d q6 ai T) (by kernel_rfl) hN (by decide) (by rw [hl]; decide) ?_ ?_ ?_ rfl ?_ ?_ ?_
  · intro k hk
    have hk3 : k = 0 := by simp at hk; omega
    subst hk3
    show (preds ((regionOf Tryz.f128 3).getD 6 default)).contains 1 = true
    kernel_rfl
  · intro i o ho hd
    have hi : i < 7 := by rw [← hl]; exact (List.getElem?_eq_some_iff.1 ho).1
    have he : (regionOf Tryz.f128 3).getD i default = o := by simp [List.getD, ho]
    rcases Nat.lt_or_ge i 6 with h | h
    · have := List.all_eq_true.1 hds i (List.mem_range.2 h)
      rw [he, hd] at this
      cases this
    · obtain rfl : i = 6 := by omega
      exact ⟨by decide, fun v h => absurd h (by decide)⟩
  · intro n s s' w h hs
    exact hs
  · intro i hi hni a w n s hd hsz hk hp hn hs
    rw [hl] at hi
    have hii : i = 0 ∨ i = 2 ∨ i = 3 ∨ i = 4 ∨ i = 5 := by simp at hni; omega
    have ke3 : a.eval (.tmp 3) = .pointer (some ⟨q3, 0, none⟩) := getD_of ((hk 3 hk3).trans h3)
    have ke0 : a.eval (.tmp 0) = .pointer (some ⟨r, 0, none⟩) := getD_of ((hk 0 hk0).trans h0)
    have cc := bx hs
    rcases hii with rfl | rfl | rfl | rfl | rfl
    · exact st_want (wnone rfl) (op_move ⟨_, rfl, rfl, fun _ => ke0⟩)
    · have e2 : a.eval (.tmp 11) = .agg #[.int .i64 kk, .string T, .int .i64 ai] := hp 1 (by kernel_rfl) (by decide)
      exact st_want (wnone rfl) (op_fieldV e2 (fld1 _ _ _ w) ⟨_, rfl, rfl, fun _ => rfl⟩)
    · exact st_want (wnone rfl) (op_fieldAddr ke3 (fa_tok q3 2 w (by omega)) ⟨_, rfl, rfl, fun _ => rfl⟩)
    · have e1 : a.eval (.tmp 13) = .pointer (some ⟨q3, 2, none⟩) := hp 3 (by kernel_rfl) (by decide)
      exact st_want (wnone rfl) (op_load e1 (ld_int ((blk cc).2.1 2 _ rfl)) ⟨_, rfl, rfl, fun _ => rfl⟩)
    · have e1 : a.tmps.getD 12 undef = .string T := hp 2 (by kernel_rfl) (by decide)
      have e2 : a.tmps.getD 14 undef = .int .i64 ai := hp 4 (by kernel_rfl) (by decide)
      exact st_want (wnone rfl) (op_bldN e1 e2 ⟨_, rfl, rfl, fun _ => rfl⟩)
  · intro k hk a w hd hsz hkp hp hs
    have hk4 : k = 0 ∨ k = 1 := by simp at hk; omega
    have ke2 : a.tmps.getD 2 undef = .pointer (some ⟨q6, 0, none⟩) := getD_of ((hkp 2 hk2).trans h2)
    rcases hk4 with rfl | rfl
    · obtain rfl : w = W.drew := hs
      have e1 : a.tmps.getD 10 undef = .pointer (some ⟨r, 0, none⟩) := hp 0 (by kernel_rfl) (by decide)
      refine st_want (wnone rfl) (op_call enter_take ?_)
      have hargs : (#[Operand.tmp 10]).map a.eval = #[.pointer (some ⟨r, 0, none⟩)] := by
        simp only [List.map_toArray, List.map_cons, List.map_nil, Act.eval]
        rw [e1]
      rw [hargs]
      refine hC.mono ?_
      rintro e w' ⟨rfl, hb, hR⟩
      exact ⟨_, rfl, _, rfl, (fun _ _ => rfl), ((But.of ((Below.refl _ W).drew)).trans hb), hR⟩
    · obtain ⟨hb, hR⟩ := hs
      have e2 : a.tmps.getD 15 undef = .agg #[.int .i64 1, .string ⟨#[]⟩, .string T, .bool false, .slice none 0 0, .int .i64 0, .int .i64 ai] := hp 5 (by kernel_rfl) (by decide)
      have hz : ZB w q6 := (hb.block q6 (blk z6).1 (Ne.symm n2)).trans z6
      exact st_want (wnone rfl) (op_stE ke2 e2 hz ⟨undef, rfl, (fun h => absurd (show false = true from h) (by decide)), w, hb, hR, rfl⟩)
  · intro a w hd hsz hk hp hs
    obtain ⟨W2, hb, hR, rfl⟩ := hs
    exact hend a W2 hd hk hb hR
end Go.Proofs.YtfkfnbehdcmgeaaGreatDoor

namespace Go.Proofs.YtfkfnbehdcmgeaaGreatDoor
open Go Go.RowKit
set_option maxRecDepth 100000 in
set_option maxHeartbeats 8000000 in
theorem primary_of {r d lo : Nat} {ts : List (Int × ByteArray × Int)} {g : Ru → Nat → Nat → (Except (Int × Int) (Ex × Nat))} (hT : TsOk ts) (hBr : ∀ (w : World) (p : Nat) (kk ai : Int) (T : ByteArray), lo + 1 ≤ p → RD w r ts p d → Calls Tryz.prog 129 #[.pointer (some ⟨r, 0, none⟩), .agg #[.int .i64 kk, .string T, .int .i64 ai]] w (PE (brackR ts g d ai p) r ts p d w)) (hCa : ∀ (w : World) (p : Nat), lo ≤ p → p + 1 < ts.length → txt ts (p + 1) = ⟨#[40]⟩ → RD w r ts p d → Calls Tryz.prog 130 #[.pointer (some ⟨r, 0, none⟩)] w (PE (callR ts g d p) r ts p d w)) {w : World} {p : Nat} (hlo : lo ≤ p) (hR : RD w r ts p d) : Calls Tryz.prog 128 #[.pointer (some ⟨r, 0, none⟩)] w (PE (primR ts g d p) r ts p d w) := by
  obtain ⟨Y, hY⟩ : ∃ Y, primR ts g d p = Y := ⟨_, rfl⟩
  rw [hY]
  unfold primR at hY
  have hr := hR.rlt
  obtain ⟨A, eA, hbA, hzA, hsA⟩ := zb_new w
  have HB := hide (But.of (r := r) hbA)
  have HR := hide (hR.keep hbA)
  have HZ := hide hzA
  have HS : Hid (w.heap.size < A.heap.size) := by show _ < _; omega
  have HL : Hid (p ≤ p ∧ lo ≤ p) := ⟨Nat.le_refl _, hlo⟩
  have HE := hide eA
  have HT := hide hT
  have HY := hide hY
  have hrne : r ≠ w.heap.size := by omega
  have hmf : ∀ (fn : Fn) (first cap : Array Value) (w : World), (Instr.makeFunc fn first cap).run Tryz.prog w = .ok (.func fn first cap) w := fun _ _ _ _ => rfl
  replace hBr := hide hBr
  replace hCa := hide hCa
  clear hlo hR hbA hzA hsA eA hT hY
  go_enter Tryz.func128, Tryz.ntmps128
  have HC0 := hide (next_any (unhide HR) (unhide HT))
  unfold tkV at HC0
  obtain ⟨⟨kk0, T0, at0⟩, hN0⟩ : ∃ X, nx ts p = X := ⟨_, rfl⟩
  rw [hN0] at HC0
  have HN0 := hide hN0
  clear hN0
  go_wp2_with fail
  rw [unhide HE]
  refine (unhide HC0).mono ?_
  rintro e w0 ⟨rfl, hb0⟩
  have hbu1 := But.of (r := r) hb0
  replace HR := hide ((unhide HR).keep hb0)
  replace HB := hide ((unhide HB).trans hbu1)
  replace HZ := hide ((unhide HZ).but hbu1 hrne)
  replace HS := hide (Nat.lt_of_lt_of_le (unhide HS) hbu1.size)
  clear hb0 HC0
  obtain ⟨B2, eB2, hbB2, hsB2, hhB2⟩ := box_new w0 #[.int .i64 kk0, .string T0, .int .i64 at0] 74
  have ne2 : r ≠ w0.heap.size := by have := unhide HS; omega
  have HQHX2 := HS
  have hbu3 := But.of (r := r) hbB2
  replace HR := hide ((unhide HR).keep hbB2)
  replace HB := hide ((unhide HB).trans hbu3)
  replace HZ := hide ((unhide HZ).but hbu3 hrne)
  replace HS := hide (Nat.lt_of_lt_of_le (unhide HS) hbu3.size)
  have HX2 := hide hhB2
  have HEB2 := hide eB2
  have HSB2 := hide hsB2
  clear eB2 hbB2 hhB2 hsB2
  have u02 := (blk (unhide HX2)).2.1 0 _ rfl
  have u12 := (blk (unhide HX2)).2.1 1 _ rfl
  have u22 := (blk (unhide HX2)).2.1 2 _ rfl
  rw [← unhide HEB2] at u02 u12 u22
  by_cases hk1 : kk0 = 3
  · subst hk1
    have hY4 := unhide HY
    rw [if_pos (by rw [unhide HN0])] at hY4
    replace HY := hide hY4
    clear hY4
    have hp1 := nx_kind (unhide HT) (unhide HR).lt (by rw [unhide HN0]; exact (by decide : (3 : Int) ≠ 0))
    replace hp1 := hide hp1
    have HC5 := hide ((by have h := take_any ((unhide HR).keep ((Below.refl _ B2).drew)) (unhide HT) (unhide hp1); unfold tkV at h; rw [unhide HN0] at h; exact h : Calls Tryz.prog 87 #[.pointer (some ⟨r, 0, none⟩)] B2.drew fun e w' => e = .returned (.agg #[.int .i64 3, .string T0, .int .i64 at0]) ∧ But r B2.drew w' ∧ RD w' r ts (p + 1) d))
    go_wp2_with fail
    rw [unhide HEB2]
    have n35 : w0.heap.size ≠ w.heap.size := by have := unhide HQHX2; omega
    refine prim_r3 rfl rfl rfl rfl (unhide HX2) (unhide HZ) ne2 hrne n35 (unhide HC5) ?_
    intro a W2 hd hk hb hR
    have HF := hide (And.intro hd (And.intro ((hk 2 (by decide)).trans rfl) (And.intro ((unhide HB).trans hb) (And.intro ((unhide HZ).but hb hrne) hR))))
    clear hd hk hb hR
    go_wp2
    obtain ⟨hd, h2, hb, hz, hR⟩ := unhide HF
    exact ret_put rfl h2 hd hb hr hz (by have h := unhide HY; simp only [txt] at h; rw [unhide HN0] at h; exact h.symm) (Nat.le_succ_of_le (unhide HL).1) hR (Nat.lt_succ_self _) (leaf _ _ _ _ _)
  · have ek1 : (kk0 == 3) = false := by simpa using hk1
    have ek2 : decide (kk0 = 3) = false := by simpa using hk1
    have hY6 := unhide HY
    rw [if_neg (fun h => hk1 (by have h1 := h; rw [unhide HN0] at h1; exact h1))] at hY6
    replace HY := hide hY6
    clear hY6
    have hk3 := hk1
    clear hk1
    have HC7 := hide (takeIf_any (unhide HR) (unhide HT) (s := ⟨#[116, 114, 117, 101]⟩) (by decide))
    obtain ⟨bo7, hbo7⟩ : ∃ b, sees ts (p) ⟨#[116, 114, 117, 101]⟩ = b := ⟨_, rfl⟩
    rw [hbo7] at HC7
    have hY7 := unhide HY
    rw [hbo7] at hY7
    replace HY := hide hY7
    have HO7 := hide hbo7
    clear hY7 hbo7
    go_wp2_with fail
    rw [unhide HEB2]
    refine (unhide HC7).mono ?_
    rintro e w7 ⟨rfl, hb7, hR7⟩
    replace HB := hide ((unhide HB).trans hb7)
    replace HZ := hide ((unhide HZ).but hb7 hrne)
    replace HX2 := hide ((hb7.block _ (blk (unhide HX2)).1 (Ne.symm ne2)).trans (unhide HX2))
    replace HS := hide (Nat.lt_of_lt_of_le (unhide HS) hb7.size)
    replace HR := hide hR7
    clear hb7 hR7 HC7
    rcases bo7 with _ | _
    rotate_left
    · have hY7 := unhide HY
      simp only [if_true] at hY7
      replace HY := hide hY7
      have hRR := unhide HR
      rw [if_pos rfl] at hRR
      replace HR := hide hRR
      clear hY7 hRR
      replace HL : Hid (p ≤ p + 1 ∧ lo + 1 ≤ p + 1) := And.intro (Nat.le_succ_of_le (unhide HL).1) (Nat.succ_le_succ (unhide HL).2)
      have u02 := (blk (unhide HX2)).2.1 0 _ rfl
      have u12 := (blk (unhide HX2)).2.1 1 _ rfl
      have u22 := (blk (unhide HX2)).2.1 2 _ rfl
      obtain ⟨y0, y1, y2, y3, y4, y5, y6⟩ := blk7 (unhide HZ)
      obtain ⟨z0, z1, z2, z3, z4, z5, z6⟩ := frz7 (unhide HZ)
      have HNode := hide (leaf (W := w7) (lo := w.heap.size + 1) 2 at0 ⟨#[]⟩ ⟨#[]⟩ true)
      go_wp2
      exact ret_put rfl rfl rfl (unhide HB) hr (unhide HZ) (by have h := unhide HY; rw [unhide HN0] at h; exact h.symm) (unhide HL).1 (unhide HR) (Nat.lt_succ_self _) (unhide HNode)
    have hY7 := unhide HY
    simp only [Bool.false_eq_true, if_false] at hY7
    replace HY := hide hY7
    have hRR := unhide HR
    rw [if_neg Bool.false_ne_true] at hRR
    replace HR := hide hRR
    clear hY7 hRR
    have HC8 := hide (takeIf_any (unhide HR) (unhide HT) (s := ⟨#[102, 97, 108, 115, 101]⟩) (by decide))
    obtain ⟨bo8, hbo8⟩ : ∃ b, sees ts (p) ⟨#[102, 97, 108, 115, 101]⟩ = b := ⟨_, rfl⟩
    rw [hbo8] at HC8
    have hY8 := unhide HY
    rw [hbo8] at hY8
    replace HY := hide hY8
    have HO8 := hide hbo8
    clear hY8 hbo8
    go_wp2_with fail
    refine (unhide HC8).mono ?_
    rintro e w8 ⟨rfl, hb8, hR8⟩
    replace HB := hide ((unhide HB).trans hb8)
    replace HZ := hide ((unhide HZ).but hb8 hrne)
    replace HX2 := hide ((hb8.block _ (blk (unhide HX2)).1 (Ne.symm ne2)).trans (unhide HX2))
    replace HS := hide (Nat.lt_of_lt_of_le (unhide HS) hb8.size)
    replace HR := hide hR8
    clear hb8 hR8 HC8
    rcases bo8 with _ | _
    rotate_left
    · have hY8 := unhide HY
      simp only [if_true] at hY8
      replace HY := hide hY8
      have hRR := unhide HR
      rw [if_pos rfl] at hRR
      replace HR := hide hRR
      clear hY8 hRR
      replace HL : Hid (p ≤ p + 1 ∧ lo + 1 ≤ p + 1) := And.intro (Nat.le_succ_of_le (unhide HL).1) (Nat.succ_le_succ (unhide HL).2)
      have u02 := (blk (unhide HX2)).2.1 0 _ rfl
      have u12 := (blk (unhide HX2)).2.1 1 _ rfl
      have u22 := (blk (unhide HX2)).2.1 2 _ rfl
      have HC9 := hide (made_any 2 kk0 at0 T0 none 0 0 w8)
      go_wp2_with fail
      refine (unhide HC9).mono ?_
      rintro e w9 ⟨rfl, hb9⟩
      have hbu10 := But.of (r := r) hb9
      replace HR := hide ((unhide HR).keep hb9)
      replace HB := hide ((unhide HB).trans hbu10)
      replace HZ := hide ((unhide HZ).but hbu10 hrne)
      replace HX2 := hide ((hbu10.block _ (blk (unhide HX2)).1 (Ne.symm ne2)).trans (unhide HX2))
      replace HS := hide (Nat.lt_of_lt_of_le (unhide HS) hbu10.size)
      clear hb9 HC9
      obtain ⟨y0, y1, y2, y3, y4, y5, y6⟩ := blk7 (unhide HZ)
      obtain ⟨z0, z1, z2, z3, z4, z5, z6⟩ := frz7 (unhide HZ)
      have HNode := hide (leaf (W := w9) (lo := w.heap.size + 1) 2 at0 ⟨#[]⟩ ⟨#[]⟩ false)
      go_wp2
      exact ret_put rfl rfl rfl (unhide HB) hr (unhide HZ) (by have h := unhide HY; rw [unhide HN0] at h; exact h.symm) (unhide HL).1 (unhide HR) (Nat.lt_succ_self _) (unhide HNode)
    have hY8 := unhide HY
    simp only [Bool.false_eq_true, if_false] at hY8
    replace HY := hide hY8
    have hRR := unhide HR
    rw [if_neg Bool.false_ne_true] at hRR
    replace HR := hide hRR
    clear hY8 hRR
    have HC11 := hide (takeIf_any (unhide HR) (unhide HT) (s := ⟨#[40]⟩) (by decide))
    obtain ⟨bo11, hbo11⟩ : ∃ b, sees ts (p) ⟨#[40]⟩ = b := ⟨_, rfl⟩
    rw [hbo11] at HC11
    have hY11 := unhide HY
    rw [hbo11] at hY11
    replace HY := hide hY11
    have HO11 := hide hbo11
    clear hY11 hbo11
    go_wp2_with fail
    refine (unhide HC11).mono ?_
    rintro e w11 ⟨rfl, hb11, hR11⟩
    replace HB := hide ((unhide HB).trans hb11)
    replace HZ := hide ((unhide HZ).but hb11 hrne)
    replace HX2 := hide ((hb11.block _ (blk (unhide HX2)).1 (Ne.symm ne2)).trans (unhide HX2))
    replace HS := hide (Nat.lt_of_lt_of_le (unhide HS) hb11.size)
    replace HR := hide hR11
    clear hb11 hR11 HC11
    rcases bo11 with _ | _
    rotate_left
    · have hY11 := unhide HY
      simp only [if_true] at hY11
      replace HY := hide hY11
      have hRR := unhide HR
      rw [if_pos rfl] at hRR
      replace HR := hide hRR
      clear hY11 hRR
      replace HL : Hid (p ≤ p + 1 ∧ lo + 1 ≤ p + 1) := And.intro (Nat.le_succ_of_le (unhide HL).1) (Nat.succ_le_succ (unhide HL).2)
      have u02 := (blk (unhide HX2)).2.1 0 _ rfl
      have u12 := (blk (unhide HX2)).2.1 1 _ rfl
      have u22 := (blk (unhide HX2)).2.1 2 _ rfl
      replace HY : Hid (brackR ts g d at0 (p + 1) = Y) := by have h := unhide HY; rw [unhide HN0] at h; exact h
      have HC12 := hide (unhide hBr w11 (p + 1) kk0 at0 T0 (unhide HL).2 (unhide HR))
      go_wp2_with fail
      refine (unhide HC12).mono ?_
      intro e w12 h12
      rcases hX12 : brackR ts g d at0 (p + 1) with er | ⟨t12, q12⟩
      · rw [hX12] at h12
        obtain ⟨ei, en⟩ := er
        have hYe : Y = .error (ei, en) := by have h := unhide HY; rw [hX12] at h; exact h.symm
        subst hYe
        obtain ⟨hb12, h12⟩ := h12
        obtain rfl : e = _ := h12
        have HP := hide ((unhide HB).trans hb12)
        clear hb12 HC12 hX12
        go_wp2
        exact ⟨rfl, unhide HP, rfl⟩
      rw [hX12] at h12
      obtain ⟨hb12, hle12, hR12, v12, rfl, hv12⟩ := h12
      have hY12 := unhide HY
      rw [hX12] at hY12
      replace HY := hide hY12
      clear hY12
      obtain ⟨i12, j12, s12, m12, b12, a12, n12, c12, rfl⟩ := hv12.form
      have HT12 := hide (hv12.keep (lo' := w.heap.size + 1) (Stays.of (Below.refl _ _)) (unhide HS))
      replace HB := hide ((unhide HB).trans hb12)
      replace HZ := hide ((unhide HZ).but hb12 hrne)
      replace HX2 := hide ((hb12.block _ (blk (unhide HX2)).1 (Ne.symm ne2)).trans (unhide HX2))
      replace HS := hide (Nat.lt_of_lt_of_le (unhide HS) hb12.size)
      replace HR := hide hR12
      replace HL := hide (And.intro (Nat.le_trans (unhide HL).1 hle12) (Nat.le_trans (unhide HL).2 hle12))
      clear hb12 hle12 hR12 hv12 HC12 hX12
      obtain ⟨y0, y1, y2, y3, y4, y5, y6⟩ := blk7 (unhide HZ)
      obtain ⟨z0, z1, z2, z3, z4, z5, z6⟩ := frz7 (unhide HZ)
      have HNode := hide (unhide HT12)
      go_wp2
      exact ret_put rfl rfl rfl (unhide HB) hr (unhide HZ) (by have h := unhide HY; exact h.symm) (unhide HL).1 (unhide HR) (Nat.lt_succ_self _) (unhide HNode)
    have hY11 := unhide HY
    simp only [Bool.false_eq_true, if_false] at hY11
    replace HY := hide hY11
    have hRR := unhide HR
    rw [if_neg Bool.false_ne_true] at hRR
    replace HR := hide hRR
    clear hY11 hRR
    have ek3 := ek1
    have ek4 := ek2
    clear ek1 ek2
    by_cases hk1 : kk0 = 1
    · subst hk1
      have u02 := (blk (unhide HX2)).2.1 0 _ rfl
      have u12 := (blk (unhide HX2)).2.1 1 _ rfl
      have u22 := (blk (unhide HX2)).2.1 2 _ rfl
      have hp1 : p + 1 < ts.length := nx_kind (unhide HT) (unhide HR).lt (by rw [unhide HN0]; exact (by decide : (1 : Int) ≠ 0))
      have HC13 := hide (behind_any (unhide HR) (unhide HT) hp1)
      replace hp1 := hide hp1
      unfold tkV at HC13
      obtain ⟨⟨ku13, U13, au13⟩, hN13⟩ : ∃ X, nx ts (p + 1) = X := ⟨_, rfl⟩
      rw [hN13] at HC13
      have hu13 : txt ts (p + 1) = U13 := by unfold txt; rw [hN13]
      replace hu13 := hide hu13
      have HNb13 := hide hN13
      have hfb13 := fld1 (.int .i64 ku13) (.string U13) (.int .i64 au13)
      clear hN13
      go_wp2_with fail
      refine (unhide HC13).mono ?_
      rintro e w13 ⟨rfl, hb13⟩
      have hbu14 := But.of (r := r) hb13
      replace HR := hide ((unhide HR).keep hb13)
      replace HB := hide ((unhide HB).trans hbu14)
      replace HZ := hide ((unhide HZ).but hbu14 hrne)
      replace HX2 := hide ((hbu14.block _ (blk (unhide HX2)).1 (Ne.symm ne2)).trans (unhide HX2))
      replace HS := hide (Nat.lt_of_lt_of_le (unhide HS) hbu14.size)
      clear hb13 HC13
      by_cases hT13 : U13 = ⟨#[40]⟩
      · have e13 : (U13.toList == [40]) = true := (eqb U13 ⟨#[40]⟩ [40] rfl).mp hT13
        have hub : txt ts (p + 1) = ⟨#[40]⟩ := (unhide hu13).trans hT13
        replace hub := hide hub
        clear hT13
        have hY15 := unhide HY
        rw [if_pos ⟨by rw [unhide HN0], unhide hub⟩] at hY15
        replace HY := hide hY15
        clear hY15
        have HC16 := hide (unhide hCa w13 (p) (unhide HL).2 (unhide hp1) (unhide hub) (unhide HR))
        go_wp2_with fail
        refine (unhide HC16).mono ?_
        intro e w16 h16
        rcases hX16 : callR ts g d (p) with er | ⟨t16, q16⟩
        · rw [hX16] at h16
          obtain ⟨ei, en⟩ := er
          have hYe : Y = .error (ei, en) := by have h := unhide HY; rw [hX16] at h; exact h.symm
          subst hYe
          obtain ⟨hb16, h16⟩ := h16
          obtain rfl : e = _ := h16
          have HP := hide ((unhide HB).trans hb16)
          clear hb16 HC16 hX16
          go_wp2
          exact ⟨rfl, unhide HP, rfl⟩
        rw [hX16] at h16
        obtain ⟨hb16, hle16, hR16, v16, rfl, hv16⟩ := h16
        have hY16 := unhide HY
        rw [hX16] at hY16
        replace HY := hide hY16
        clear hY16
        obtain ⟨i16, j16, s16, m16, b16, a16, n16, c16, rfl⟩ := hv16.form
        have HT16 := hide (hv16.keep (lo' := w.heap.size + 1) (Stays.of (Below.refl _ _)) (unhide HS))
        replace HB := hide ((unhide HB).trans hb16)
        replace HZ := hide ((unhide HZ).but hb16 hrne)
        replace HX2 := hide ((hb16.block _ (blk (unhide HX2)).1 (Ne.symm ne2)).trans (unhide HX2))
        replace HS := hide (Nat.lt_of_lt_of_le (unhide HS) hb16.size)
        replace HR := hide hR16
        replace HL := hide (And.intro (Nat.le_trans (unhide HL).1 hle16) (Nat.le_trans (unhide HL).2 hle16))
        clear hb16 hle16 hR16 hv16 HC16 hX16
        obtain ⟨y0, y1, y2, y3, y4, y5, y6⟩ := blk7 (unhide HZ)
        obtain ⟨z0, z1, z2, z3, z4, z5, z6⟩ := frz7 (unhide HZ)
        have HNode := hide (unhide HT16)
        go_wp2
        exact ret_put rfl rfl rfl (unhide HB) hr (unhide HZ) (by have h := unhide HY; exact h.symm) (unhide HL).1 (unhide HR) (Nat.lt_succ_self _) (unhide HNode)
      · have e13 : (U13.toList == [40]) = false := by have h := hT13; rw [eqb U13 ⟨#[40]⟩ [40] rfl] at h; simpa using h
        have hub : ¬ txt ts (p + 1) = ⟨#[40]⟩ := fun h => hT13 ((unhide hu13).symm.trans h)
        replace hub := hide hub
        clear hT13
        have hY17 := unhide HY
        rw [if_neg (fun h => unhide hub h.2)] at hY17
        replace HY := hide hY17
        clear hY17
        have HC18 := hide (mustBe_any ((unhide HR).keep ((Below.refl _ w13).drew)) (unhide HT) (k := 1) (by decide))
        go_wp2_with fail
        have n318 : w0.heap.size ≠ w.heap.size := by have := unhide HQHX2; omega
        refine prim_r12 (X := mustBeR ts 1 (p)) rfl rfl rfl rfl (unhide HX2) (unhide HZ) ne2 hrne n318 (unhide HC18) ?_ ?_
        · intro a w9 ei en hX hd hb
          have hYe : Y = .error (ei, en) := by have h := unhide HY; rw [hX] at h; exact h.symm
          subst hYe
          exact ⟨hd, (unhide HB).trans hb, rfl⟩
        · intro a W2 t q hX hd hk hb hR hle
          have hY9 := unhide HY
          rw [hX] at hY9
          simp only [thenR, txt] at hY9
          rw [unhide HN0] at hY9
          have HF := hide (And.intro hd (And.intro ((hk 2 (by decide)).trans rfl) (And.intro ((unhide HB).trans hb) (And.intro ((unhide HZ).but hb hrne) (And.intro hR (And.intro (Nat.le_trans (unhide HL).1 hle) (And.intro hY9 trivial)))))))
          clear hd hk hb hR hle hY9 hX
          go_wp2
          obtain ⟨hd, h2, hb, hz, hR, hle, hY9, hv⟩ := unhide HF
          exact ret_put rfl h2 hd hb hr hz hY9.symm hle hR (Nat.lt_succ_self _) (leaf _ _ _ _ _)
    · have ek1 : (kk0 == 1) = false := by simpa using hk1
      have ek2 : decide (kk0 = 1) = false := by simpa using hk1
      have hY19 := unhide HY
      rw [if_neg (fun h => hk1 (by have h1 := h.1; rw [unhide HN0] at h1; exact h1))] at hY19
      replace HY := hide hY19
      clear hY19
      have u02 := (blk (unhide HX2)).2.1 0 _ rfl
      have u12 := (blk (unhide HX2)).2.1 1 _ rfl
      have u22 := (blk (unhide HX2)).2.1 2 _ rfl
      have HC20 := hide (mustBe_any ((unhide HR).keep ((Below.refl _ w11).drew)) (unhide HT) (k := 1) (by decide))
      go_wp2_with fail
      have n320 : w0.heap.size ≠ w.heap.size := by have := unhide HQHX2; omega
      refine prim_r12 (X := mustBeR ts 1 (p)) rfl rfl rfl rfl (unhide HX2) (unhide HZ) ne2 hrne n320 (unhide HC20) ?_ ?_
      · intro a w9 ei en hX hd hb
        have hYe : Y = .error (ei, en) := by have h := unhide HY; rw [hX] at h; exact h.symm
        subst hYe
        exact ⟨hd, (unhide HB).trans hb, rfl⟩
      · intro a W2 t q hX hd hk hb hR hle
        have hY9 := unhide HY
        rw [hX] at hY9
        simp only [thenR, txt] at hY9
        rw [unhide HN0] at hY9
        have HF := hide (And.intro hd (And.intro ((hk 2 (by decide)).trans rfl) (And.intro ((unhide HB).trans hb) (And.intro ((unhide HZ).but hb hrne) (And.intro hR (And.intro (Nat.le_trans (unhide HL).1 hle) (And.intro hY9 trivial)))))))
        clear hd hk hb hR hle hY9 hX
        go_wp2
        obtain ⟨hd, h2, hb, hz, hR, hle, hY9, hv⟩ := unhide HF
        exact ret_put rfl h2 hd hb hr hz hY9.symm hle hR (Nat.lt_succ_self _) (leaf _ _ _ _ _)
end Go.Proofs.YtfkfnbehdcmgeaaGreatDoor
