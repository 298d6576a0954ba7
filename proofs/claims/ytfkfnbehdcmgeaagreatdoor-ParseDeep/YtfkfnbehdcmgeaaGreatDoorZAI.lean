/- Package parse: the drawn regions of part. -/
import Derived.Test.YtfkfnbehdcmgeaaGreatDoorZAH
import Derived.Test.YtfkfnbehdcmgeaaGreatDoorZAG
set_option linter.unusedVariables false
set_option linter.unusedSimpArgs false

/- Package parse: signs. -/
namespace Go.Proofs.YtfkfnbehdcmgeaaGreatDoor
open Go Go.RowKit
set_option maxRecDepth 100000 in
set_option maxHeartbeats 8000000 in
theorem unary_of {r d lo : Nat} {ts : List (Int × ByteArray × Int)} {g : Ru → Nat → Nat → (Except (Int × Int) (Ex × Nat))} (hT : TsOk ts) (hU : RuC 127 r ts d (lo + 1) (g .rU d)) (hPr : RuC 128 r ts d lo (primR ts g d)) {w : World} {p : Nat} (hlo : lo ≤ p) (hR : RD w r ts p d) : Calls Tryz.prog 126 #[.pointer (some ⟨r, 0, none⟩)] w (PE (unaryR ts g d p) r ts p d w) := by
  obtain ⟨Y, hY⟩ : ∃ Y, unaryR ts g d p = Y := ⟨_, rfl⟩
  rw [hY]
  unfold unaryR at hY
  have hr := hR.rlt
  obtain ⟨A, eA, hbA, hzA, hsA⟩ := zb_new w
  have HB := hide (But.of (r := r) hbA)
  have HR := hide (hR.keep hbA)
  have HZ := hide hzA
  have HS : Hid (w.heap.size < A.heap.size) := by show _ < _; omega
  have HL : Hid (p ≤ p ∧ lo ≤ p) := ⟨Nat.le_refl _, hlo⟩
  have HE := hide eA
  have HT := hide hT
  have HY := hide hY
  have hrne : r ≠ w.heap.size := by omega
  have hmf : ∀ (fn : Fn) (first cap : Array Value) (w : World), (Instr.makeFunc fn first cap).run Tryz.prog w = .ok (.func fn first cap) w := fun _ _ _ _ => rfl
  replace hU := hide hU
  replace hPr := hide hPr
  clear hlo hR hbA hzA hsA eA hT hY
  go_enter Tryz.func126, Tryz.ntmps126
  have HC0 := hide (next_any (unhide HR) (unhide HT))
  unfold tkV at HC0
  obtain ⟨⟨kk0, T0, at0⟩, hN0⟩ : ∃ X, nx ts p = X := ⟨_, rfl⟩
  rw [hN0] at HC0
  have HN0 := hide hN0
  clear hN0
  go_wp2_with fail
  rw [unhide HE]
  refine (unhide HC0).mono ?_
  rintro e w0 ⟨rfl, hb0⟩
  have hbu1 := But.of (r := r) hb0
  replace HR := hide ((unhide HR).keep hb0)
  replace HB := hide ((unhide HB).trans hbu1)
  replace HZ := hide ((unhide HZ).but hbu1 hrne)
  replace HS := hide (Nat.lt_of_lt_of_le (unhide HS) hbu1.size)
  clear hb0 HC0
  obtain ⟨B2, eB2, hbB2, hsB2, hhB2⟩ := box_new w0 #[.int .i64 kk0, .string T0, .int .i64 at0] 74
  have ne2 : r ≠ w0.heap.size := by have := unhide HS; omega
  have HQHX2 := HS
  have hbu3 := But.of (r := r) hbB2
  replace HR := hide ((unhide HR).keep hbB2)
  replace HB := hide ((unhide HB).trans hbu3)
  replace HZ := hide ((unhide HZ).but hbu3 hrne)
  replace HS := hide (Nat.lt_of_lt_of_le (unhide HS) hbu3.size)
  have HX2 := hide hhB2
  have HEB2 := hide eB2
  have HSB2 := hide hsB2
  clear eB2 hbB2 hhB2 hsB2
  have HC4 := hide (takeIf_any (unhide HR) (unhide HT) (s := ⟨#[45]⟩) (by decide))
  obtain ⟨bo4, hbo4⟩ : ∃ b, sees ts (p) ⟨#[45]⟩ = b := ⟨_, rfl⟩
  rw [hbo4] at HC4
  have hY4 := unhide HY
  rw [hbo4] at hY4
  replace HY := hide hY4
  have HO4 := hide hbo4
  clear hY4 hbo4
  go_wp2_with fail
  rw [unhide HEB2]
  refine (unhide HC4).mono ?_
  rintro e w4 ⟨rfl, hb4, hR4⟩
  replace HB := hide ((unhide HB).trans hb4)
  replace HZ := hide ((unhide HZ).but hb4 hrne)
  replace HX2 := hide ((hb4.block _ (blk (unhide HX2)).1 (Ne.symm ne2)).trans (unhide HX2))
  replace HS := hide (Nat.lt_of_lt_of_le (unhide HS) hb4.size)
  replace HR := hide hR4
  clear hb4 hR4 HC4
  rcases bo4 with _ | _
  rotate_left
  · have hY4 := unhide HY
    simp only [if_true] at hY4
    replace HY := hide hY4
    have hRR := unhide HR
    rw [if_pos rfl] at hRR
    replace HR := hide hRR
    clear hY4 hRR
    replace HL : Hid (p ≤ p + 1 ∧ lo + 1 ≤ p + 1) := And.intro (Nat.le_succ_of_le (unhide HL).1) (Nat.succ_le_succ (unhide HL).2)
    have HC5 := hide (unhide hU w4.drew (p + 1) (unhide HL).2 ((unhide HR).keep ((Below.refl _ w4).drew)))
    go_wp2_with fail
    have n35 : w0.heap.size ≠ w.heap.size := by have := unhide HQHX2; omega
    refine unary_r3 (X := g .rU d (p + 1)) rfl rfl rfl rfl (unhide HX2) (unhide HZ) ne2 hrne n35 (unhide HC5) ?_ ?_
    · intro a w9 ei en hX hd hb
      have hYe : Y = .error (ei, en) := by have h := unhide HY; rw [hX] at h; exact h.symm
      subst hYe
      exact ⟨hd, (unhide HB).trans hb, rfl⟩
    · intro a W2 t q b hX hd hk hb hR hle hv
      have hY9 := unhide HY
      rw [hX] at hY9
      simp only [thenR, txt] at hY9
      rw [unhide HN0] at hY9
      have HF := hide (And.intro hd (And.intro ((hk 2 (by decide)).trans rfl) (And.intro ((unhide HB).trans hb) (And.intro ((unhide HZ).but hb hrne) (And.intro hR (And.intro (Nat.le_trans (unhide HL).1 hle) (And.intro hY9 hv)))))))
      clear hd hk hb hR hle hY9 hX hv
      go_wp2
      obtain ⟨hd, h2, hb, hz, hR, hle, hY9, hv⟩ := unhide HF
      exact ret_put rfl h2 hd hb hr hz hY9.symm hle hR (unhide HS) hv
  have hY4 := unhide HY
  simp only [Bool.false_eq_true, if_false] at hY4
  replace HY := hide hY4
  have hRR := unhide HR
  rw [if_neg Bool.false_ne_true] at hRR
  replace HR := hide hRR
  clear hY4 hRR
  have HC6 := hide (takeIf_any (unhide HR) (unhide HT) (s := ⟨#[110, 111, 116]⟩) (by decide))
  obtain ⟨bo6, hbo6⟩ : ∃ b, sees ts (p) ⟨#[110, 111, 116]⟩ = b := ⟨_, rfl⟩
  rw [hbo6] at HC6
  have hY6 := unhide HY
  rw [hbo6] at hY6
  replace HY := hide hY6
  have HO6 := hide hbo6
  clear hY6 hbo6
  go_wp2_with fail
  refine (unhide HC6).mono ?_
  rintro e w6 ⟨rfl, hb6, hR6⟩
  replace HB := hide ((unhide HB).trans hb6)
  replace HZ := hide ((unhide HZ).but hb6 hrne)
  replace HX2 := hide ((hb6.block _ (blk (unhide HX2)).1 (Ne.symm ne2)).trans (unhide HX2))
  replace HS := hide (Nat.lt_of_lt_of_le (unhide HS) hb6.size)
  replace HR := hide hR6
  clear hb6 hR6 HC6
  rcases bo6 with _ | _
  rotate_left
  · have hY6 := unhide HY
    simp only [if_true] at hY6
    replace HY := hide hY6
    have hRR := unhide HR
    rw [if_pos rfl] at hRR
    replace HR := hide hRR
    clear hY6 hRR
    replace HL : Hid (p ≤ p + 1 ∧ lo + 1 ≤ p + 1) := And.intro (Nat.le_succ_of_le (unhide HL).1) (Nat.succ_le_succ (unhide HL).2)
    have HC7 := hide (unhide hU w6.drew (p + 1) (unhide HL).2 ((unhide HR).keep ((Below.refl _ w6).drew)))
    go_wp2_with fail
    have n37 : w0.heap.size ≠ w.heap.size := by have := unhide HQHX2; omega
    refine unary_r5 (X := g .rU d (p + 1)) rfl rfl rfl rfl (unhide HX2) (unhide HZ) ne2 hrne n37 (unhide HC7) ?_ ?_
    · intro a w9 ei en hX hd hb
      have hYe : Y = .error (ei, en) := by have h := unhide HY; rw [hX] at h; exact h.symm
      subst hYe
      exact ⟨hd, (unhide HB).trans hb, rfl⟩
    · intro a W2 t q b hX hd hk hb hR hle hv
      have hY9 := unhide HY
      rw [hX] at hY9
      simp only [thenR, txt] at hY9
      rw [unhide HN0] at hY9
      have HF := hide (And.intro hd (And.intro ((hk 2 (by decide)).trans rfl) (And.intro ((unhide HB).trans hb) (And.intro ((unhide HZ).but hb hrne) (And.intro hR (And.intro (Nat.le_trans (unhide HL).1 hle) (And.intro hY9 hv)))))))
      clear hd hk hb hR hle hY9 hX hv
      go_wp2
      obtain ⟨hd, h2, hb, hz, hR, hle, hY9, hv⟩ := unhide HF
      exact ret_put rfl h2 hd hb hr hz hY9.symm hle hR (unhide HS) hv
  have hY6 := unhide HY
  simp only [Bool.false_eq_true, if_false] at hY6
  replace HY := hide hY6
  have hRR := unhide HR
  rw [if_neg Bool.false_ne_true] at hRR
  replace HR := hide hRR
  clear hY6 hRR
  have HC8 := hide (takeIf_any (unhide HR) (unhide HT) (s := ⟨#[33]⟩) (by decide))
  obtain ⟨bo8, hbo8⟩ : ∃ b, sees ts (p) ⟨#[33]⟩ = b := ⟨_, rfl⟩
  rw [hbo8] at HC8
  have hY8 := unhide HY
  rw [hbo8] at hY8
  replace HY := hide hY8
  have HO8 := hide hbo8
  clear hY8 hbo8
  go_wp2_with fail
  refine (unhide HC8).mono ?_
  rintro e w8 ⟨rfl, hb8, hR8⟩
  replace HB := hide ((unhide HB).trans hb8)
  replace HZ := hide ((unhide HZ).but hb8 hrne)
  replace HX2 := hide ((hb8.block _ (blk (unhide HX2)).1 (Ne.symm ne2)).trans (unhide HX2))
  replace HS := hide (Nat.lt_of_lt_of_le (unhide HS) hb8.size)
  replace HR := hide hR8
  clear hb8 hR8 HC8
  rcases bo8 with _ | _
  rotate_left
  · have hY8 := unhide HY
    simp only [if_true] at hY8
    replace HY := hide hY8
    have hRR := unhide HR
    rw [if_pos rfl] at hRR
    replace HR := hide hRR
    clear hY8 hRR
    replace HL : Hid (p ≤ p + 1 ∧ lo + 1 ≤ p + 1) := And.intro (Nat.le_succ_of_le (unhide HL).1) (Nat.succ_le_succ (unhide HL).2)
    have HC9 := hide (mustBe_any ((unhide HR).keep ((Below.refl _ w8).drew)) (unhide HT) (k := 1) (by decide))
    go_wp2_with fail
    have n39 : w0.heap.size ≠ w.heap.size := by have := unhide HQHX2; omega
    refine unary_r7 (X := mustBeR ts 1 (p + 1)) rfl rfl rfl rfl (unhide HX2) (unhide HZ) ne2 hrne n39 (unhide HC9) ?_ ?_
    · intro a w9 ei en hX hd hb
      have hYe : Y = .error (ei, en) := by have h := unhide HY; rw [hX] at h; exact h.symm
      subst hYe
      exact ⟨hd, (unhide HB).trans hb, rfl⟩
    · intro a W2 t q hX hd hk hb hR hle
      have hY9 := unhide HY
      rw [hX] at hY9
      simp only [thenR, txt] at hY9
      rw [unhide HN0] at hY9
      have HF := hide (And.intro hd (And.intro ((hk 2 (by decide)).trans rfl) (And.intro ((unhide HB).trans hb) (And.intro ((unhide HZ).but hb hrne) (And.intro hR (And.intro (Nat.le_trans (unhide HL).1 hle) (And.intro hY9 trivial)))))))
      clear hd hk hb hR hle hY9 hX
      go_wp2
      obtain ⟨hd, h2, hb, hz, hR, hle, hY9, hv⟩ := unhide HF
      exact ret_put rfl h2 hd hb hr hz hY9.symm hle hR (Nat.lt_succ_self _) (leaf _ _ _ _ _)
  have hY8 := unhide HY
  simp only [Bool.false_eq_true, if_false] at hY8
  replace HY := hide hY8
  have hRR := unhide HR
  rw [if_neg Bool.false_ne_true] at hRR
  replace HR := hide hRR
  clear hY8 hRR
  have HC10 := hide (takeIf_any (unhide HR) (unhide HT) (s := ⟨#[111, 108, 100]⟩) (by decide))
  obtain ⟨bo10, hbo10⟩ : ∃ b, sees ts (p) ⟨#[111, 108, 100]⟩ = b := ⟨_, rfl⟩
  rw [hbo10] at HC10
  have hY10 := unhide HY
  rw [hbo10] at hY10
  replace HY := hide hY10
  have HO10 := hide hbo10
  clear hY10 hbo10
  go_wp2_with fail
  refine (unhide HC10).mono ?_
  rintro e w10 ⟨rfl, hb10, hR10⟩
  replace HB := hide ((unhide HB).trans hb10)
  replace HZ := hide ((unhide HZ).but hb10 hrne)
  replace HX2 := hide ((hb10.block _ (blk (unhide HX2)).1 (Ne.symm ne2)).trans (unhide HX2))
  replace HS := hide (Nat.lt_of_lt_of_le (unhide HS) hb10.size)
  replace HR := hide hR10
  clear hb10 hR10 HC10
  rcases bo10 with _ | _
  rotate_left
  · have hY10 := unhide HY
    simp only [if_true] at hY10
    replace HY := hide hY10
    have hRR := unhide HR
    rw [if_pos rfl] at hRR
    replace HR := hide hRR
    clear hY10 hRR
    replace HL : Hid (p ≤ p + 1 ∧ lo + 1 ≤ p + 1) := And.intro (Nat.le_succ_of_le (unhide HL).1) (Nat.succ_le_succ (unhide HL).2)
    have HC11 := hide (mustBe_any ((unhide HR).keep ((Below.refl _ w10).drew)) (unhide HT) (k := 1) (by decide))
    go_wp2_with fail
    have n311 : w0.heap.size ≠ w.heap.size := by have := unhide HQHX2; omega
    refine unary_r9 (X := mustBeR ts 1 (p + 1)) rfl rfl rfl rfl (unhide HX2) (unhide HZ) ne2 hrne n311 (unhide HC11) ?_ ?_
    · intro a w9 ei en hX hd hb
      have hYe : Y = .error (ei, en) := by have h := unhide HY; rw [hX] at h; exact h.symm
      subst hYe
      exact ⟨hd, (unhide HB).trans hb, rfl⟩
    · intro a W2 t q hX hd hk hb hR hle
      have hY9 := unhide HY
      rw [hX] at hY9
      simp only [thenR, txt] at hY9
      rw [unhide HN0] at hY9
      have HF := hide (And.intro hd (And.intro ((hk 2 (by decide)).trans rfl) (And.intro ((unhide HB).trans hb) (And.intro ((unhide HZ).but hb hrne) (And.intro hR (And.intro (Nat.le_trans (unhide HL).1 hle) (And.intro hY9 trivial)))))))
      clear hd hk hb hR hle hY9 hX
      go_wp2
      obtain ⟨hd, h2, hb, hz, hR, hle, hY9, hv⟩ := unhide HF
      exact ret_put rfl h2 hd hb hr hz hY9.symm hle hR (Nat.lt_succ_self _) (leaf _ _ _ _ _)
  have hY10 := unhide HY
  simp only [Bool.false_eq_true, if_false] at hY10
  replace HY := hide hY10
  have hRR := unhide HR
  rw [if_neg Bool.false_ne_true] at hRR
  replace HR := hide hRR
  clear hY10 hRR
  have HC12 := hide (unhide hPr w10 (p) (unhide HL).2 (unhide HR))
  go_wp2_with fail
  refine (unhide HC12).mono ?_
  intro e w12 h12
  rcases hX12 : primR ts g d (p) with er | ⟨t12, q12⟩
  · rw [hX12] at h12
    obtain ⟨ei, en⟩ := er
    have hYe : Y = .error (ei, en) := by have h := unhide HY; rw [hX12] at h; exact h.symm
    subst hYe
    obtain ⟨hb12, h12⟩ := h12
    obtain rfl : e = _ := h12
    have HP := hide ((unhide HB).trans hb12)
    clear hb12 HC12 hX12
    go_wp2
    exact ⟨rfl, unhide HP, rfl⟩
  rw [hX12] at h12
  obtain ⟨hb12, hle12, hR12, v12, rfl, hv12⟩ := h12
  have hY12 := unhide HY
  rw [hX12] at hY12
  replace HY := hide hY12
  clear hY12
  obtain ⟨i12, j12, s12, m12, b12, a12, n12, c12, rfl⟩ := hv12.form
  have HT12 := hide (hv12.keep (lo' := w.heap.size + 1) (Stays.of (Below.refl _ _)) (unhide HS))
  replace HB := hide ((unhide HB).trans hb12)
  replace HZ := hide ((unhide HZ).but hb12 hrne)
  replace HX2 := hide ((hb12.block _ (blk (unhide HX2)).1 (Ne.symm ne2)).trans (unhide HX2))
  replace HS := hide (Nat.lt_of_lt_of_le (unhide HS) hb12.size)
  replace HR := hide hR12
  replace HL := hide (And.intro (Nat.le_trans (unhide HL).1 hle12) (Nat.le_trans (unhide HL).2 hle12))
  clear hb12 hle12 hR12 hv12 HC12 hX12
  obtain ⟨y0, y1, y2, y3, y4, y5, y6⟩ := blk7 (unhide HZ)
  obtain ⟨z0, z1, z2, z3, z4, z5, z6⟩ := frz7 (unhide HZ)
  have HNode := hide (unhide HT12)
  go_wp2
  exact ret_put rfl rfl rfl (unhide HB) hr (unhide HZ) (by have h := unhide HY; exact h.symm) (unhide HL).1 (unhide HR) (Nat.lt_succ_self _) (unhide HNode)
end Go.Proofs.YtfkfnbehdcmgeaaGreatDoor

namespace Go.Proofs.YtfkfnbehdcmgeaaGreatDoor
open Go Go.RowKit
def stpart_r5 (W : World) (r : Nat) (ts : List (Int × ByteArray × Int)) (p d q6 : Nat) (X : (Except (Int × Int) (Ex × Nat))) (ai : Int) (T : ByteArray) (n : Nat) (s : Nat → Value) (w : World) : Prop := match n with
  | 0 => w = W.drew
  | 1 => ∃ t q, X = .ok (t, q) ∧ But r W w ∧ RD w r ts q d ∧ p ≤ q ∧ IsE w W.heap.size (s 4) t
  | 2 => ∃ t q b, X = .ok (t, q) ∧ s 5 = .slice (some ⟨b, 0, none⟩) 1 1 ∧ But r W w ∧ RD w r ts q d ∧ p ≤ q ∧ IsE w W.heap.size (.agg #[.int .i64 25, .string T, .string ⟨#[]⟩, .bool false, .slice (some ⟨b, 0, none⟩) 1 1, .int .i64 0, .int .i64 ai]) (.mk 25 T ⟨#[]⟩ false [t] ai)
  | 3 => ∃ t q b, X = .ok (t, q) ∧ s 6 = .agg #[.int .i64 25, .string T, .string ⟨#[]⟩, .bool false, .slice (some ⟨b, 0, none⟩) 1 1, .int .i64 0, .int .i64 ai] ∧ But r W w ∧ RD w r ts q d ∧ p ≤ q ∧ IsE w W.heap.size (.agg #[.int .i64 25, .string T, .string ⟨#[]⟩, .bool false, .slice (some ⟨b, 0, none⟩) 1 1, .int .i64 0, .int .i64 ai]) (.mk 25 T ⟨#[]⟩ false [t] ai)
  | _ => ∃ t q b W2, X = .ok (t, q) ∧ But r W W2 ∧ RD W2 r ts q d ∧ p ≤ q ∧ IsE W2 W.heap.size (.agg #[.int .i64 25, .string T, .string ⟨#[]⟩, .bool false, .slice (some ⟨b, 0, none⟩) 1 1, .int .i64 0, .int .i64 ai]) (.mk 25 T ⟨#[]⟩ false [t] ai) ∧ w = set7 W2 q6 (.int .i64 25) (.string T) (.string ⟨#[]⟩) (.bool false) (.slice (some ⟨b, 0, none⟩) 1 1) (.int .i64 0) (.int .i64 ai)
theorem stpart_r5_at {W : World} {r p d q6 : Nat} {ts : List (Int × ByteArray × Int)} {X : (Except (Int × Int) (Ex × Nat))} {ai : Int} {T : ByteArray} {n : Nat} {s : Nat → Value} {w : World} (h : stpart_r5 W r ts p d q6 X ai T n s w) : ∀ q, q < W.heap.size → q ≠ q6 → r ≠ q → w.heap[q]? = W.heap[q]? := by
  intro q3 hq hne hr
  rcases n with _ | _ | _ | _ | n
  · obtain rfl : w = W.drew := h
    rfl
  · obtain ⟨t, q, -, hb, -⟩ := h
    exact hb.block q3 hq (Ne.symm hr)
  · obtain ⟨t, q, b, -, -, hb, -⟩ := h
    exact hb.block q3 hq (Ne.symm hr)
  · obtain ⟨t, q, b, -, -, hb, -⟩ := h
    exact hb.block q3 hq (Ne.symm hr)
  · obtain ⟨t, q, b, W2, -, hb, -, -, -, rfl⟩ := h
    unfold set7
    rw [same7 hne]
    exact hb.block q3 hq (Ne.symm hr)
set_option maxRecDepth 100000 in
set_option maxHeartbeats 4000000 in
theorem part_r5 {Q : Exit → Act → World → Prop} {a0 : Act} {W : World} {r p d q3 q6 : Nat} {ts : List (Int × ByteArray × Int)} {X : (Except (Int × Int) (Ex × Nat))} {kk ai : Int} {T : ByteArray} (hN : a0.tmps.size = 45) (h0 : a0.tmps[0]? = some (.pointer (some ⟨r, 0, none⟩))) (h2 : a0.tmps[2]? = some (.pointer (some ⟨q6, 0, none⟩))) (h3 : a0.tmps[3]? = some (.pointer (some ⟨q3, 0, none⟩)))
    (b3 : W.heap[q3]? = some (.cells #[.int .i64 kk, .string T, .int .i64 ai] 74)) (z6 : ZB W q6) (n1 : r ≠ q3) (n2 : r ≠ q6) (n3 : q3 ≠ q6) (hC : Calls Tryz.prog 115 #[.pointer (some ⟨r, 0, none⟩)] W.drew (PE X r ts p d W.drew))
    (herr : ∀ (a : Act) (w : World) (ei en : Int), X = .error (ei, en) → a.defers = a0.defers → But r W w → Q (.panic [{ v := .iface 89 (.agg #[.int .i64 ei, .int .i64 en]), recovered := false }]) a w)
    (hend : ∀ (a : Act) (W2 : World) (t : Ex) (q b : Nat), X = .ok (t, q) → a.defers = a0.defers → (∀ k, k ∈ ((List.range 45).filter fun i => !([20, 21, 22, 23, 24, 25, 26].contains i)) → a.tmps[k]? = a0.tmps[k]?) → But r W W2 → RD W2 r ts q d → p ≤ q → IsE W2 W.heap.size (.agg #[.int .i64 25, .string T, .string ⟨#[]⟩, .bool false, .slice (some ⟨b, 0, none⟩) 1 1, .int .i64 0, .int .i64 ai]) (.mk 25 T ⟨#[]⟩ false [t] ai) → Q .normal a (set7 W2 q6 (.int .i64 25) (.string T) (.string ⟨#[]⟩) (.bool false) (.slice (some ⟨b, 0, none⟩) 1 1) (.int .i64 0) (.int .i64 ai))) :
    (Code.region 5 (regionOf Tryz.f112 5).toArray true).wp Tryz.prog Q a0 W := by
  have hl : (regionOf Tryz.f112 5).length = 8 := by kernel_rfl
  have hds : ((List.range 7).all fun i => ((regionOf Tryz.f112 5).getD i default).dst.isSome) = true := by kernel_rfl
  have bx : ∀ {n : Nat} {s : Nat → Value} {w : World}, stpart_r5 W r ts p d q6 X ai T n s w → w.heap[q3]? = some (.cells #[.int .i64 kk, .string T, .int .i64 ai] 74) := fun h => (stpart_r5_at h q3 (blk b3).1 n3 n1).trans b3
  have hk3 : 3 ∈ ((List.range 45).filter fun i => !([20, 21, 22, 23, 24, 25, 26].contains i)) := by decide
  have hk2 : 2 ∈ ((List.range 45).filter fun i => !([20, 21, 22, 23, 24, 25, 26].contains i)) := by decide
  have hk0 : 0 ∈ ((List.range 45).filter fun i => !([20, 21, 22, 23, 24, 25, 26].contains i)) := by decide
  refine wp_region_any (by kernel_rfl) ?_
  refine seqN (l := (regionOf Tryz.f112 5)) 45 ((List.range 45).filter fun i => !([20, 21, 22, 23, 24, 25, 26].contains i)) [4, 5, 6, 7] (fun j v => (j = 0 → v = .agg #[.int .i64 kk, .string T, .int .i64 ai]) ∧ (j = 3 → v = .pointer (some ⟨r, 0, none⟩)) ∧ (j = 1 → v = .pointer (some ⟨q3, 1, none⟩)) ∧ (j = 2 → v = .string T)) (stpart_r5 W r ts p d q6 X ai T) (by kernel_rfl) hN (by decide) (by rw [hl]; decide) ?_ ?_ ?_ rfl ?_ ?_ ?_
  · intro k hk
    have hk3 : k = 0 ∨ k = 1 ∨ k = 2 := by simp at hk; omega
    rcases hk3 with rfl | rfl | rfl
    · show (preds ((regionOf Tryz.f112 5).getD 5 default)).contains 4 = true
      kernel_rfl
    · show (preds ((regionOf Tryz.f112 5).getD 6 default)).contains 5 = true
      kernel_rfl
    · show (preds ((regionOf Tryz.f112 5).getD 7 default)).contains 6 = true
      kernel_rfl
  · intro i o ho hd
    have hi : i < 8 := by rw [← hl]; exact (List.getElem?_eq_some_iff.1 ho).1
    have he : (regionOf Tryz.f112 5).getD i default = o := by simp [List.getD, ho]
    rcases Nat.lt_or_ge i 7 with h | h
    · have := List.all_eq_true.1 hds i (List.mem_range.2 h)
      rw [he, hd] at this
      cases this
    · obtain rfl : i = 7 := by omega
      exact ⟨by decide, fun v => ⟨(fun h => absurd h (by decide)), (fun h => absurd h (by decide)), (fun h => absurd h (by decide)), (fun h => absurd h (by decide))⟩⟩
  · intro n s s' w h hs
    have e1 : s 4 = s' 4 := h 0 (by decide) (by kernel_rfl)
    have e2 : s 5 = s' 5 := h 1 (by decide) (by kernel_rfl)
    have e3 : s 6 = s' 6 := h 2 (by decide) (by kernel_rfl)
    rcases n with _ | _ | _ | _ | n
    · exact hs
    · obtain ⟨t, q, g1, g2, g3, g4, g5⟩ := hs
      exact ⟨t, q, g1, g2, g3, g4, e1 ▸ g5⟩
    · obtain ⟨t, q, b, g1, g2, g3⟩ := hs
      exact ⟨t, q, b, g1, e2 ▸ g2, g3⟩
    · obtain ⟨t, q, b, g1, g2, g3⟩ := hs
      exact ⟨t, q, b, g1, e3 ▸ g2, g3⟩
    · exact hs
  · intro i hi hni a w n s hd hsz hk hp hn hs
    rw [hl] at hi
    have hii : i = 0 ∨ i = 1 ∨ i = 2 ∨ i = 3 := by simp at hni; omega
    have ke3 : a.eval (.tmp 3) = .pointer (some ⟨q3, 0, none⟩) := getD_of ((hk 3 hk3).trans h3)
    have ke0 : a.eval (.tmp 0) = .pointer (some ⟨r, 0, none⟩) := getD_of ((hk 0 hk0).trans h0)
    have cc := bx hs
    rcases hii with rfl | rfl | rfl | rfl
    · exact st_want (wnone rfl) (op_load ke3 (ld_Tok cc) ⟨_, rfl, rfl, ⟨fun _ => rfl, (fun h => absurd h (by decide)), (fun h => absurd h (by decide)), (fun h => absurd h (by decide))⟩⟩)
    · exact st_want (wnone rfl) (op_fieldAddr ke3 (fa_tok q3 1 w (by omega)) ⟨_, rfl, rfl, ⟨(fun h => absurd h (by decide)), (fun h => absurd h (by decide)), fun _ => rfl, (fun h => absurd h (by decide))⟩⟩)
    · have e1 : a.eval (.tmp 21) = .pointer (some ⟨q3, 1, none⟩) := (hp 1 (by kernel_rfl)).2.2.1 rfl
      exact st_want (wnone rfl) (op_load e1 (ld_str ((blk cc).2.1 1 _ rfl)) ⟨_, rfl, rfl, ⟨(fun h => absurd h (by decide)), (fun h => absurd h (by decide)), (fun h => absurd h (by decide)), fun _ => rfl⟩⟩)
    · exact st_want (wnone rfl) (op_move ⟨_, rfl, rfl, ⟨(fun h => absurd h (by decide)), fun _ => ke0, (fun h => absurd h (by decide)), (fun h => absurd h (by decide))⟩⟩)
  · intro k hk a w hd hsz hkp hp hs
    have hk4 : k = 0 ∨ k = 1 ∨ k = 2 ∨ k = 3 := by simp at hk; omega
    have ke2 : a.tmps.getD 2 undef = .pointer (some ⟨q6, 0, none⟩) := getD_of ((hkp 2 hk2).trans h2)
    rcases hk4 with rfl | rfl | rfl | rfl
    · obtain rfl : w = W.drew := hs
      have e1 : a.tmps.getD 23 undef = .pointer (some ⟨r, 0, none⟩) := (hp 3 (by kernel_rfl)).2.1 rfl
      refine st_want (wnone rfl) (op_callP enter_imp ?_)
      have hargs : (#[Operand.tmp 23]).map a.eval = #[.pointer (some ⟨r, 0, none⟩)] := by
        simp only [List.map_toArray, List.map_cons, List.map_nil, Act.eval]
        rw [e1]
      rw [hargs]
      refine hC.mono ?_
      intro e w' h'
      rcases hX : X with er | ⟨t, q⟩
      · rw [hX] at h'
        obtain ⟨ei, en⟩ := er
        obtain ⟨hb, h'⟩ := h'
        obtain rfl : e = _ := h'
        exact .inr ⟨_, rfl, herr a w' ei en hX hd ((But.of ((Below.refl _ W).drew)).trans hb)⟩
      · rw [hX] at h'
        obtain ⟨hb, hle, hR, v, rfl, hv⟩ := h'
        exact .inl ⟨v, rfl, v, rfl, (fun _ => ⟨(fun h => absurd h (by decide)), (fun h => absurd h (by decide)), (fun h => absurd h (by decide)), (fun h => absurd h (by decide))⟩), t, q, (by first | rfl | exact hX), ((But.of ((Below.refl _ W).drew)).trans hb), hR, hle, hv⟩
    · obtain ⟨t, q, hX, hb, hR, hle, hv⟩ := hs
      have hv' : IsE w W.heap.size (a.tmps.getD 24 undef) t := hv
      obtain ⟨i0, i6, s1, s2, b3, a4, n4, c4, e1⟩ := hv'.form
      rw [e1] at hv'
      have hnode := node (w := w) (lo := W.heap.size) (l := [t]) (vs := [[.int .i64 i0, .string s1, .string s2, .bool b3, .slice a4 n4 c4, .int .i64 0, .int .i64 i6]]) (cs := #[.int .i64 i0, .string s1, .string s2, .bool b3, .slice a4 n4 c4, .int .i64 0, .int .i64 i6]) (ty := 36) 25 ai T ⟨#[]⟩ false rfl rfl (by simp) rfl (by simp) hb.size (fun j v t' hv ht => by
        rcases j with _ | j
        · obtain rfl := Option.some.inj hv
          obtain rfl := Option.some.inj ht
          exact hv'
        · simp at hv)
      have hB : Below w.heap.size w (w.alloc (.cells #[.int .i64 i0, .string s1, .string s2, .bool b3, .slice a4 n4 c4, .int .i64 0, .int .i64 i6] 36)) := (Below.refl _ w).alloc (Nat.le_refl _) _
      exact st_want (wnone rfl) (op_bs1E e1 ⟨_, rfl, (fun _ => ⟨(fun h => absurd h (by decide)), (fun h => absurd h (by decide)), (fun h => absurd h (by decide)), (fun h => absurd h (by decide))⟩), t, q, w.heap.size, hX, rfl, hb.trans (But.of hB), hR.keep hB, hle, hnode⟩)
    · obtain ⟨t, q, b, hX, hsl, hb, hR, hle, hv⟩ := hs
      have e1 : a.tmps.getD 20 undef = .agg #[.int .i64 kk, .string T, .int .i64 ai] := (hp 0 (by kernel_rfl)).1 rfl
      have e2 : a.tmps.getD 25 undef = .slice (some ⟨b, 0, none⟩) 1 1 := hsl
      have e3 : a.tmps.getD 22 undef = .string T := (hp 2 (by kernel_rfl)).2.2.2 rfl
      refine st_want (wnone rfl) (op_call enter_named ?_)
      have hargs : (#[Operand.const (.int .i64 25), .tmp 20, .tmp 22, .tmp 25]).map a.eval = #[.int .i64 25, .agg #[.int .i64 kk, .string T, .int .i64 ai], .string T, .slice (some ⟨b, 0, none⟩) 1 1] := by
        simp only [List.map_toArray, List.map_cons, List.map_nil, Act.eval]
        rw [e1, e2, e3]
      rw [hargs]
      refine (named_any _ _ _ _ _ _ _ _ _).mono ?_
      rintro ex w' ⟨rfl, hbw⟩
      exact ⟨_, rfl, _, rfl, (fun _ => ⟨(fun h => absurd h (by decide)), (fun h => absurd h (by decide)), (fun h => absurd h (by decide)), (fun h => absurd h (by decide))⟩), t, q, b, hX, rfl, hb.trans (But.of hbw), hR.keep hbw, hle, hv.keep (Stays.of hbw) (Nat.le_refl _)⟩
    · obtain ⟨t, q, b, hX, hnd, hb, hR, hle, hv⟩ := hs
      have e2 : a.tmps.getD 26 undef = .agg #[.int .i64 25, .string T, .string ⟨#[]⟩, .bool false, .slice (some ⟨b, 0, none⟩) 1 1, .int .i64 0, .int .i64 ai] := hnd
      have hz : ZB w q6 := (hb.block q6 (blk z6).1 (Ne.symm n2)).trans z6
      exact st_want (wnone rfl) (op_stE ke2 e2 hz ⟨undef, rfl, (fun h => absurd (show false = true from h) (by decide)), t, q, b, w, hX, hb, hR, hle, hv, rfl⟩)
  · intro a w hd hsz hk hp hs
    obtain ⟨t, q, b, W2, hX, hb, hR, hle, hv, rfl⟩ := hs
    exact hend a W2 t q b hX hd hk hb hR hle hv
def stpart_r7 (W : World) (r : Nat) (ts : List (Int × ByteArray × Int)) (p d q6 : Nat) (X : (Except (Int × Int) (Ex × Nat))) (ai : Int) (T : ByteArray) (n : Nat) (s : Nat → Value) (w : World) : Prop := match n with
  | 0 => w = W.drew
  | 1 => ∃ t q, X = .ok (t, q) ∧ But r W w ∧ RD w r ts q d ∧ p ≤ q ∧ IsE w W.heap.size (s 2) t
  | 2 => ∃ t q b, X = .ok (t, q) ∧ s 3 = .slice (some ⟨b, 0, none⟩) 1 1 ∧ But r W w ∧ RD w r ts q d ∧ p ≤ q ∧ IsE w W.heap.size (.agg #[.int .i64 26, .string ⟨#[]⟩, .string ⟨#[]⟩, .bool false, .slice (some ⟨b, 0, none⟩) 1 1, .int .i64 0, .int .i64 ai]) (.mk 26 ⟨#[]⟩ ⟨#[]⟩ false [t] ai)
  | 3 => ∃ t q b, X = .ok (t, q) ∧ s 4 = .agg #[.int .i64 26, .string ⟨#[]⟩, .string ⟨#[]⟩, .bool false, .slice (some ⟨b, 0, none⟩) 1 1, .int .i64 0, .int .i64 ai] ∧ But r W w ∧ RD w r ts q d ∧ p ≤ q ∧ IsE w W.heap.size (.agg #[.int .i64 26, .string ⟨#[]⟩, .string ⟨#[]⟩, .bool false, .slice (some ⟨b, 0, none⟩) 1 1, .int .i64 0, .int .i64 ai]) (.mk 26 ⟨#[]⟩ ⟨#[]⟩ false [t] ai)
  | _ => ∃ t q b W2, X = .ok (t, q) ∧ But r W W2 ∧ RD W2 r ts q d ∧ p ≤ q ∧ IsE W2 W.heap.size (.agg #[.int .i64 26, .string ⟨#[]⟩, .string ⟨#[]⟩, .bool false, .slice (some ⟨b, 0, none⟩) 1 1, .int .i64 0, .int .i64 ai]) (.mk 26 ⟨#[]⟩ ⟨#[]⟩ false [t] ai) ∧ w = set7 W2 q6 (.int .i64 26) (.string ⟨#[]⟩) (.string ⟨#[]⟩) (.bool false) (.slice (some ⟨b, 0, none⟩) 1 1) (.int .i64 0) (.int .i64 ai)
theorem stpart_r7_at {W : World} {r p d q6 : Nat} {ts : List (Int × ByteArray × Int)} {X : (Except (Int × Int) (Ex × Nat))} {ai : Int} {T : ByteArray} {n : Nat} {s : Nat → Value} {w : World} (h : stpart_r7 W r ts p d q6 X ai T n s w) : ∀ q, q < W.heap.size → q ≠ q6 → r ≠ q → w.heap[q]? = W.heap[q]? := by
  intro q3 hq hne hr
  rcases n with _ | _ | _ | _ | n
  · obtain rfl : w = W.drew := h
    rfl
  · obtain ⟨t, q, -, hb, -⟩ := h
    exact hb.block q3 hq (Ne.symm hr)
  · obtain ⟨t, q, b, -, -, hb, -⟩ := h
    exact hb.block q3 hq (Ne.symm hr)
  · obtain ⟨t, q, b, -, -, hb, -⟩ := h
    exact hb.block q3 hq (Ne.symm hr)
  · obtain ⟨t, q, b, W2, -, hb, -, -, -, rfl⟩ := h
    unfold set7
    rw [same7 hne]
    exact hb.block q3 hq (Ne.symm hr)
set_option maxRecDepth 100000 in
set_option maxHeartbeats 4000000 in
theorem part_r7 {Q : Exit → Act → World → Prop} {a0 : Act} {W : World} {r p d q3 q6 : Nat} {ts : List (Int × ByteArray × Int)} {X : (Except (Int × Int) (Ex × Nat))} {kk ai : Int} {T : ByteArray} (hN : a0.tmps.size = 45) (h0 : a0.tmps[0]? = some (.pointer (some ⟨r, 0, none⟩))) (h2 : a0.tmps[2]? = some (.pointer (some ⟨q6, 0, none⟩))) (h3 : a0.tmps[3]? = some (.pointer (some ⟨q3, 0, none⟩)))
    (b3 : W.heap[q3]? = some (.cells #[.int .i64 kk, .string T, .int .i64 ai] 74)) (z6 : ZB W q6) (n1 : r ≠ q3) (n2 : r ≠ q6) (n3 : q3 ≠ q6) (hC : Calls Tryz.prog 115 #[.pointer (some ⟨r, 0, none⟩)] W.drew (PE X r ts p d W.drew))
    (herr : ∀ (a : Act) (w : World) (ei en : Int), X = .error (ei, en) → a.defers = a0.defers → But r W w → Q (.panic [{ v := .iface 89 (.agg #[.int .i64 ei, .int .i64 en]), recovered := false }]) a w)
    (hend : ∀ (a : Act) (W2 : World) (t : Ex) (q b : Nat), X = .ok (t, q) → a.defers = a0.defers → (∀ k, k ∈ ((List.range 45).filter fun i => !([30, 31, 32, 33, 34].contains i)) → a.tmps[k]? = a0.tmps[k]?) → But r W W2 → RD W2 r ts q d → p ≤ q → IsE W2 W.heap.size (.agg #[.int .i64 26, .string ⟨#[]⟩, .string ⟨#[]⟩, .bool false, .slice (some ⟨b, 0, none⟩) 1 1, .int .i64 0, .int .i64 ai]) (.mk 26 ⟨#[]⟩ ⟨#[]⟩ false [t] ai) → Q .normal a (set7 W2 q6 (.int .i64 26) (.string ⟨#[]⟩) (.string ⟨#[]⟩) (.bool false) (.slice (some ⟨b, 0, none⟩) 1 1) (.int .i64 0) (.int .i64 ai))) :
    (Code.region 7 (regionOf Tryz.f112 7).toArray true).wp Tryz.prog Q a0 W := by
  have hl : (regionOf Tryz.f112 7).length = 6 := by kernel_rfl
  have hds : ((List.range 5).all fun i => ((regionOf Tryz.f112 7).getD i default).dst.isSome) = true := by kernel_rfl
  have bx : ∀ {n : Nat} {s : Nat → Value} {w : World}, stpart_r7 W r ts p d q6 X ai T n s w → w.heap[q3]? = some (.cells #[.int .i64 kk, .string T, .int .i64 ai] 74) := fun h => (stpart_r7_at h q3 (blk b3).1 n3 n1).trans b3
  have hk3 : 3 ∈ ((List.range 45).filter fun i => !([30, 31, 32, 33, 34].contains i)) := by decide
  have hk2 : 2 ∈ ((List.range 45).filter fun i => !([30, 31, 32, 33, 34].contains i)) := by decide
  have hk0 : 0 ∈ ((List.range 45).filter fun i => !([30, 31, 32, 33, 34].contains i)) := by decide
  refine wp_region_any (by kernel_rfl) ?_
  refine seqN (l := (regionOf Tryz.f112 7)) 45 ((List.range 45).filter fun i => !([30, 31, 32, 33, 34].contains i)) [2, 3, 4, 5] (fun j v => (j = 0 → v = .agg #[.int .i64 kk, .string T, .int .i64 ai]) ∧ (j = 1 → v = .pointer (some ⟨r, 0, none⟩))) (stpart_r7 W r ts p d q6 X ai T) (by kernel_rfl) hN (by decide) (by rw [hl]; decide) ?_ ?_ ?_ rfl ?_ ?_ ?_
  · intro k hk
    have hk3 : k = 0 ∨ k = 1 ∨ k = 2 := by simp at hk; omega
    rcases hk3 with rfl | rfl | rfl
    · show (preds ((regionOf Tryz.f112 7).getD 3 default)).contains 2 = true
      kernel_rfl
    · show (preds ((regionOf Tryz.f112 7).getD 4 default)).contains 3 = true
      kernel_rfl
    · show (preds ((regionOf Tryz.f112 7).getD 5 default)).contains 4 = true
      kernel_rfl
  · intro i o ho hd
    have hi : i < 6 := by rw [← hl]; exact (List.getElem?_eq_some_iff.1 ho).1
    have he : (regionOf Tryz.f112 7).getD i default = o := by simp [List.getD, ho]
    rcases Nat.lt_or_ge i 5 with h | h
    · have := List.all_eq_true.1 hds i (List.mem_range.2 h)
      rw [he, hd] at this
      cases this
    · obtain rfl : i = 5 := by omega
      exact ⟨by decide, fun v => ⟨(fun h => absurd h (by decide)), (fun h => absurd h (by decide))⟩⟩
  · intro n s s' w h hs
    have e1 : s 2 = s' 2 := h 0 (by decide) (by kernel_rfl)
    have e2 : s 3 = s' 3 := h 1 (by decide) (by kernel_rfl)
    have e3 : s 4 = s' 4 := h 2 (by decide) (by kernel_rfl)
    rcases n with _ | _ | _ | _ | n
    · exact hs
    · obtain ⟨t, q, g1, g2, g3, g4, g5⟩ := hs
      exact ⟨t, q, g1, g2, g3, g4, e1 ▸ g5⟩
    · obtain ⟨t, q, b, g1, g2, g3⟩ := hs
      exact ⟨t, q, b, g1, e2 ▸ g2, g3⟩
    · obtain ⟨t, q, b, g1, g2, g3⟩ := hs
      exact ⟨t, q, b, g1, e3 ▸ g2, g3⟩
    · exact hs
  · intro i hi hni a w n s hd hsz hk hp hn hs
    rw [hl] at hi
    have hii : i = 0 ∨ i = 1 := by simp at hni; omega
    have ke3 : a.eval (.tmp 3) = .pointer (some ⟨q3, 0, none⟩) := getD_of ((hk 3 hk3).trans h3)
    have ke0 : a.eval (.tmp 0) = .pointer (some ⟨r, 0, none⟩) := getD_of ((hk 0 hk0).trans h0)
    have cc := bx hs
    rcases hii with rfl | rfl
    · exact st_want (wnone rfl) (op_load ke3 (ld_Tok cc) ⟨_, rfl, rfl, ⟨fun _ => rfl, (fun h => absurd h (by decide))⟩⟩)
    · exact st_want (wnone rfl) (op_move ⟨_, rfl, rfl, ⟨(fun h => absurd h (by decide)), fun _ => ke0⟩⟩)
  · intro k hk a w hd hsz hkp hp hs
    have hk4 : k = 0 ∨ k = 1 ∨ k = 2 ∨ k = 3 := by simp at hk; omega
    have ke2 : a.tmps.getD 2 undef = .pointer (some ⟨q6, 0, none⟩) := getD_of ((hkp 2 hk2).trans h2)
    rcases hk4 with rfl | rfl | rfl | rfl
    · obtain rfl : w = W.drew := hs
      have e1 : a.tmps.getD 31 undef = .pointer (some ⟨r, 0, none⟩) := (hp 1 (by kernel_rfl)).2 rfl
      refine st_want (wnone rfl) (op_callP enter_imp ?_)
      have hargs : (#[Operand.tmp 31]).map a.eval = #[.pointer (some ⟨r, 0, none⟩)] := by
        simp only [List.map_toArray, List.map_cons, List.map_nil, Act.eval]
        rw [e1]
      rw [hargs]
      refine hC.mono ?_
      intro e w' h'
      rcases hX : X with er | ⟨t, q⟩
      · rw [hX] at h'
        obtain ⟨ei, en⟩ := er
        obtain ⟨hb, h'⟩ := h'
        obtain rfl : e = _ := h'
        exact .inr ⟨_, rfl, herr a w' ei en hX hd ((But.of ((Below.refl _ W).drew)).trans hb)⟩
      · rw [hX] at h'
        obtain ⟨hb, hle, hR, v, rfl, hv⟩ := h'
        exact .inl ⟨v, rfl, v, rfl, (fun _ => ⟨(fun h => absurd h (by decide)), (fun h => absurd h (by decide))⟩), t, q, (by first | rfl | exact hX), ((But.of ((Below.refl _ W).drew)).trans hb), hR, hle, hv⟩
    · obtain ⟨t, q, hX, hb, hR, hle, hv⟩ := hs
      have hv' : IsE w W.heap.size (a.tmps.getD 32 undef) t := hv
      obtain ⟨i0, i6, s1, s2, b3, a4, n4, c4, e1⟩ := hv'.form
      rw [e1] at hv'
      have hnode := node (w := w) (lo := W.heap.size) (l := [t]) (vs := [[.int .i64 i0, .string s1, .string s2, .bool b3, .slice a4 n4 c4, .int .i64 0, .int .i64 i6]]) (cs := #[.int .i64 i0, .string s1, .string s2, .bool b3, .slice a4 n4 c4, .int .i64 0, .int .i64 i6]) (ty := 36) 26 ai ⟨#[]⟩ ⟨#[]⟩ false rfl rfl (by simp) rfl (by simp) hb.size (fun j v t' hv ht => by
        rcases j with _ | j
        · obtain rfl := Option.some.inj hv
          obtain rfl := Option.some.inj ht
          exact hv'
        · simp at hv)
      have hB : Below w.heap.size w (w.alloc (.cells #[.int .i64 i0, .string s1, .string s2, .bool b3, .slice a4 n4 c4, .int .i64 0, .int .i64 i6] 36)) := (Below.refl _ w).alloc (Nat.le_refl _) _
      exact st_want (wnone rfl) (op_bs1E e1 ⟨_, rfl, (fun _ => ⟨(fun h => absurd h (by decide)), (fun h => absurd h (by decide))⟩), t, q, w.heap.size, hX, rfl, hb.trans (But.of hB), hR.keep hB, hle, hnode⟩)
    · obtain ⟨t, q, b, hX, hsl, hb, hR, hle, hv⟩ := hs
      have e1 : a.tmps.getD 30 undef = .agg #[.int .i64 kk, .string T, .int .i64 ai] := (hp 0 (by kernel_rfl)).1 rfl
      have e2 : a.tmps.getD 33 undef = .slice (some ⟨b, 0, none⟩) 1 1 := hsl
      refine st_want (wnone rfl) (op_call enter_made ?_)
      have hargs : (#[Operand.const (.int .i64 26), .tmp 30, .tmp 33]).map a.eval = #[.int .i64 26, .agg #[.int .i64 kk, .string T, .int .i64 ai], .slice (some ⟨b, 0, none⟩) 1 1] := by
        simp only [List.map_toArray, List.map_cons, List.map_nil, Act.eval]
        rw [e1, e2]
      rw [hargs]
      refine (made_any _ _ _ _ _ _ _ _).mono ?_
      rintro ex w' ⟨rfl, hbw⟩
      exact ⟨_, rfl, _, rfl, (fun _ => ⟨(fun h => absurd h (by decide)), (fun h => absurd h (by decide))⟩), t, q, b, hX, rfl, hb.trans (But.of hbw), hR.keep hbw, hle, hv.keep (Stays.of hbw) (Nat.le_refl _)⟩
    · obtain ⟨t, q, b, hX, hnd, hb, hR, hle, hv⟩ := hs
      have e2 : a.tmps.getD 34 undef = .agg #[.int .i64 26, .string ⟨#[]⟩, .string ⟨#[]⟩, .bool false, .slice (some ⟨b, 0, none⟩) 1 1, .int .i64 0, .int .i64 ai] := hnd
      have hz : ZB w q6 := (hb.block q6 (blk z6).1 (Ne.symm n2)).trans z6
      exact st_want (wnone rfl) (op_stE ke2 e2 hz ⟨undef, rfl, (fun h => absurd (show false = true from h) (by decide)), t, q, b, w, hX, hb, hR, hle, hv, rfl⟩)
  · intro a w hd hsz hk hp hs
    obtain ⟨t, q, b, W2, hX, hb, hR, hle, hv, rfl⟩ := hs
    exact hend a W2 t q b hX hd hk hb hR hle hv
def stpart_r9 (W : World) (r : Nat) (ts : List (Int × ByteArray × Int)) (p d q6 : Nat) (X : (Except (Int × Int) (Ex × Nat))) (ai : Int) (T : ByteArray) (n : Nat) (s : Nat → Value) (w : World) : Prop := match n with
  | 0 => w = W.drew
  | 1 => ∃ t q, X = .ok (t, q) ∧ But r W w ∧ RD w r ts q d ∧ p ≤ q ∧ IsE w W.heap.size (s 2) t
  | 2 => ∃ t q b, X = .ok (t, q) ∧ s 3 = .slice (some ⟨b, 0, none⟩) 1 1 ∧ But r W w ∧ RD w r ts q d ∧ p ≤ q ∧ IsE w W.heap.size (.agg #[.int .i64 28, .string ⟨#[]⟩, .string ⟨#[]⟩, .bool false, .slice (some ⟨b, 0, none⟩) 1 1, .int .i64 0, .int .i64 ai]) (.mk 28 ⟨#[]⟩ ⟨#[]⟩ false [t] ai)
  | 3 => ∃ t q b, X = .ok (t, q) ∧ s 4 = .agg #[.int .i64 28, .string ⟨#[]⟩, .string ⟨#[]⟩, .bool false, .slice (some ⟨b, 0, none⟩) 1 1, .int .i64 0, .int .i64 ai] ∧ But r W w ∧ RD w r ts q d ∧ p ≤ q ∧ IsE w W.heap.size (.agg #[.int .i64 28, .string ⟨#[]⟩, .string ⟨#[]⟩, .bool false, .slice (some ⟨b, 0, none⟩) 1 1, .int .i64 0, .int .i64 ai]) (.mk 28 ⟨#[]⟩ ⟨#[]⟩ false [t] ai)
  | _ => ∃ t q b W2, X = .ok (t, q) ∧ But r W W2 ∧ RD W2 r ts q d ∧ p ≤ q ∧ IsE W2 W.heap.size (.agg #[.int .i64 28, .string ⟨#[]⟩, .string ⟨#[]⟩, .bool false, .slice (some ⟨b, 0, none⟩) 1 1, .int .i64 0, .int .i64 ai]) (.mk 28 ⟨#[]⟩ ⟨#[]⟩ false [t] ai) ∧ w = set7 W2 q6 (.int .i64 28) (.string ⟨#[]⟩) (.string ⟨#[]⟩) (.bool false) (.slice (some ⟨b, 0, none⟩) 1 1) (.int .i64 0) (.int .i64 ai)
theorem stpart_r9_at {W : World} {r p d q6 : Nat} {ts : List (Int × ByteArray × Int)} {X : (Except (Int × Int) (Ex × Nat))} {ai : Int} {T : ByteArray} {n : Nat} {s : Nat → Value} {w : World} (h : stpart_r9 W r ts p d q6 X ai T n s w) : ∀ q, q < W.heap.size → q ≠ q6 → r ≠ q → w.heap[q]? = W.heap[q]? := by
  intro q3 hq hne hr
  rcases n with _ | _ | _ | _ | n
  · obtain rfl : w = W.drew := h
    rfl
  · obtain ⟨t, q, -, hb, -⟩ := h
    exact hb.block q3 hq (Ne.symm hr)
  · obtain ⟨t, q, b, -, -, hb, -⟩ := h
    exact hb.block q3 hq (Ne.symm hr)
  · obtain ⟨t, q, b, -, -, hb, -⟩ := h
    exact hb.block q3 hq (Ne.symm hr)
  · obtain ⟨t, q, b, W2, -, hb, -, -, -, rfl⟩ := h
    unfold set7
    rw [same7 hne]
    exact hb.block q3 hq (Ne.symm hr)
set_option maxRecDepth 100000 in
set_option maxHeartbeats 4000000 in
theorem part_r9 {Q : Exit → Act → World → Prop} {a0 : Act} {W : World} {r p d q3 q6 : Nat} {ts : List (Int × ByteArray × Int)} {X : (Except (Int × Int) (Ex × Nat))} {kk ai : Int} {T : ByteArray} (hN : a0.tmps.size = 45) (h0 : a0.tmps[0]? = some (.pointer (some ⟨r, 0, none⟩))) (h2 : a0.tmps[2]? = some (.pointer (some ⟨q6, 0, none⟩))) (h3 : a0.tmps[3]? = some (.pointer (some ⟨q3, 0, none⟩)))
    (b3 : W.heap[q3]? = some (.cells #[.int .i64 kk, .string T, .int .i64 ai] 74)) (z6 : ZB W q6) (n1 : r ≠ q3) (n2 : r ≠ q6) (n3 : q3 ≠ q6) (hC : Calls Tryz.prog 115 #[.pointer (some ⟨r, 0, none⟩)] W.drew (PE X r ts p d W.drew))
    (herr : ∀ (a : Act) (w : World) (ei en : Int), X = .error (ei, en) → a.defers = a0.defers → But r W w → Q (.panic [{ v := .iface 89 (.agg #[.int .i64 ei, .int .i64 en]), recovered := false }]) a w)
    (hend : ∀ (a : Act) (W2 : World) (t : Ex) (q b : Nat), X = .ok (t, q) → a.defers = a0.defers → (∀ k, k ∈ ((List.range 45).filter fun i => !([38, 39, 40, 41, 42].contains i)) → a.tmps[k]? = a0.tmps[k]?) → But r W W2 → RD W2 r ts q d → p ≤ q → IsE W2 W.heap.size (.agg #[.int .i64 28, .string ⟨#[]⟩, .string ⟨#[]⟩, .bool false, .slice (some ⟨b, 0, none⟩) 1 1, .int .i64 0, .int .i64 ai]) (.mk 28 ⟨#[]⟩ ⟨#[]⟩ false [t] ai) → Q .normal a (set7 W2 q6 (.int .i64 28) (.string ⟨#[]⟩) (.string ⟨#[]⟩) (.bool false) (.slice (some ⟨b, 0, none⟩) 1 1) (.int .i64 0) (.int .i64 ai))) :
    (Code.region 9 (regionOf Tryz.f112 9).toArray true).wp Tryz.prog Q a0 W := by
  have hl : (regionOf Tryz.f112 9).length = 6 := by kernel_rfl
  have hds : ((List.range 5).all fun i => ((regionOf Tryz.f112 9).getD i default).dst.isSome) = true := by kernel_rfl
  have bx : ∀ {n : Nat} {s : Nat → Value} {w : World}, stpart_r9 W r ts p d q6 X ai T n s w → w.heap[q3]? = some (.cells #[.int .i64 kk, .string T, .int .i64 ai] 74) := fun h => (stpart_r9_at h q3 (blk b3).1 n3 n1).trans b3
  have hk3 : 3 ∈ ((List.range 45).filter fun i => !([38, 39, 40, 41, 42].contains i)) := by decide
  have hk2 : 2 ∈ ((List.range 45).filter fun i => !([38, 39, 40, 41, 42].contains i)) := by decide
  have hk0 : 0 ∈ ((List.range 45).filter fun i => !([38, 39, 40, 41, 42].contains i)) := by decide
  refine wp_region_any (by kernel_rfl) ?_
  refine seqN (l := (regionOf Tryz.f112 9)) 45 ((List.range 45).filter fun i => !([38, 39, 40, 41, 42].contains i)) [2, 3, 4, 5] (fun j v => (j = 0 → v = .agg #[.int .i64 kk, .string T, .int .i64 ai]) ∧ (j = 1 → v = .pointer (some ⟨r, 0, none⟩))) (stpart_r9 W r ts p d q6 X ai T) (by kernel_rfl) hN (by decide) (by rw [hl]; decide) ?_ ?_ ?_ rfl ?_ ?_ ?_
  · intro k hk
    have hk3 : k = 0 ∨ k = 1 ∨ k = 2 := by simp at hk; omega
    rcases hk3 with rfl | rfl | rfl
    · show (preds ((regionOf Tryz.f112 9).getD 3 default)).contains 2 = true
      kernel_rfl
    · show (preds ((regionOf Tryz.f112 9).getD 4 default)).contains 3 = true
      kernel_rfl
    · show (preds ((regionOf Tryz.f112 9).getD 5 default)).contains 4 = true
      kernel_rfl
  · intro i o ho hd
    have hi : i < 6 := by rw [← hl]; exact (List.getElem?_eq_some_iff.1 ho).1
    have he : (regionOf Tryz.f112 9).getD i default = o := by simp [List.getD, ho]
    rcases Nat.lt_or_ge i 5 with h | h
    · have := List.all_eq_true.1 hds i (List.mem_range.2 h)
      rw [he, hd] at this
      cases this
    · obtain rfl : i = 5 := by omega
      exact ⟨by decide, fun v => ⟨(fun h => absurd h (by decide)), (fun h => absurd h (by decide))⟩⟩
  · intro n s s' w h hs
    have e1 : s 2 = s' 2 := h 0 (by decide) (by kernel_rfl)
    have e2 : s 3 = s' 3 := h 1 (by decide) (by kernel_rfl)
    have e3 : s 4 = s' 4 := h 2 (by decide) (by kernel_rfl)
    rcases n with _ | _ | _ | _ | n
    · exact hs
    · obtain ⟨t, q, g1, g2, g3, g4, g5⟩ := hs
      exact ⟨t, q, g1, g2, g3, g4, e1 ▸ g5⟩
    · obtain ⟨t, q, b, g1, g2, g3⟩ := hs
      exact ⟨t, q, b, g1, e2 ▸ g2, g3⟩
    · obtain ⟨t, q, b, g1, g2, g3⟩ := hs
      exact ⟨t, q, b, g1, e3 ▸ g2, g3⟩
    · exact hs
  · intro i hi hni a w n s hd hsz hk hp hn hs
    rw [hl] at hi
    have hii : i = 0 ∨ i = 1 := by simp at hni; omega
    have ke3 : a.eval (.tmp 3) = .pointer (some ⟨q3, 0, none⟩) := getD_of ((hk 3 hk3).trans h3)
    have ke0 : a.eval (.tmp 0) = .pointer (some ⟨r, 0, none⟩) := getD_of ((hk 0 hk0).trans h0)
    have cc := bx hs
    rcases hii with rfl | rfl
    · exact st_want (wnone rfl) (op_load ke3 (ld_Tok cc) ⟨_, rfl, rfl, ⟨fun _ => rfl, (fun h => absurd h (by decide))⟩⟩)
    · exact st_want (wnone rfl) (op_move ⟨_, rfl, rfl, ⟨(fun h => absurd h (by decide)), fun _ => ke0⟩⟩)
  · intro k hk a w hd hsz hkp hp hs
    have hk4 : k = 0 ∨ k = 1 ∨ k = 2 ∨ k = 3 := by simp at hk; omega
    have ke2 : a.tmps.getD 2 undef = .pointer (some ⟨q6, 0, none⟩) := getD_of ((hkp 2 hk2).trans h2)
    rcases hk4 with rfl | rfl | rfl | rfl
    · obtain rfl : w = W.drew := hs
      have e1 : a.tmps.getD 39 undef = .pointer (some ⟨r, 0, none⟩) := (hp 1 (by kernel_rfl)).2 rfl
      refine st_want (wnone rfl) (op_callP enter_imp ?_)
      have hargs : (#[Operand.tmp 39]).map a.eval = #[.pointer (some ⟨r, 0, none⟩)] := by
        simp only [List.map_toArray, List.map_cons, List.map_nil, Act.eval]
        rw [e1]
      rw [hargs]
      refine hC.mono ?_
      intro e w' h'
      rcases hX : X with er | ⟨t, q⟩
      · rw [hX] at h'
        obtain ⟨ei, en⟩ := er
        obtain ⟨hb, h'⟩ := h'
        obtain rfl : e = _ := h'
        exact .inr ⟨_, rfl, herr a w' ei en hX hd ((But.of ((Below.refl _ W).drew)).trans hb)⟩
      · rw [hX] at h'
        obtain ⟨hb, hle, hR, v, rfl, hv⟩ := h'
        exact .inl ⟨v, rfl, v, rfl, (fun _ => ⟨(fun h => absurd h (by decide)), (fun h => absurd h (by decide))⟩), t, q, (by first | rfl | exact hX), ((But.of ((Below.refl _ W).drew)).trans hb), hR, hle, hv⟩
    · obtain ⟨t, q, hX, hb, hR, hle, hv⟩ := hs
      have hv' : IsE w W.heap.size (a.tmps.getD 40 undef) t := hv
      obtain ⟨i0, i6, s1, s2, b3, a4, n4, c4, e1⟩ := hv'.form
      rw [e1] at hv'
      have hnode := node (w := w) (lo := W.heap.size) (l := [t]) (vs := [[.int .i64 i0, .string s1, .string s2, .bool b3, .slice a4 n4 c4, .int .i64 0, .int .i64 i6]]) (cs := #[.int .i64 i0, .string s1, .string s2, .bool b3, .slice a4 n4 c4, .int .i64 0, .int .i64 i6]) (ty := 36) 28 ai ⟨#[]⟩ ⟨#[]⟩ false rfl rfl (by simp) rfl (by simp) hb.size (fun j v t' hv ht => by
        rcases j with _ | j
        · obtain rfl := Option.some.inj hv
          obtain rfl := Option.some.inj ht
          exact hv'
        · simp at hv)
      have hB : Below w.heap.size w (w.alloc (.cells #[.int .i64 i0, .string s1, .string s2, .bool b3, .slice a4 n4 c4, .int .i64 0, .int .i64 i6] 36)) := (Below.refl _ w).alloc (Nat.le_refl _) _
      exact st_want (wnone rfl) (op_bs1E e1 ⟨_, rfl, (fun _ => ⟨(fun h => absurd h (by decide)), (fun h => absurd h (by decide))⟩), t, q, w.heap.size, hX, rfl, hb.trans (But.of hB), hR.keep hB, hle, hnode⟩)
    · obtain ⟨t, q, b, hX, hsl, hb, hR, hle, hv⟩ := hs
      have e1 : a.tmps.getD 38 undef = .agg #[.int .i64 kk, .string T, .int .i64 ai] := (hp 0 (by kernel_rfl)).1 rfl
      have e2 : a.tmps.getD 41 undef = .slice (some ⟨b, 0, none⟩) 1 1 := hsl
      refine st_want (wnone rfl) (op_call enter_made ?_)
      have hargs : (#[Operand.const (.int .i64 28), .tmp 38, .tmp 41]).map a.eval = #[.int .i64 28, .agg #[.int .i64 kk, .string T, .int .i64 ai], .slice (some ⟨b, 0, none⟩) 1 1] := by
        simp only [List.map_toArray, List.map_cons, List.map_nil, Act.eval]
        rw [e1, e2]
      rw [hargs]
      refine (made_any _ _ _ _ _ _ _ _).mono ?_
      rintro ex w' ⟨rfl, hbw⟩
      exact ⟨_, rfl, _, rfl, (fun _ => ⟨(fun h => absurd h (by decide)), (fun h => absurd h (by decide))⟩), t, q, b, hX, rfl, hb.trans (But.of hbw), hR.keep hbw, hle, hv.keep (Stays.of hbw) (Nat.le_refl _)⟩
    · obtain ⟨t, q, b, hX, hnd, hb, hR, hle, hv⟩ := hs
      have e2 : a.tmps.getD 42 undef = .agg #[.int .i64 28, .string ⟨#[]⟩, .string ⟨#[]⟩, .bool false, .slice (some ⟨b, 0, none⟩) 1 1, .int .i64 0, .int .i64 ai] := hnd
      have hz : ZB w q6 := (hb.block q6 (blk z6).1 (Ne.symm n2)).trans z6
      exact st_want (wnone rfl) (op_stE ke2 e2 hz ⟨undef, rfl, (fun h => absurd (show false = true from h) (by decide)), t, q, b, w, hX, hb, hR, hle, hv, rfl⟩)
  · intro a w hd hsz hk hp hs
    obtain ⟨t, q, b, W2, hX, hb, hR, hle, hv, rfl⟩ := hs
    exact hend a W2 t q b hX hd hk hb hR hle hv
end Go.Proofs.YtfkfnbehdcmgeaaGreatDoor
