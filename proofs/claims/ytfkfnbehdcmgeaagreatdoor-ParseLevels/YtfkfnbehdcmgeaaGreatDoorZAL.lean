/- Package parse: an expression and the end. -/
import Derived.Test.YtfkfnbehdcmgeaaGreatDoorZAE
import Derived.Test.YtfkfnbehdcmgeaaGreatDoorZAG
import Derived.Test.YtfkfnbehdcmgeaaGreatDoorZAH
import Derived.Test.YtfkfnbehdcmgeaaGreatDoorZAJ
import Derived.Test.YtfkfnbehdcmgeaaGreatDoorZAK
import Derived.Test.YtfkfnbehdcmgeaaGreatDoorZAB
set_option linter.unusedVariables false
set_option linter.unusedSimpArgs false

/- Package parse: chains. -/
namespace Go.Proofs.YtfkfnbehdcmgeaaGreatDoor
open Go Go.RowKit
theorem enter_and : Enters Tryz.prog 120 := ⟨fun xs w => by go_simp⟩
theorem enter_cmp : Enters Tryz.prog 122 := ⟨fun xs w => by go_simp⟩
theorem enter_unary : Enters Tryz.prog 126 := ⟨fun xs w => by go_simp⟩
theorem enter_term : Enters Tryz.prog 125 := ⟨fun xs w => by go_simp⟩
theorem enter_sum : Enters Tryz.prog 124 := ⟨fun xs w => by go_simp⟩
set_option maxRecDepth 100000 in
set_option maxHeartbeats 8000000 in
theorem or_of {r d lo : Nat} {ts : List (Int × ByteArray × Int)} {g : Ru → Nat → Nat → (Except (Int × Int) (Ex × Nat))} (hT : TsOk ts) (hS : RuC 120 r ts d lo (andR ts g d)) {w : World} {p : Nat} (hlo : lo ≤ p) (hR : RD w r ts p d) : Calls Tryz.prog 117 #[.pointer (some ⟨r, 0, none⟩)] w (PE (orR ts g d p) r ts p d w) := by
  obtain ⟨Y, hY⟩ : ∃ Y, orR ts g d p = Y := ⟨_, rfl⟩
  rw [hY]
  unfold orR at hY
  have hr := hR.rlt
  obtain ⟨A, eA, hbA, hzA, hsA⟩ := zb_new w
  have HB := hide (But.of (r := r) hbA)
  have HR := hide (hR.keep hbA)
  have HZ := hide hzA
  have HS : Hid (w.heap.size < A.heap.size) := by show _ < _; omega
  have HL : Hid (p ≤ p ∧ lo ≤ p) := ⟨Nat.le_refl _, hlo⟩
  have HSA := hide hsA
  have HE := hide eA
  have HT := hide hT
  have HY := hide hY
  have hrne : r ≠ w.heap.size := by omega
  have hmf : ∀ (fn : Fn) (first cap : Array Value) (w : World), (Instr.makeFunc fn first cap).run Tryz.prog w = .ok (.func fn first cap) w := fun _ _ _ _ => rfl
  replace hS := hide hS
  clear hlo hR hbA hzA hsA eA hT hY
  have HJ := hide (joined_of (unhide HT) (enter_and) (unhide hS))
  obtain ⟨B, eB, hbB, hsB, hhB⟩ := box_new A #[.string ⟨#[124, 124]⟩] 9
  have hAr : r ≠ A.heap.size := by have := unhide HS; omega
  have HC := hide (chain_of (cc0 := 1) (nn0 := 1) (signs := [⟨#[124, 124]⟩]) (unhide HT) (enter_and) (unhide hS) (unhide HJ) (unhide HL).2 ((unhide HR).keep hbB) rfl (fun s hs => by simp only [List.mem_cons, List.not_mem_nil, or_false] at hs; rcases hs with rfl <;> decide) (by simp) ⟨(blk hhB).1, hAr⟩ (fun j s hs => by rw [← eB]; exact strs_at rfl j s hs))
  have hC := unhide HC
  rw [unhide HSA] at hC
  replace HC := hide hC
  clear hC
  have HBB := hide hbB
  have HEB := hide eB
  clear eB hbB hsB hhB
  go_enter Tryz.func117, Tryz.ntmps117
  go_wp2_with fail
  rw [unhide HE, unhide HEB]
  have hbu0 := But.of (r := r) (unhide HBB)
  replace HR := hide ((unhide HR).keep (unhide HBB))
  replace HB := hide ((unhide HB).trans hbu0)
  replace HZ := hide ((unhide HZ).but hbu0 hrne)
  replace HS := hide (Nat.lt_of_lt_of_le (unhide HS) hbu0.size)
  refine (unhide HC).mono ?_
  intro e w1 h1
  rcases hX1 : chainR ts (andR ts g d) [⟨#[124, 124]⟩] p with er | ⟨t1, q1⟩
  · rw [hX1] at h1
    obtain ⟨ei, en⟩ := er
    have hYe : Y = .error (ei, en) := by have h := unhide HY; rw [hX1] at h; exact h.symm
    subst hYe
    obtain ⟨hb1, h1⟩ := h1
    obtain rfl : e = _ := h1
    have HP := hide ((unhide HB).trans hb1)
    clear hb1 HC hX1
    go_wp2
    exact ⟨rfl, unhide HP, rfl⟩
  rw [hX1] at h1
  obtain ⟨hb1, hle1, hR1, v1, rfl, hv1⟩ := h1
  have hY1 := unhide HY
  rw [hX1] at hY1
  replace HY := hide hY1
  obtain ⟨i1, j1, s1, m1, b1, a1, n1, c1, rfl⟩ := hv1.form
  have HT1 := hide (hv1.keep (lo' := w.heap.size + 1) (Stays.of (Below.refl _ _)) (unhide HS))
  replace HB := hide ((unhide HB).trans hb1)
  replace HZ := hide ((unhide HZ).but hb1 hrne)
  replace HS := hide (Nat.lt_of_lt_of_le (unhide HS) hb1.size)
  replace HR := hide hR1
  replace HL := hide (And.intro (Nat.le_trans (unhide HL).1 hle1) (Nat.le_trans (unhide HL).2 hle1))
  clear hb1 hle1 hR1 hv1 HC hX1 hY1
  obtain ⟨y0, y1, y2, y3, y4, y5, y6⟩ := blk7 (unhide HZ)
  obtain ⟨z0, z1, z2, z3, z4, z5, z6⟩ := frz7 (unhide HZ)
  have HNode := hide (unhide HT1)
  go_wp2
  exact ret_put rfl rfl rfl (unhide HB) hr (unhide HZ) (by have h := unhide HY; exact h.symm) (unhide HL).1 (unhide HR) (Nat.lt_succ_self _) (unhide HNode)
set_option maxRecDepth 100000 in
set_option maxHeartbeats 8000000 in
theorem and_of {r d lo : Nat} {ts : List (Int × ByteArray × Int)} {g : Ru → Nat → Nat → (Except (Int × Int) (Ex × Nat))} (hT : TsOk ts) (hS : RuC 122 r ts d lo (cmpR ts g d)) {w : World} {p : Nat} (hlo : lo ≤ p) (hR : RD w r ts p d) : Calls Tryz.prog 120 #[.pointer (some ⟨r, 0, none⟩)] w (PE (andR ts g d p) r ts p d w) := by
  obtain ⟨Y, hY⟩ : ∃ Y, andR ts g d p = Y := ⟨_, rfl⟩
  rw [hY]
  unfold andR at hY
  have hr := hR.rlt
  obtain ⟨A, eA, hbA, hzA, hsA⟩ := zb_new w
  have HB := hide (But.of (r := r) hbA)
  have HR := hide (hR.keep hbA)
  have HZ := hide hzA
  have HS : Hid (w.heap.size < A.heap.size) := by show _ < _; omega
  have HL : Hid (p ≤ p ∧ lo ≤ p) := ⟨Nat.le_refl _, hlo⟩
  have HSA := hide hsA
  have HE := hide eA
  have HT := hide hT
  have HY := hide hY
  have hrne : r ≠ w.heap.size := by omega
  have hmf : ∀ (fn : Fn) (first cap : Array Value) (w : World), (Instr.makeFunc fn first cap).run Tryz.prog w = .ok (.func fn first cap) w := fun _ _ _ _ => rfl
  replace hS := hide hS
  clear hlo hR hbA hzA hsA eA hT hY
  have HJ := hide (joined_of (unhide HT) (enter_cmp) (unhide hS))
  obtain ⟨B, eB, hbB, hsB, hhB⟩ := box_new A #[.string ⟨#[38, 38]⟩] 9
  have hAr : r ≠ A.heap.size := by have := unhide HS; omega
  have HC := hide (chain_of (cc0 := 1) (nn0 := 1) (signs := [⟨#[38, 38]⟩]) (unhide HT) (enter_cmp) (unhide hS) (unhide HJ) (unhide HL).2 ((unhide HR).keep hbB) rfl (fun s hs => by simp only [List.mem_cons, List.not_mem_nil, or_false] at hs; rcases hs with rfl <;> decide) (by simp) ⟨(blk hhB).1, hAr⟩ (fun j s hs => by rw [← eB]; exact strs_at rfl j s hs))
  have hC := unhide HC
  rw [unhide HSA] at hC
  replace HC := hide hC
  clear hC
  have HBB := hide hbB
  have HEB := hide eB
  clear eB hbB hsB hhB
  go_enter Tryz.func120, Tryz.ntmps120
  go_wp2_with fail
  rw [unhide HE, unhide HEB]
  have hbu0 := But.of (r := r) (unhide HBB)
  replace HR := hide ((unhide HR).keep (unhide HBB))
  replace HB := hide ((unhide HB).trans hbu0)
  replace HZ := hide ((unhide HZ).but hbu0 hrne)
  replace HS := hide (Nat.lt_of_lt_of_le (unhide HS) hbu0.size)
  refine (unhide HC).mono ?_
  intro e w1 h1
  rcases hX1 : chainR ts (cmpR ts g d) [⟨#[38, 38]⟩] p with er | ⟨t1, q1⟩
  · rw [hX1] at h1
    obtain ⟨ei, en⟩ := er
    have hYe : Y = .error (ei, en) := by have h := unhide HY; rw [hX1] at h; exact h.symm
    subst hYe
    obtain ⟨hb1, h1⟩ := h1
    obtain rfl : e = _ := h1
    have HP := hide ((unhide HB).trans hb1)
    clear hb1 HC hX1
    go_wp2
    exact ⟨rfl, unhide HP, rfl⟩
  rw [hX1] at h1
  obtain ⟨hb1, hle1, hR1, v1, rfl, hv1⟩ := h1
  have hY1 := unhide HY
  rw [hX1] at hY1
  replace HY := hide hY1
  obtain ⟨i1, j1, s1, m1, b1, a1, n1, c1, rfl⟩ := hv1.form
  have HT1 := hide (hv1.keep (lo' := w.heap.size + 1) (Stays.of (Below.refl _ _)) (unhide HS))
  replace HB := hide ((unhide HB).trans hb1)
  replace HZ := hide ((unhide HZ).but hb1 hrne)
  replace HS := hide (Nat.lt_of_lt_of_le (unhide HS) hb1.size)
  replace HR := hide hR1
  replace HL := hide (And.intro (Nat.le_trans (unhide HL).1 hle1) (Nat.le_trans (unhide HL).2 hle1))
  clear hb1 hle1 hR1 hv1 HC hX1 hY1
  obtain ⟨y0, y1, y2, y3, y4, y5, y6⟩ := blk7 (unhide HZ)
  obtain ⟨z0, z1, z2, z3, z4, z5, z6⟩ := frz7 (unhide HZ)
  have HNode := hide (unhide HT1)
  go_wp2
  exact ret_put rfl rfl rfl (unhide HB) hr (unhide HZ) (by have h := unhide HY; exact h.symm) (unhide HL).1 (unhide HR) (Nat.lt_succ_self _) (unhide HNode)
set_option maxRecDepth 100000 in
set_option maxHeartbeats 8000000 in
theorem term_of {r d lo : Nat} {ts : List (Int × ByteArray × Int)} {g : Ru → Nat → Nat → (Except (Int × Int) (Ex × Nat))} (hT : TsOk ts) (hS : RuC 126 r ts d lo (unaryR ts g d)) {w : World} {p : Nat} (hlo : lo ≤ p) (hR : RD w r ts p d) : Calls Tryz.prog 125 #[.pointer (some ⟨r, 0, none⟩)] w (PE (termR ts g d p) r ts p d w) := by
  obtain ⟨Y, hY⟩ : ∃ Y, termR ts g d p = Y := ⟨_, rfl⟩
  rw [hY]
  unfold termR at hY
  have hr := hR.rlt
  obtain ⟨A, eA, hbA, hzA, hsA⟩ := zb_new w
  have HB := hide (But.of (r := r) hbA)
  have HR := hide (hR.keep hbA)
  have HZ := hide hzA
  have HS : Hid (w.heap.size < A.heap.size) := by show _ < _; omega
  have HL : Hid (p ≤ p ∧ lo ≤ p) := ⟨Nat.le_refl _, hlo⟩
  have HSA := hide hsA
  have HE := hide eA
  have HT := hide hT
  have HY := hide hY
  have hrne : r ≠ w.heap.size := by omega
  have hmf : ∀ (fn : Fn) (first cap : Array Value) (w : World), (Instr.makeFunc fn first cap).run Tryz.prog w = .ok (.func fn first cap) w := fun _ _ _ _ => rfl
  replace hS := hide hS
  clear hlo hR hbA hzA hsA eA hT hY
  have HJ := hide (joined_of (unhide HT) (enter_unary) (unhide hS))
  obtain ⟨B, eB, hbB, hsB, hhB⟩ := box_new A #[.string ⟨#[42]⟩] 9
  have hAr : r ≠ A.heap.size := by have := unhide HS; omega
  have HC := hide (chain_of (cc0 := 1) (nn0 := 1) (signs := [⟨#[42]⟩]) (unhide HT) (enter_unary) (unhide hS) (unhide HJ) (unhide HL).2 ((unhide HR).keep hbB) rfl (fun s hs => by simp only [List.mem_cons, List.not_mem_nil, or_false] at hs; rcases hs with rfl <;> decide) (by simp) ⟨(blk hhB).1, hAr⟩ (fun j s hs => by rw [← eB]; exact strs_at rfl j s hs))
  have hC := unhide HC
  rw [unhide HSA] at hC
  replace HC := hide hC
  clear hC
  have HBB := hide hbB
  have HEB := hide eB
  clear eB hbB hsB hhB
  go_enter Tryz.func125, Tryz.ntmps125
  go_wp2_with fail
  rw [unhide HE, unhide HEB]
  have hbu0 := But.of (r := r) (unhide HBB)
  replace HR := hide ((unhide HR).keep (unhide HBB))
  replace HB := hide ((unhide HB).trans hbu0)
  replace HZ := hide ((unhide HZ).but hbu0 hrne)
  replace HS := hide (Nat.lt_of_lt_of_le (unhide HS) hbu0.size)
  refine (unhide HC).mono ?_
  intro e w1 h1
  rcases hX1 : chainR ts (unaryR ts g d) [⟨#[42]⟩] p with er | ⟨t1, q1⟩
  · rw [hX1] at h1
    obtain ⟨ei, en⟩ := er
    have hYe : Y = .error (ei, en) := by have h := unhide HY; rw [hX1] at h; exact h.symm
    subst hYe
    obtain ⟨hb1, h1⟩ := h1
    obtain rfl : e = _ := h1
    have HP := hide ((unhide HB).trans hb1)
    clear hb1 HC hX1
    go_wp2
    exact ⟨rfl, unhide HP, rfl⟩
  rw [hX1] at h1
  obtain ⟨hb1, hle1, hR1, v1, rfl, hv1⟩ := h1
  have hY1 := unhide HY
  rw [hX1] at hY1
  replace HY := hide hY1
  obtain ⟨i1, j1, s1, m1, b1, a1, n1, c1, rfl⟩ := hv1.form
  have HT1 := hide (hv1.keep (lo' := w.heap.size + 1) (Stays.of (Below.refl _ _)) (unhide HS))
  replace HB := hide ((unhide HB).trans hb1)
  replace HZ := hide ((unhide HZ).but hb1 hrne)
  replace HS := hide (Nat.lt_of_lt_of_le (unhide HS) hb1.size)
  replace HR := hide hR1
  replace HL := hide (And.intro (Nat.le_trans (unhide HL).1 hle1) (Nat.le_trans (unhide HL).2 hle1))
  clear hb1 hle1 hR1 hv1 HC hX1 hY1
  obtain ⟨y0, y1, y2, y3, y4, y5, y6⟩ := blk7 (unhide HZ)
  obtain ⟨z0, z1, z2, z3, z4, z5, z6⟩ := frz7 (unhide HZ)
  have HNode := hide (unhide HT1)
  go_wp2
  exact ret_put rfl rfl rfl (unhide HB) hr (unhide HZ) (by have h := unhide HY; exact h.symm) (unhide HL).1 (unhide HR) (Nat.lt_succ_self _) (unhide HNode)
set_option maxRecDepth 100000 in
set_option maxHeartbeats 8000000 in
theorem sum_of {r d lo : Nat} {ts : List (Int × ByteArray × Int)} {g : Ru → Nat → Nat → (Except (Int × Int) (Ex × Nat))} (hT : TsOk ts) (hS : RuC 125 r ts d lo (termR ts g d)) {w : World} {p : Nat} (hlo : lo ≤ p) (hR : RD w r ts p d) : Calls Tryz.prog 124 #[.pointer (some ⟨r, 0, none⟩)] w (PE (sumR ts g d p) r ts p d w) := by
  obtain ⟨Y, hY⟩ : ∃ Y, sumR ts g d p = Y := ⟨_, rfl⟩
  rw [hY]
  unfold sumR at hY
  have hr := hR.rlt
  obtain ⟨A, eA, hbA, hzA, hsA⟩ := zb_new w
  have HB := hide (But.of (r := r) hbA)
  have HR := hide (hR.keep hbA)
  have HZ := hide hzA
  have HS : Hid (w.heap.size < A.heap.size) := by show _ < _; omega
  have HL : Hid (p ≤ p ∧ lo ≤ p) := ⟨Nat.le_refl _, hlo⟩
  have HSA := hide hsA
  have HE := hide eA
  have HT := hide hT
  have HY := hide hY
  have hrne : r ≠ w.heap.size := by omega
  have hmf : ∀ (fn : Fn) (first cap : Array Value) (w : World), (Instr.makeFunc fn first cap).run Tryz.prog w = .ok (.func fn first cap) w := fun _ _ _ _ => rfl
  replace hS := hide hS
  clear hlo hR hbA hzA hsA eA hT hY
  have HJ := hide (joined_of (unhide HT) (enter_term) (unhide hS))
  obtain ⟨B, eB, hbB, hsB, hhB⟩ := box_new A #[.string ⟨#[43]⟩, .string ⟨#[45]⟩] 9
  have hAr : r ≠ A.heap.size := by have := unhide HS; omega
  have HC := hide (chain_of (cc0 := 2) (nn0 := 2) (signs := [⟨#[43]⟩, ⟨#[45]⟩]) (unhide HT) (enter_term) (unhide hS) (unhide HJ) (unhide HL).2 ((unhide HR).keep hbB) rfl (fun s hs => by simp only [List.mem_cons, List.not_mem_nil, or_false] at hs; rcases hs with rfl | rfl <;> decide) (by simp) ⟨(blk hhB).1, hAr⟩ (fun j s hs => by rw [← eB]; exact strs_at rfl j s hs))
  have hC := unhide HC
  rw [unhide HSA] at hC
  replace HC := hide hC
  clear hC
  have HBB := hide hbB
  have HEB := hide eB
  clear eB hbB hsB hhB
  go_enter Tryz.func124, Tryz.ntmps124
  go_wp2_with fail
  rw [unhide HE, unhide HEB]
  have hbu0 := But.of (r := r) (unhide HBB)
  replace HR := hide ((unhide HR).keep (unhide HBB))
  replace HB := hide ((unhide HB).trans hbu0)
  replace HZ := hide ((unhide HZ).but hbu0 hrne)
  replace HS := hide (Nat.lt_of_lt_of_le (unhide HS) hbu0.size)
  refine (unhide HC).mono ?_
  intro e w1 h1
  rcases hX1 : chainR ts (termR ts g d) [⟨#[43]⟩, ⟨#[45]⟩] p with er | ⟨t1, q1⟩
  · rw [hX1] at h1
    obtain ⟨ei, en⟩ := er
    have hYe : Y = .error (ei, en) := by have h := unhide HY; rw [hX1] at h; exact h.symm
    subst hYe
    obtain ⟨hb1, h1⟩ := h1
    obtain rfl : e = _ := h1
    have HP := hide ((unhide HB).trans hb1)
    clear hb1 HC hX1
    go_wp2
    exact ⟨rfl, unhide HP, rfl⟩
  rw [hX1] at h1
  obtain ⟨hb1, hle1, hR1, v1, rfl, hv1⟩ := h1
  have hY1 := unhide HY
  rw [hX1] at hY1
  replace HY := hide hY1
  obtain ⟨i1, j1, s1, m1, b1, a1, n1, c1, rfl⟩ := hv1.form
  have HT1 := hide (hv1.keep (lo' := w.heap.size + 1) (Stays.of (Below.refl _ _)) (unhide HS))
  replace HB := hide ((unhide HB).trans hb1)
  replace HZ := hide ((unhide HZ).but hb1 hrne)
  replace HS := hide (Nat.lt_of_lt_of_le (unhide HS) hb1.size)
  replace HR := hide hR1
  replace HL := hide (And.intro (Nat.le_trans (unhide HL).1 hle1) (Nat.le_trans (unhide HL).2 hle1))
  clear hb1 hle1 hR1 hv1 HC hX1 hY1
  obtain ⟨y0, y1, y2, y3, y4, y5, y6⟩ := blk7 (unhide HZ)
  obtain ⟨z0, z1, z2, z3, z4, z5, z6⟩ := frz7 (unhide HZ)
  have HNode := hide (unhide HT1)
  go_wp2
  exact ret_put rfl rfl rfl (unhide HB) hr (unhide HZ) (by have h := unhide HY; exact h.symm) (unhide HL).1 (unhide HR) (Nat.lt_succ_self _) (unhide HNode)
end Go.Proofs.YtfkfnbehdcmgeaaGreatDoor

/- Package parse: comparisons. -/
namespace Go.Proofs.YtfkfnbehdcmgeaaGreatDoor
open Go Go.RowKit
set_option maxRecDepth 100000 in
set_option maxHeartbeats 8000000 in
theorem cmp_of {r d lo : Nat} {ts : List (Int × ByteArray × Int)} {g : Ru → Nat → Nat → (Except (Int × Int) (Ex × Nat))} (hT : TsOk ts) (hS : RuC 124 r ts d lo (sumR ts g d)) {w : World} {p : Nat} (hlo : lo ≤ p) (hR : RD w r ts p d) : Calls Tryz.prog 122 #[.pointer (some ⟨r, 0, none⟩)] w (PE (cmpR ts g d p) r ts p d w) := by
  obtain ⟨Y, hY⟩ : ∃ Y, cmpR ts g d p = Y := ⟨_, rfl⟩
  rw [hY]
  unfold cmpR at hY
  have hr := hR.rlt
  obtain ⟨A, eA, hbA, hzA, hsA⟩ := zb_new w
  have HB := hide (But.of (r := r) hbA)
  have HR := hide (hR.keep hbA)
  have HZ := hide hzA
  have HS : Hid (w.heap.size < A.heap.size) := by show _ < _; omega
  have HL : Hid (p ≤ p ∧ lo ≤ p) := ⟨Nat.le_refl _, hlo⟩
  have HSA := hide hsA
  have HE := hide eA
  have HT := hide hT
  have HY := hide hY
  have hrne : r ≠ w.heap.size := by omega
  have hmf : ∀ (fn : Fn) (first cap : Array Value) (w : World), (Instr.makeFunc fn first cap).run Tryz.prog w = .ok (.func fn first cap) w := fun _ _ _ _ => rfl
  replace hS := hide hS
  clear hlo hR hbA hzA hsA eA hT hY
  have HJ := hide (joined_of (unhide HT) enter_sum (unhide hS))
  go_enter Tryz.func122, Tryz.ntmps122
  have HC0 := hide (unhide hS A (p) (unhide HL).2 (unhide HR))
  go_wp2_with fail
  rw [unhide HE]
  refine (unhide HC0).mono ?_
  intro e w0 h0
  rcases hX0 : sumR ts g d (p) with er | ⟨t0, q0⟩
  · rw [hX0] at h0
    obtain ⟨ei, en⟩ := er
    have hYe : Y = .error (ei, en) := by have h := unhide HY; rw [hX0] at h; exact h.symm
    subst hYe
    obtain ⟨hb0, h0⟩ := h0
    obtain rfl : e = _ := h0
    have HP := hide ((unhide HB).trans hb0)
    clear hb0 HC0 hX0
    go_wp2
    exact ⟨rfl, unhide HP, rfl⟩
  rw [hX0] at h0
  obtain ⟨hb0, hle0, hR0, v0, rfl, hv0⟩ := h0
  have hY0 := unhide HY
  rw [hX0] at hY0
  simp only [thenR] at hY0
  replace HY := hide hY0
  clear hY0
  obtain ⟨i0, j0, s0, m0, b0, a0, n0, c0, rfl⟩ := hv0.form
  have HT0 := hide (hv0.keep (lo' := w.heap.size + 1) (Stays.of (Below.refl _ _)) (unhide HS))
  replace HB := hide ((unhide HB).trans hb0)
  replace HZ := hide ((unhide HZ).but hb0 hrne)
  replace HS := hide (Nat.lt_of_lt_of_le (unhide HS) hb0.size)
  replace HR := hide hR0
  replace HL := hide (And.intro (Nat.le_trans (unhide HL).1 hle0) (Nat.le_trans (unhide HL).2 hle0))
  clear hb0 hle0 hR0 hv0 HC0 hX0
  obtain ⟨B1, eB1, hbB1, hsB1, hhB1⟩ := box_new w0 #[.int .i64 i0, .string s0, .string m0, .bool b0, .slice a0 n0 c0, .int .i64 0, .int .i64 j0] 36
  have ne1 : r ≠ w0.heap.size := by have := unhide HS; omega
  have HQHX1 := HS
  have hbu2 := But.of (r := r) hbB1
  replace HR := hide ((unhide HR).keep hbB1)
  replace HB := hide ((unhide HB).trans hbu2)
  replace HZ := hide ((unhide HZ).but hbu2 hrne)
  replace HT0 := hide ((unhide HT0).keep (Stays.but hbu2 (Nat.lt_succ_of_lt hr)) (Nat.le_refl _))
  replace HS := hide (Nat.lt_of_lt_of_le (unhide HS) hbu2.size)
  have HX1 := hide hhB1
  have HEB1 := hide eB1
  have HSB1 := hide hsB1
  clear eB1 hbB1 hhB1 hsB1
  obtain ⟨B, eB, hbB, hsB, hhB⟩ := box_new B1 #[.string ⟨#[61]⟩, .string ⟨#[60, 62]⟩, .string ⟨#[60]⟩, .string ⟨#[60, 61]⟩, .string ⟨#[62]⟩, .string ⟨#[62, 61]⟩] 9
  have HO := hide (one_any (c := 6) (l := [⟨#[61]⟩, ⟨#[60, 62]⟩, ⟨#[60]⟩, ⟨#[60, 61]⟩, ⟨#[62]⟩, ⟨#[62, 61]⟩]) ((unhide HR).keep hbB) (unhide HT) (blk hhB).1 (by simp) (fun j s hs => by rw [← eB]; exact strs_at rfl j s hs))
  obtain ⟨bo, hbo⟩ : ∃ b, ([⟨#[61]⟩, ⟨#[60, 62]⟩, ⟨#[60]⟩, ⟨#[60, 61]⟩, ⟨#[62]⟩, ⟨#[62, 61]⟩] : List ByteArray).any (sees ts (q0)) = b := ⟨_, rfl⟩
  rw [hbo] at HO
  have hO1 := unhide HO
  rw [unhide HSB1] at hO1
  replace HO := hide hO1
  have hY0 := unhide HY
  rw [hbo] at hY0
  replace HY := hide hY0
  have Hbo := hide hbo
  have HEB := hide eB
  have hbu3 := But.of (r := r) hbB
  replace HR := hide ((unhide HR).keep hbB)
  replace HB := hide ((unhide HB).trans hbu3)
  replace HZ := hide ((unhide HZ).but hbu3 hrne)
  replace HX1 := hide ((hbu3.block _ (blk (unhide HX1)).1 (Ne.symm ne1)).trans (unhide HX1))
  replace HT0 := hide ((unhide HT0).keep (Stays.but hbu3 (Nat.lt_succ_of_lt hr)) (Nat.le_refl _))
  replace HS := hide (Nat.lt_of_lt_of_le (unhide HS) hbu3.size)
  clear hbo eB hbB hsB hhB hO1 hY0
  go_wp2_with fail
  rw [unhide HEB1, unhide HEB]
  refine (unhide HO).mono ?_
  rintro e w9 ⟨rfl, hb9⟩
  have hbu4 := But.of (r := r) hb9
  replace HR := hide ((unhide HR).keep hb9)
  replace HB := hide ((unhide HB).trans hbu4)
  replace HZ := hide ((unhide HZ).but hbu4 hrne)
  replace HX1 := hide ((hbu4.block _ (blk (unhide HX1)).1 (Ne.symm ne1)).trans (unhide HX1))
  replace HT0 := hide ((unhide HT0).keep (Stays.but hbu4 (Nat.lt_succ_of_lt hr)) (Nat.le_refl _))
  replace HS := hide (Nat.lt_of_lt_of_le (unhide HS) hbu4.size)
  clear hb9 HO
  rcases bo with _ | _
  · have hY0 := unhide HY
    simp only [Bool.false_eq_true, if_false] at hY0
    replace HY := hide hY0
    clear hY0
    obtain ⟨y01, y11, y21, y31, y41, y51, y61⟩ := blk7 (unhide HX1)
    obtain ⟨y0, y1, y2, y3, y4, y5, y6⟩ := blk7 (unhide HZ)
    obtain ⟨z0, z1, z2, z3, z4, z5, z6⟩ := frz7 (unhide HZ)
    have HNode := hide (unhide HT0)
    go_wp2
    exact ret_put rfl rfl rfl (unhide HB) hr (unhide HZ) (by have h := unhide HY; exact h.symm) (unhide HL).1 (unhide HR) (Nat.lt_succ_self _) (unhide HNode)
  have hY0 := unhide HY
  simp only [if_true] at hY0
  replace HY := hide hY0
  clear hY0
  have hp1 : q0 + 1 < ts.length := by
    obtain ⟨s, hs, hs2⟩ := List.any_eq_true.1 (unhide Hbo)
    refine nx_txt (unhide HT) (unhide HR).lt ?_
    rw [sees_txt hs2]
    simp only [List.mem_cons, List.not_mem_nil, or_false] at hs
    rcases hs with rfl | rfl | rfl | rfl | rfl | rfl <;> decide
  replace hp1 := hide hp1
  obtain ⟨y01, y11, y21, y31, y41, y51, y61⟩ := blk7 (unhide HX1)
  have HC := hide (unhide HJ w9 (q0) (fun b => w.heap.size + 1 ≤ b) t0 i0 j0 s0 m0 b0 a0 n0 c0 (unhide HL).2 (unhide hp1) (unhide HR) (unhide HT0) (by show ¬ (w.heap.size + 1 ≤ r); omega) (fun b hb => Nat.le_trans (unhide HS) hb))
  go_wp2_with fail
  refine (unhide HC).mono ?_
  intro e w8 h8
  rcases hX : joinR ts (sumR ts g d) t0 (q0) with er | ⟨t8, q8⟩
  · rw [hX] at h8
    obtain ⟨ei, en⟩ := er
    have hYe : Y = .error (ei, en) := by have h := unhide HY; rw [hX] at h; exact h.symm
    subst hYe
    obtain ⟨hb8, h8⟩ := h8
    obtain rfl : e = _ := h8
    have HP := hide ((unhide HB).trans hb8)
    clear hb8 HC hX
    go_wp2
    exact ⟨rfl, unhide HP, rfl⟩
  rw [hX] at h8
  obtain ⟨hb8, hle8, hR8, v8, rfl, hv8⟩ := h8
  have hY8 := unhide HY
  rw [hX] at hY8
  replace HY := hide hY8
  obtain ⟨i8, j8, s8, m8, b8, a8, n8, c8, rfl⟩ := hv8.form
  replace HB := hide ((unhide HB).trans hb8)
  replace HZ := hide ((unhide HZ).but hb8 hrne)
  replace HX1 := hide ((hb8.block _ (blk (unhide HX1)).1 (Ne.symm ne1)).trans (unhide HX1))
  replace HS := hide (Nat.lt_of_lt_of_le (unhide HS) hb8.size)
  have HT8 := hide hv8
  replace HR := hide hR8
  replace HL := hide (And.intro (Nat.le_trans (Nat.le_succ_of_le (unhide HL).1) hle8) (Nat.le_trans (Nat.le_succ_of_le (unhide HL).2) hle8))
  clear hb8 hle8 hR8 hv8 HC hX hY8
  obtain ⟨y0, y1, y2, y3, y4, y5, y6⟩ := blk7 (unhide HZ)
  obtain ⟨z0, z1, z2, z3, z4, z5, z6⟩ := frz7 (unhide HZ)
  have HNode := hide (unhide HT8)
  go_wp2
  exact ret_put rfl rfl rfl (unhide HB) hr (unhide HZ) (by have h := unhide HY; exact h.symm) (unhide HL).1 (unhide HR) (Nat.lt_succ_self _) (unhide HNode)
end Go.Proofs.YtfkfnbehdcmgeaaGreatDoor

/- Package parse: brackets. -/
namespace Go.Proofs.YtfkfnbehdcmgeaaGreatDoor
open Go Go.RowKit
theorem pe_base {Y : (Except (Int × Int) (Ex × Nat))} {r p d : Nat} {ts : List (Int × ByteArray × Int)} {w w1 w' : World} {e : Ending} (hb : Below w.heap.size w w1) (h : PE Y r ts p d w1 e w') : PE Y r ts p d w e w' := by
  refine ⟨(But.of hb).trans h.1, ?_⟩
  rcases Y with er | ⟨t, q⟩
  · exact h.2
  · obtain ⟨-, h1, h2, v, h3, h4⟩ := h
    exact ⟨h1, h2, v, h3, h4.keep (Stays.of (Below.refl _ _)) hb.size⟩
set_option maxRecDepth 100000 in
set_option maxHeartbeats 8000000 in
theorem bracketed_of {r d lo : Nat} {ts : List (Int × ByteArray × Int)} {g : Ru → Nat → Nat → (Except (Int × Int) (Ex × Nat))} (hT : TsOk ts) (hE : RuC 59 r ts d lo (g .rE d)) {wq : World} {p : Nat} {kk ai : Int} {T : ByteArray} (hlo : lo ≤ p) (hRq : RD wq r ts p d) : Calls Tryz.prog 129 #[.pointer (some ⟨r, 0, none⟩), .agg #[.int .i64 kk, .string T, .int .i64 ai]] wq (PE (brackR ts g d ai p) r ts p d wq) := by
  obtain ⟨w, ew, hbw, hsw, hhw⟩ := box_new wq #[.int .i64 kk, .string T, .int .i64 ai] 74
  refine Calls.mono (R := PE (brackR ts g d ai p) r ts p d w) ?_ fun e w' h => pe_base hbw h
  have hR := hRq.keep hbw
  have ne9 : r ≠ wq.heap.size := by have := hRq.rlt; omega
  have Hew := hide ew
  have HX9 := hide hhw
  clear hRq ew hbw hhw
  obtain ⟨Y, hY⟩ : ∃ Y, brackR ts g d ai p = Y := ⟨_, rfl⟩
  rw [hY]
  unfold brackR at hY
  have hr := hR.rlt
  obtain ⟨A, eA, hbA, hzA, hsA⟩ := zb_new w
  have HB := hide (But.of (r := r) hbA)
  have HR := hide (hR.keep hbA)
  have HZ := hide hzA
  have HS : Hid (w.heap.size < A.heap.size) := by show _ < _; omega
  have HL : Hid (p ≤ p ∧ lo ≤ p) := ⟨Nat.le_refl _, hlo⟩
  have HSA := hide hsA
  have HE := hide eA
  have HT := hide hT
  have HY := hide hY
  have hrne : r ≠ w.heap.size := by omega
  have hmf : ∀ (fn : Fn) (first cap : Array Value) (w : World), (Instr.makeFunc fn first cap).run Tryz.prog w = .ok (.func fn first cap) w := fun _ _ _ _ => rfl
  replace hE := hide hE
  clear hlo hR hbA hzA hsA eA hT hY
  replace HX9 := hide (((unhide HB).block _ (blk (unhide HX9)).1 (Ne.symm ne9)).trans (unhide HX9))
  replace hsw := hide hsw
  go_enter Tryz.func129, Tryz.ntmps129
  have HC0 := hide (takeIf_any (unhide HR) (unhide HT) (s := ⟨#[41]⟩) (by decide))
  obtain ⟨bo0, hbo0⟩ : ∃ b, sees ts (p) ⟨#[41]⟩ = b := ⟨_, rfl⟩
  rw [hbo0] at HC0
  have hY0 := unhide HY
  rw [hbo0] at hY0
  replace HY := hide hY0
  have HO0 := hide hbo0
  clear hY0 hbo0
  go_wp2_with fail
  rw [unhide Hew, unhide HE]
  refine (unhide HC0).mono ?_
  rintro e w0 ⟨rfl, hb0, hR0⟩
  replace HB := hide ((unhide HB).trans hb0)
  replace HZ := hide ((unhide HZ).but hb0 hrne)
  replace HX9 := hide ((hb0.block _ (blk (unhide HX9)).1 (Ne.symm ne9)).trans (unhide HX9))
  replace HS := hide (Nat.lt_of_lt_of_le (unhide HS) hb0.size)
  replace HR := hide hR0
  clear hb0 hR0 HC0
  rcases bo0 with _ | _
  rotate_left
  · have hY0 := unhide HY
    simp only [if_true] at hY0
    replace HY := hide hY0
    have hRR := unhide HR
    rw [if_pos rfl] at hRR
    replace HR := hide hRR
    clear hY0 hRR
    replace HL : Hid (p ≤ p + 1 ∧ lo + 1 ≤ p + 1) := And.intro (Nat.le_succ_of_le (unhide HL).1) (Nat.succ_le_succ (unhide HL).2)
    have u09 := (blk (unhide HX9)).2.1 0 _ rfl
    have u19 := (blk (unhide HX9)).2.1 1 _ rfl
    have u29 := (blk (unhide HX9)).2.1 2 _ rfl
    have HC1 := hide (made_any 3 kk ai T none 0 0 w0)
    go_wp2_with fail
    refine (unhide HC1).mono ?_
    rintro e w1 ⟨rfl, hb1⟩
    have hbu2 := But.of (r := r) hb1
    replace HR := hide ((unhide HR).keep hb1)
    replace HB := hide ((unhide HB).trans hbu2)
    replace HZ := hide ((unhide HZ).but hbu2 hrne)
    replace HX9 := hide ((hbu2.block _ (blk (unhide HX9)).1 (Ne.symm ne9)).trans (unhide HX9))
    replace HS := hide (Nat.lt_of_lt_of_le (unhide HS) hbu2.size)
    clear hb1 HC1
    obtain ⟨y0, y1, y2, y3, y4, y5, y6⟩ := blk7 (unhide HZ)
    obtain ⟨z0, z1, z2, z3, z4, z5, z6⟩ := frz7 (unhide HZ)
    have HNode := hide (leaf (W := w1) (lo := w.heap.size + 1) 3 ai ⟨#[]⟩ ⟨#[]⟩ false)
    rw [unhide hsw] at y0 y1 y2 y3 y4 y5 y6 z0 z1 z2 z3 z4 z5 z6
    go_wp2
    rw [← unhide hsw]
    exact ret_put rfl rfl rfl (unhide HB) hr (unhide HZ) (by have h := unhide HY; exact h.symm) (unhide HL).1 (unhide HR) (Nat.lt_succ_self _) (unhide HNode)
  have hY0 := unhide HY
  simp only [Bool.false_eq_true, if_false] at hY0
  replace HY := hide hY0
  have hRR := unhide HR
  rw [if_neg Bool.false_ne_true] at hRR
  replace HR := hide hRR
  clear hY0 hRR
  have HC3 := hide (unhide hE w0 (p) (unhide HL).2 (unhide HR))
  go_wp2_with fail
  refine (unhide HC3).mono ?_
  intro e w3 h3
  rcases hX3 : g .rE d (p) with er | ⟨t3, q3⟩
  · rw [hX3] at h3
    obtain ⟨ei, en⟩ := er
    have hYe : Y = .error (ei, en) := by have h := unhide HY; rw [hX3] at h; exact h.symm
    subst hYe
    obtain ⟨hb3, h3⟩ := h3
    obtain rfl : e = _ := h3
    have HP := hide ((unhide HB).trans hb3)
    clear hb3 HC3 hX3
    go_wp2
    exact ⟨rfl, unhide HP, rfl⟩
  rw [hX3] at h3
  obtain ⟨hb3, hle3, hR3, v3, rfl, hv3⟩ := h3
  have hY3 := unhide HY
  rw [hX3] at hY3
  simp only [thenR] at hY3
  replace HY := hide hY3
  clear hY3
  obtain ⟨i3, j3, s3, m3, b3, a3, n3, c3, rfl⟩ := hv3.form
  have HT3 := hide (hv3.keep (lo' := w.heap.size + 1) (Stays.of (Below.refl _ _)) (unhide HS))
  replace HB := hide ((unhide HB).trans hb3)
  replace HZ := hide ((unhide HZ).but hb3 hrne)
  replace HX9 := hide ((hb3.block _ (blk (unhide HX9)).1 (Ne.symm ne9)).trans (unhide HX9))
  replace HS := hide (Nat.lt_of_lt_of_le (unhide HS) hb3.size)
  replace HR := hide hR3
  replace HL := hide (And.intro (Nat.le_trans (unhide HL).1 hle3) (Nat.le_trans (unhide HL).2 hle3))
  clear hb3 hle3 hR3 hv3 HC3 hX3
  obtain ⟨B4, eB4, hbB4, hsB4, hhB4⟩ := box_new w3 #[.int .i64 i3, .string s3, .string m3, .bool b3, .slice a3 n3 c3, .int .i64 0, .int .i64 j3] 36
  have ne4 : r ≠ w3.heap.size := by have := unhide HS; omega
  have HQHX4 := HS
  have hbu5 := But.of (r := r) hbB4
  replace HR := hide ((unhide HR).keep hbB4)
  replace HB := hide ((unhide HB).trans hbu5)
  replace HZ := hide ((unhide HZ).but hbu5 hrne)
  replace HX9 := hide ((hbu5.block _ (blk (unhide HX9)).1 (Ne.symm ne9)).trans (unhide HX9))
  replace HT3 := hide ((unhide HT3).keep (Stays.but hbu5 (Nat.lt_succ_of_lt hr)) (Nat.le_refl _))
  replace HS := hide (Nat.lt_of_lt_of_le (unhide HS) hbu5.size)
  have HX4 := hide hhB4
  have HEB4 := hide eB4
  have HSB4 := hide hsB4
  clear eB4 hbB4 hhB4 hsB4
  have HC6 := hide (must_any (unhide HR) (unhide HT) (s := ⟨#[41]⟩) (by decide))
  go_wp2_with fail
  rw [unhide HEB4]
  refine (unhide HC6).mono ?_
  intro e w6 h6
  rcases hX6 : mustR ts ⟨#[41]⟩ (q3) with er | ⟨t6, q6⟩
  · rw [hX6] at h6
    obtain ⟨ei, en⟩ := er
    have hYe : Y = .error (ei, en) := by have h := unhide HY; rw [hX6] at h; exact h.symm
    subst hYe
    obtain ⟨hb6, h6⟩ := h6
    obtain rfl : e = _ := h6
    have HP := hide ((unhide HB).trans hb6)
    clear hb6 HC6 hX6
    go_wp2
    exact ⟨rfl, unhide HP, rfl⟩
  rw [hX6] at h6
  obtain ⟨hb6, hle6, hR6, v6, rfl, hv6⟩ := h6
  have hY6 := unhide HY
  rw [hX6] at hY6
  simp only [thenR] at hY6
  replace HY := hide hY6
  clear hY6
  obtain rfl : v6 = _ := hv6
  replace HB := hide ((unhide HB).trans hb6)
  replace HZ := hide ((unhide HZ).but hb6 hrne)
  replace HX9 := hide ((hb6.block _ (blk (unhide HX9)).1 (Ne.symm ne9)).trans (unhide HX9))
  replace HX4 := hide ((hb6.block _ (blk (unhide HX4)).1 (Ne.symm ne4)).trans (unhide HX4))
  replace HT3 := hide ((unhide HT3).keep (Stays.but hb6 (Nat.lt_succ_of_lt hr)) (Nat.le_refl _))
  replace HS := hide (Nat.lt_of_lt_of_le (unhide HS) hb6.size)
  replace HR := hide hR6
  replace HL := hide (And.intro (Nat.le_trans (unhide HL).1 hle6) (Nat.le_trans (unhide HL).2 hle6))
  clear hb6 hle6 hR6 HC6 hX6
  obtain ⟨y04, y14, y24, y34, y44, y54, y64⟩ := blk7 (unhide HX4)
  obtain ⟨y0, y1, y2, y3, y4, y5, y6⟩ := blk7 (unhide HZ)
  obtain ⟨z0, z1, z2, z3, z4, z5, z6⟩ := frz7 (unhide HZ)
  have HNode := hide (unhide HT3)
  rw [unhide hsw] at y0 y1 y2 y3 y4 y5 y6 z0 z1 z2 z3 z4 z5 z6
  go_wp2
  rw [← unhide hsw]
  exact ret_put rfl rfl rfl (unhide HB) hr (unhide HZ) (by have h := unhide HY; exact h.symm) (unhide HL).1 (unhide HR) (Nat.lt_succ_self _) (unhide HNode)
end Go.Proofs.YtfkfnbehdcmgeaaGreatDoor

/- Package parse: calls. -/
namespace Go.Proofs.YtfkfnbehdcmgeaaGreatDoor
open Go Go.RowKit
theorem IsLs.form {w : World} {lo : Nat} {v : Value} {l : List Ex} (h : IsLs w lo v l) : ∃ (a : Option Addr) (n c : Nat), v = .slice a n c := by
  obtain ⟨k, a, c, e, -⟩ := h
  exact ⟨_, _, _, e⟩
set_option maxRecDepth 100000 in
set_option maxHeartbeats 8000000 in
theorem call_of {r d lo : Nat} {ts : List (Int × ByteArray × Int)} {g : Ru → Nat → Nat → (Except (Int × Int) (Ex × Nat))} (hT : TsOk ts) (hE : RuC 59 r ts d (lo + 1) (g .rE d)) {w : World} {p : Nat} (hlo : lo ≤ p) (hp1 : p + 1 < ts.length) (hR : RD w r ts p d) : Calls Tryz.prog 130 #[.pointer (some ⟨r, 0, none⟩)] w (PE (callR ts g d p) r ts p d w) := by
  obtain ⟨Y, hY⟩ : ∃ Y, callR ts g d p = Y := ⟨_, rfl⟩
  rw [hY]
  unfold callR at hY
  have hr := hR.rlt
  obtain ⟨A, eA, hbA, hzA, hsA⟩ := zb_new w
  have HB := hide (But.of (r := r) hbA)
  have HR := hide (hR.keep hbA)
  have HZ := hide hzA
  have HS : Hid (w.heap.size < A.heap.size) := by show _ < _; omega
  have HL : Hid (p ≤ p ∧ lo ≤ p) := ⟨Nat.le_refl _, hlo⟩
  have HSA := hide hsA
  have HE := hide eA
  have HT := hide hT
  have HY := hide hY
  have hrne : r ≠ w.heap.size := by omega
  have hmf : ∀ (fn : Fn) (first cap : Array Value) (w : World), (Instr.makeFunc fn first cap).run Tryz.prog w = .ok (.func fn first cap) w := fun _ _ _ _ => rfl
  replace hE := hide hE
  replace hp1 := hide hp1
  clear hlo hR hbA hzA hsA eA hT hY
  go_enter Tryz.func130, Tryz.ntmps130
  have HC0 := hide (take_any (unhide HR) (unhide HT) (unhide hp1))
  unfold tkV at HC0
  obtain ⟨⟨kk0, T0, at0⟩, hN0⟩ : ∃ X, nx ts p = X := ⟨_, rfl⟩
  rw [hN0] at HC0
  have HN0 := hide hN0
  clear hN0
  go_wp2_with fail
  rw [unhide HE]
  refine (unhide HC0).mono ?_
  rintro e w0 ⟨rfl, hb0, hR0⟩
  replace HB := hide ((unhide HB).trans hb0)
  replace HZ := hide ((unhide HZ).but hb0 hrne)
  replace HS := hide (Nat.lt_of_lt_of_le (unhide HS) hb0.size)
  replace HR := hide hR0
  replace HL : Hid (p ≤ p + 1 ∧ lo + 1 ≤ p + 1) := And.intro (Nat.le_succ_of_le (unhide HL).1) (Nat.succ_le_succ (unhide HL).2)
  clear hb0 hR0 HC0
  obtain ⟨B1, eB1, hbB1, hsB1, hhB1⟩ := box_new w0 #[.int .i64 kk0, .string T0, .int .i64 at0] 74
  have ne1 : r ≠ w0.heap.size := by have := unhide HS; omega
  have HQHX1 := HS
  have hbu2 := But.of (r := r) hbB1
  replace HR := hide ((unhide HR).keep hbB1)
  replace HB := hide ((unhide HB).trans hbu2)
  replace HZ := hide ((unhide HZ).but hbu2 hrne)
  replace HS := hide (Nat.lt_of_lt_of_le (unhide HS) hbu2.size)
  have HX1 := hide hhB1
  have HEB1 := hide eB1
  have HSB1 := hide hsB1
  clear eB1 hbB1 hhB1 hsB1
  have htx : txt ts p = T0 := by unfold txt; rw [unhide HN0]
  have hYt := unhide HY
  rw [htx] at hYt
  replace HY := hide hYt
  clear htx hYt
  have HC3 := hide (must_any (unhide HR) (unhide HT) (s := ⟨#[40]⟩) (by decide))
  go_wp2_with fail
  rw [unhide HEB1]
  refine (unhide HC3).mono ?_
  intro e w3 h3
  rcases hX3 : mustR ts ⟨#[40]⟩ (p + 1) with er | ⟨t3, q3⟩
  · rw [hX3] at h3
    obtain ⟨ei, en⟩ := er
    have hYe : Y = .error (ei, en) := by have h := unhide HY; rw [hX3] at h; exact h.symm
    subst hYe
    obtain ⟨hb3, h3⟩ := h3
    obtain rfl : e = _ := h3
    have HP := hide ((unhide HB).trans hb3)
    clear hb3 HC3 hX3
    go_wp2
    exact ⟨rfl, unhide HP, rfl⟩
  rw [hX3] at h3
  obtain ⟨hb3, hle3, hR3, v3, rfl, hv3⟩ := h3
  have hY3 := unhide HY
  rw [hX3] at hY3
  simp only [thenR] at hY3
  replace HY := hide hY3
  clear hY3
  obtain rfl : v3 = _ := hv3
  replace HB := hide ((unhide HB).trans hb3)
  replace HZ := hide ((unhide HZ).but hb3 hrne)
  replace HX1 := hide ((hb3.block _ (blk (unhide HX1)).1 (Ne.symm ne1)).trans (unhide HX1))
  replace HS := hide (Nat.lt_of_lt_of_le (unhide HS) hb3.size)
  replace HR := hide hR3
  replace HL := hide (And.intro (Nat.le_trans (unhide HL).1 hle3) (Nat.le_trans (unhide HL).2 hle3))
  clear hb3 hle3 hR3 HC3 hX3
  have HC4 := hide (takeIf_any (unhide HR) (unhide HT) (s := ⟨#[41]⟩) (by decide))
  obtain ⟨bo4, hbo4⟩ : ∃ b, sees ts (q3) ⟨#[41]⟩ = b := ⟨_, rfl⟩
  rw [hbo4] at HC4
  have hY4 := unhide HY
  rw [hbo4] at hY4
  replace HY := hide hY4
  have HO4 := hide hbo4
  clear hY4 hbo4
  go_wp2_with fail
  refine (unhide HC4).mono ?_
  rintro e w4 ⟨rfl, hb4, hR4⟩
  replace HB := hide ((unhide HB).trans hb4)
  replace HZ := hide ((unhide HZ).but hb4 hrne)
  replace HX1 := hide ((hb4.block _ (blk (unhide HX1)).1 (Ne.symm ne1)).trans (unhide HX1))
  replace HS := hide (Nat.lt_of_lt_of_le (unhide HS) hb4.size)
  replace HR := hide hR4
  clear hb4 hR4 HC4
  rcases bo4 with _ | _
  rotate_left
  · have hY4 := unhide HY
    simp only [if_true] at hY4
    replace HY := hide hY4
    have hRR := unhide HR
    rw [if_pos rfl] at hRR
    replace HR := hide hRR
    clear hY4 hRR
    replace HL : Hid (p ≤ q3 + 1 ∧ lo + 1 ≤ q3 + 1) := And.intro (Nat.le_succ_of_le (unhide HL).1) (Nat.le_succ_of_le (unhide HL).2)
    have u01 := (blk (unhide HX1)).2.1 0 _ rfl
    have u11 := (blk (unhide HX1)).2.1 1 _ rfl
    have u21 := (blk (unhide HX1)).2.1 2 _ rfl
    have HC5 := hide (named_any 21 kk0 at0 T0 T0 none 0 0 w4)
    go_wp2_with fail
    refine (unhide HC5).mono ?_
    rintro e w5 ⟨rfl, hb5⟩
    have hbu6 := But.of (r := r) hb5
    replace HR := hide ((unhide HR).keep hb5)
    replace HB := hide ((unhide HB).trans hbu6)
    replace HZ := hide ((unhide HZ).but hbu6 hrne)
    replace HX1 := hide ((hbu6.block _ (blk (unhide HX1)).1 (Ne.symm ne1)).trans (unhide HX1))
    replace HS := hide (Nat.lt_of_lt_of_le (unhide HS) hbu6.size)
    clear hb5 HC5
    obtain ⟨y0, y1, y2, y3, y4, y5, y6⟩ := blk7 (unhide HZ)
    obtain ⟨z0, z1, z2, z3, z4, z5, z6⟩ := frz7 (unhide HZ)
    have HNode := hide (leaf (W := w5) (lo := w.heap.size + 1) 21 at0 T0 ⟨#[]⟩ false)
    go_wp2
    exact ret_put rfl rfl rfl (unhide HB) hr (unhide HZ) (by have h := unhide HY; rw [unhide HN0] at h; exact h.symm) (unhide HL).1 (unhide HR) (Nat.lt_succ_self _) (unhide HNode)
  have hY4 := unhide HY
  simp only [Bool.false_eq_true, if_false] at hY4
  replace HY := hide hY4
  have hRR := unhide HR
  rw [if_neg Bool.false_ne_true] at hRR
  replace HR := hide hRR
  clear hY4 hRR
  have HC7 := hide (exprs_of (unhide HT) (unhide hE) (by decide : 8 ≤ 1000000) (unhide HL).2 (unhide HR))
  go_wp2_with fail
  refine (unhide HC7).mono ?_
  intro e w7 h7
  rcases hX7 : exprsR ts (g .rE d) 8 (q3) with er | ⟨t7, q7⟩
  · rw [hX7] at h7
    obtain ⟨ei, en⟩ := er
    have hYe : Y = .error (ei, en) := by have h := unhide HY; rw [hX7] at h; exact h.symm
    subst hYe
    obtain ⟨hb7, h7⟩ := h7
    obtain rfl : e = _ := h7
    have HP := hide ((unhide HB).trans hb7)
    clear hb7 HC7 hX7
    go_wp2
    exact ⟨rfl, unhide HP, rfl⟩
  rw [hX7] at h7
  obtain ⟨hb7, hle7, hR7, v7, rfl, hv7⟩ := h7
  have hY7 := unhide HY
  rw [hX7] at hY7
  simp only [thenR] at hY7
  replace HY := hide hY7
  clear hY7
  obtain ⟨a7, n7, c7, rfl⟩ := IsLs.form hv7
  have HT7 := hide (IsLs.keep (lo' := w.heap.size + 1) hv7 (Stays.of (Below.refl _ _)) (unhide HS))
  replace HB := hide ((unhide HB).trans hb7)
  replace HZ := hide ((unhide HZ).but hb7 hrne)
  replace HX1 := hide ((hb7.block _ (blk (unhide HX1)).1 (Ne.symm ne1)).trans (unhide HX1))
  replace HS := hide (Nat.lt_of_lt_of_le (unhide HS) hb7.size)
  replace HR := hide hR7
  replace HL := hide (And.intro (Nat.le_trans (unhide HL).1 hle7) (Nat.le_trans (unhide HL).2 hle7))
  clear hb7 hle7 hR7 hv7 HC7 hX7
  have HC8 := hide (must_any (unhide HR) (unhide HT) (s := ⟨#[41]⟩) (by decide))
  go_wp2_with fail
  refine (unhide HC8).mono ?_
  intro e w8 h8
  rcases hX8 : mustR ts ⟨#[41]⟩ (q7) with er | ⟨t8, q8⟩
  · rw [hX8] at h8
    obtain ⟨ei, en⟩ := er
    have hYe : Y = .error (ei, en) := by have h := unhide HY; rw [hX8] at h; exact h.symm
    subst hYe
    obtain ⟨hb8, h8⟩ := h8
    obtain rfl : e = _ := h8
    have HP := hide ((unhide HB).trans hb8)
    clear hb8 HC8 hX8
    go_wp2
    exact ⟨rfl, unhide HP, rfl⟩
  rw [hX8] at h8
  obtain ⟨hb8, hle8, hR8, v8, rfl, hv8⟩ := h8
  have hY8 := unhide HY
  rw [hX8] at hY8
  simp only [thenR] at hY8
  replace HY := hide hY8
  clear hY8
  obtain rfl : v8 = _ := hv8
  replace HB := hide ((unhide HB).trans hb8)
  replace HZ := hide ((unhide HZ).but hb8 hrne)
  replace HX1 := hide ((hb8.block _ (blk (unhide HX1)).1 (Ne.symm ne1)).trans (unhide HX1))
  replace HT7 := hide ((unhide HT7).keep (Stays.but hb8 (Nat.lt_succ_of_lt hr)) (Nat.le_refl _))
  replace HS := hide (Nat.lt_of_lt_of_le (unhide HS) hb8.size)
  replace HR := hide hR8
  replace HL := hide (And.intro (Nat.le_trans (unhide HL).1 hle8) (Nat.le_trans (unhide HL).2 hle8))
  clear hb8 hle8 hR8 HC8 hX8
  have u01 := (blk (unhide HX1)).2.1 0 _ rfl
  have u11 := (blk (unhide HX1)).2.1 1 _ rfl
  have u21 := (blk (unhide HX1)).2.1 2 _ rfl
  have HC9 := hide (named_any 21 kk0 at0 T0 T0 a7 n7 c7 w8)
  go_wp2_with fail
  refine (unhide HC9).mono ?_
  rintro e w9 ⟨rfl, hb9⟩
  have hbu10 := But.of (r := r) hb9
  replace HR := hide ((unhide HR).keep hb9)
  replace HB := hide ((unhide HB).trans hbu10)
  replace HZ := hide ((unhide HZ).but hbu10 hrne)
  replace HX1 := hide ((hbu10.block _ (blk (unhide HX1)).1 (Ne.symm ne1)).trans (unhide HX1))
  replace HT7 := hide ((unhide HT7).keep (Stays.but hbu10 (Nat.lt_succ_of_lt hr)) (Nat.le_refl _))
  replace HS := hide (Nat.lt_of_lt_of_le (unhide HS) hbu10.size)
  clear hb9 HC9
  obtain ⟨y0, y1, y2, y3, y4, y5, y6⟩ := blk7 (unhide HZ)
  obtain ⟨z0, z1, z2, z3, z4, z5, z6⟩ := frz7 (unhide HZ)
  have HNode := hide ((unhide HT7).node 21 at0 T0 ⟨#[]⟩ false)
  go_wp2
  exact ret_put rfl rfl rfl (unhide HB) hr (unhide HZ) (by have h := unhide HY; rw [unhide HN0] at h; exact h.symm) (unhide HL).1 (unhide HR) (Nat.lt_succ_self _) (unhide HNode)
end Go.Proofs.YtfkfnbehdcmgeaaGreatDoor

/- Package parse: all rules of expressions. -/
namespace Go.Proofs.YtfkfnbehdcmgeaaGreatDoor
open Go Go.RowKit
theorem enter_within : Enters Tryz.prog 75 := ⟨fun xs w => by go_simp⟩
/-- The three rules that are one deeper, from a place on. -/
def GC (r : Nat) (ts : List (Int × ByteArray × Int)) (f d lo : Nat) : Prop :=
  RuC 59 r ts d lo (gR ts f .rE d) ∧ RuC 127 r ts d lo (gR ts f .rU d) ∧
  ∀ (w : World) (p : Nat), lo ≤ p → RD w r ts p d → Calls Tryz.prog 73 #[.pointer (some ⟨r, 0, none⟩), .bool (begU ts p), .func (.func 115) #[.pointer (some ⟨r, 0, none⟩)] #[]] w (PE (gR ts f .rI d p) r ts p d w)
theorem rules_all {r : Nat} {ts : List (Int × ByteArray × Int)} (hT : TsOk ts) : ∀ (f d lo : Nat), ts.length ≤ lo + f → d + f ≤ 1000000 → GC r ts f d lo
  | 0, d, lo, hf, _ => ⟨fun w p hlo hR => absurd hR.lt (by omega), fun w p hlo hR => absurd hR.lt (by omega), fun w p hlo hR => absurd hR.lt (by omega)⟩
  | f + 1, d, lo, hf, hd => by
    obtain ⟨hE, hU, hI⟩ := rules_all hT f (d + 1) (lo + 1) (by omega) (by omega)
    have hd' : d ≤ 1000000 := by omega
    have hPr : RuC 128 r ts (d + 1) lo (primR ts (gR ts f) (d + 1)) := fun w p hlo hR =>
      primary_of hT (fun w p kk ai T hlo hR => bracketed_of hT hE hlo hR) (fun w p hlo hp1 _ hR => call_of hT hE hlo hp1 hR) hlo hR
    have hUn : RuC 126 r ts (d + 1) lo (unaryR ts (gR ts f) (d + 1)) := fun w p hlo hR => unary_of hT hU hPr hlo hR
    have hTe : RuC 125 r ts (d + 1) lo (termR ts (gR ts f) (d + 1)) := fun w p hlo hR => term_of hT hUn hlo hR
    have hSu : RuC 124 r ts (d + 1) lo (sumR ts (gR ts f) (d + 1)) := fun w p hlo hR => sum_of hT hTe hlo hR
    have hCm : RuC 122 r ts (d + 1) lo (cmpR ts (gR ts f) (d + 1)) := fun w p hlo hR => cmp_of hT hSu hlo hR
    have hAn : RuC 120 r ts (d + 1) lo (andR ts (gR ts f) (d + 1)) := fun w p hlo hR => and_of hT hCm hlo hR
    have hOr : RuC 117 r ts (d + 1) lo (orR ts (gR ts f) (d + 1)) := fun w p hlo hR => or_of hT hAn hlo hR
    have hIm : RuC 115 r ts (d + 1) lo (impR ts (gR ts f) (d + 1)) := fun w p hlo hR => imp_of hT hOr hI hlo hR
    have hPa : RuC 112 r ts (d + 1) lo (partR ts (gR ts f) (d + 1)) := fun w p hlo hR => part_of hT hIm hlo hR
    have hSe : RuC 98 r ts (d + 1) lo (seqR ts (gR ts f) (d + 1)) := fun w p hlo hR => sequence_of hT hPa hE hlo hR
    have hWi : RuC 75 r ts (d + 1) lo (withinR ts (gR ts f) (d + 1)) := fun w p hlo hR =>
      within_of hT (fun w p hlo hp1 hR => branch_of hT hE hlo hp1 hR) (fun w p hlo hp1 hR => binding_of hT hE hlo hp1 hR) (fun w p hlo hp1 hR => handler_of hT hE hlo hp1 hR) hSe hlo hR
    refine ⟨?_, ?_, fun w p hlo hR => ?_⟩
    · exact expr_of hT hd' enter_within hWi
    · exact unb_of hT hd' enter_unary hUn
    · exact nested_any hR hT (begU ts p) hd' enter_imp hIm hlo
end Go.Proofs.YtfkfnbehdcmgeaaGreatDoor

/- Package parse as plain Lean: programs. -/
namespace Go.Proofs.YtfkfnbehdcmgeaaGreatDoor
/-- A type: its kind, its name, what holds of it, its place. -/
structure Ty where
  kind : Int
  name : ByteArray
  r : List Ex
  at' : Int
/-- A parameter: its name, its type, its place. -/
structure Pm where
  name : ByteArray
  t : Ty
  at' : Int
/-- A declaration. -/
structure De where
  cell : Bool
  name : ByteArray
  num : ByteArray
  again : Bool
  ps : List Pm
  eff : Int
  t : Ty
  req : List Ex
  res : ByteArray
  ens : List Ex
  mea : List Ex
  body : Ex
  at' : Int
def zEx : Ex := .mk 0 ⟨#[]⟩ ⟨#[]⟩ false [] 0
def zTy : Ty := .mk 0 ⟨#[]⟩ [] 0
def kindD (s : ByteArray) : Int := if s = ⟨#[105, 110, 116]⟩ then 1 else if s = ⟨#[98, 111, 111, 108]⟩ then 2 else if s = ⟨#[117, 110, 105, 116]⟩ then 3 else 0
def effD (s : ByteArray) : Int := if s = ⟨#[80, 117, 114, 101]⟩ then 1 else if s = ⟨#[83, 116, 97, 116, 101]⟩ then 2 else if s = ⟨#[69, 120, 110]⟩ then 3 else if s = ⟨#[65, 108, 108]⟩ then 4 else if s = ⟨#[68, 105, 118]⟩ then 5 else 0
section
variable (ts : List (Int × ByteArray × Int))
def exR (p : Nat) : (Except (Int × Int) (Ex × Nat)) := gR ts ts.length .rE 0 p
def endR (p : Nat) : (Except (Int × Int) (Unit × Nat)) := if (nx ts p).1 = 0 then .ok ((), p) else bad ts p 150
/-- An expression and the end. -/
def aloneP (p : Nat) : (Except (Int × Int) (Ex × Nat)) := thenR (exR ts p) fun x q => thenR (endR ts q) fun _ z => .ok (x, z)
def refR (p : Nat) : (Except (Int × Int) (Ty × Nat)) := thenR (mustBeR ts 1 (p + 1)) fun n q => thenR (mustR ts ⟨#[58]⟩ q) fun _ q => thenR (mustR ts ⟨#[105, 110, 116]⟩ q) fun _ q => thenR (mustR ts ⟨#[124]⟩ q) fun _ q => thenR (exR ts q) fun x q => thenR (mustR ts ⟨#[125]⟩ q) fun _ q => .ok (.mk 1 n.2.1 [x] (nx ts p).2.2, q)
def typeR (p : Nat) : (Except (Int × Int) (Ty × Nat)) := if sees ts p ⟨#[123]⟩ then refR ts p else if kindD (txt ts p) = 0 then bad ts p 150 else .ok (.mk (kindD (txt ts p)) ⟨#[]⟩ [] (nx ts p).2.2, p + 1)
def effR (p : Nat) : (Except (Int × Int) (Int × Nat)) := if effD (txt ts p) = 0 then bad ts p 150 else .ok (effD (txt ts p), p + 1)
def paramR (p : Nat) : (Except (Int × Int) (Pm × Nat)) := thenR (mustR ts ⟨#[40]⟩ p) fun _ q => thenR (mustBeR ts 1 q) fun n q => thenR (mustR ts ⟨#[58]⟩ q) fun _ q => thenR (typeR ts q) fun t q => thenR (mustR ts ⟨#[41]⟩ q) fun _ q => .ok (.mk n.2.1 t n.2.2, q)
def paramsL : Nat → List Pm → Nat → (Except (Int × Int) ((List Pm) × Nat))
  | 0, out, p => .ok (out, p)
  | n + 1, out, p => if sees ts p ⟨#[40]⟩ then (if out.length = 8 then bad ts p 152 else thenR (paramR ts p) fun x q => paramsL n (out ++ [x]) q) else .ok (out, p)
def paramsR (p : Nat) : (Except (Int × Int) ((List Pm) × Nat)) := paramsL ts ts.length [] p
def reqR (p : Nat) : (Except (Int × Int) ((List Ex) × Nat)) := if sees ts p ⟨#[114, 101, 113, 117, 105, 114, 101, 115]⟩ then thenR (exR ts (p + 1)) fun x q => .ok ([x], q) else .ok ([], p)
def ensR (p : Nat) : (Except (Int × Int) ((ByteArray × List Ex) × Nat)) := if sees ts p ⟨#[101, 110, 115, 117, 114, 101, 115]⟩ then thenR (mustBeR ts 1 (p + 1)) fun n q => thenR (mustR ts ⟨#[46]⟩ q) fun _ q => thenR (exR ts q) fun x q => .ok ((n.2.1, [x]), q) else .ok ((⟨#[]⟩, []), p)
def meaR (p : Nat) : (Except (Int × Int) ((List Ex) × Nat)) := if sees ts p ⟨#[100, 101, 99, 114, 101, 97, 115, 101, 115]⟩ then exprsR ts (exR ts) 65536 (p + 1) else .ok ([], p)
/-- What is required, the result's name, what is ensured, the measure. -/
def contR (p : Nat) : (Except (Int × Int) ((List Ex × ByteArray × List Ex × List Ex) × Nat)) := thenR (reqR ts p) fun a q => thenR (ensR ts q) fun b q => thenR (meaR ts q) fun c q => .ok ((a, b.1, b.2, c), q)
def defR (p : Nat) : (Except (Int × Int) (De × Nat)) :=
  thenR (mustBeR ts 1 (if sees ts p ⟨#[114, 101, 99]⟩ then p + 1 else p)) fun n q => thenR (paramsR ts q) fun ps q => thenR (mustR ts ⟨#[58]⟩ q) fun _ q => thenR (effR ts q) fun e q => thenR (typeR ts q) fun t q => thenR (contR ts q) fun c q => thenR (mustR ts ⟨#[105, 115]⟩ q) fun _ q => thenR (exR ts q) fun x q => thenR (mustR ts ⟨#[59, 59]⟩ q) fun _ q =>
    .ok (.mk false n.2.1 ⟨#[]⟩ (sees ts p ⟨#[114, 101, 99]⟩) ps e t c.1 c.2.1 c.2.2.1 c.2.2.2 x n.2.2, q)
def cellN (below : Bool) (n : ByteArray) : ByteArray := if below ∧ n ≠ ⟨#[48]⟩ then ⟨#[45]⟩ ++ n else n
def cellR (p : Nat) : (Except (Int × Int) (De × Nat)) :=
  thenR (mustBeR ts 1 p) fun n q => thenR (mustR ts ⟨#[58, 61]⟩ q) fun _ q => thenR (mustBeR ts 3 (if sees ts q ⟨#[45]⟩ then q + 1 else q)) fun k z => thenR (mustR ts ⟨#[59, 59]⟩ z) fun _ z =>
    .ok (.mk true n.2.1 (cellN (sees ts q ⟨#[45]⟩) k.2.1) false [] 0 zTy [] ⟨#[]⟩ [] [] zEx n.2.2, z)
def declR (p : Nat) : (Except (Int × Int) (De × Nat)) := if sees ts p ⟨#[114, 101, 102]⟩ then cellR ts (p + 1) else thenR (mustR ts ⟨#[108, 101, 116]⟩ p) fun _ q => defR ts q
def progL : Nat → List De → Nat → (Except (Int × Int) ((List De) × Nat))
  | 0, out, p => .ok (out, p)
  | n + 1, out, p => if ([⟨#[114, 101, 102]⟩, ⟨#[108, 101, 116]⟩] : List ByteArray).any (sees ts p) then (if out.length = 100 then bad ts p 152 else thenR (declR ts p) fun x q => progL n (out ++ [x]) q) else .ok (out, p)
def progR (p : Nat) : (Except (Int × Int) ((List De) × Nat)) := thenR (progL ts ts.length [] p) fun l q => thenR (endR ts q) fun _ z => .ok (l, z)
end
end Go.Proofs.YtfkfnbehdcmgeaaGreatDoor

namespace Go.Proofs.YtfkfnbehdcmgeaaGreatDoor
open Go Go.RowKit
set_option maxRecDepth 100000 in
set_option maxHeartbeats 4000000 in
theorem mustEnd_any {w : World} {r p d : Nat} {ts : List (Int × ByteArray × Int)} (hR : RD w r ts p d) (hT : TsOk ts) : Calls Tryz.prog 46 #[.pointer (some ⟨r, 0, none⟩)] w (RP UnOk (endR ts p) r ts p d w) := by
  have HS := hide (next_any hR hT)
  obtain ⟨X, hX⟩ : ∃ X, endR ts p = X := ⟨_, rfl⟩
  rw [hX]
  unfold endR at hX
  have HT := hide (And.intro hR hT)
  unfold tkV at HS
  obtain ⟨⟨kk, T, i⟩, hN⟩ : ∃ Y, nx ts p = Y := ⟨_, rfl⟩
  rw [hN] at HS
  have HA := hide (And.intro hX hN)
  have h0 := fld0 (.int .i64 kk) (.string T) (.int .i64 i)
  clear hR hT hX hN
  by_cases hkk : kk = 0
  · subst hkk
    go_enter Tryz.func46, Tryz.ntmps46
    go_wp2_with fail
    refine (unhide HS).mono ?_
    rintro e w2 ⟨rfl, hb2⟩
    have HB2 := hide hb2
    clear hb2 HS
    go_wp2
    obtain ⟨hX, hN⟩ := unhide HA
    obtain ⟨hR, hT⟩ := unhide HT
    rw [hN, if_pos rfl] at hX
    obtain rfl := hX
    refine bodyPost_ret (results_none rfl _ _ _) rfl ?_
    exact ⟨But.of (unhide HB2), Nat.le_refl _, hR.keep (unhide HB2), _, rfl, rfl⟩
  · have g0 : decide (kk = 0) = false := by simpa using hkk
    go_enter Tryz.func46, Tryz.ntmps46
    go_wp2_with fail
    refine (unhide HS).mono ?_
    rintro e w2 ⟨rfl, hb2⟩
    have HRf := hide (refused_any ((unhide HT).1.keep hb2) (unhide HT).2 150)
    have HB2 := hide hb2
    clear hb2 HS
    go_wp2_with fail
    refine (unhide HRf).mono ?_
    rintro e w3 ⟨rfl, hb3⟩
    have HB3 := hide hb3
    clear hb3 HRf
    go_wp2
    obtain ⟨hX, hN⟩ := unhide HA
    rw [hN, if_neg hkk] at hX
    obtain rfl := hX
    refine ⟨rfl, (But.of (unhide HB2)).trans (But.of (unhide HB3)), ?_⟩
    rfl
set_option maxRecDepth 100000 in
set_option maxHeartbeats 8000000 in
theorem alone_of {r d lo : Nat} {ts : List (Int × ByteArray × Int)} {g : Ru → Nat → Nat → (Except (Int × Int) (Ex × Nat))} (hT : TsOk ts) (hE : RuC 59 r ts d lo (exR ts)) {w : World} {p : Nat} (hlo : lo ≤ p) (hR : RD w r ts p d) : Calls Tryz.prog 36 #[.pointer (some ⟨r, 0, none⟩)] w (PE (aloneP ts p) r ts p d w) := by
  obtain ⟨Y, hY⟩ : ∃ Y, aloneP ts p = Y := ⟨_, rfl⟩
  rw [hY]
  unfold aloneP at hY
  have hr := hR.rlt
  obtain ⟨A, eA, hbA, hzA, hsA⟩ := zb_new w
  have HB := hide (But.of (r := r) hbA)
  have HR := hide (hR.keep hbA)
  have HZ := hide hzA
  have HS : Hid (w.heap.size < A.heap.size) := by show _ < _; omega
  have HL : Hid (p ≤ p ∧ lo ≤ p) := ⟨Nat.le_refl _, hlo⟩
  have HSA := hide hsA
  have HE := hide eA
  have HT := hide hT
  have HY := hide hY
  have hrne : r ≠ w.heap.size := by omega
  have hmf : ∀ (fn : Fn) (first cap : Array Value) (w : World), (Instr.makeFunc fn first cap).run Tryz.prog w = .ok (.func fn first cap) w := fun _ _ _ _ => rfl
  replace hE := hide hE
  clear hlo hR hbA hzA hsA eA hT hY
  go_enter Tryz.func36, Tryz.ntmps36
  have HC0 := hide (unhide hE A (p) (unhide HL).2 (unhide HR))
  go_wp2_with fail
  rw [unhide HE]
  refine (unhide HC0).mono ?_
  intro e w0 h0
  rcases hX0 : exR ts (p) with er | ⟨t0, q0⟩
  · rw [hX0] at h0
    obtain ⟨ei, en⟩ := er
    have hYe : Y = .error (ei, en) := by have h := unhide HY; rw [hX0] at h; exact h.symm
    subst hYe
    obtain ⟨hb0, h0⟩ := h0
    obtain rfl : e = _ := h0
    have HP := hide ((unhide HB).trans hb0)
    clear hb0 HC0 hX0
    go_wp2
    exact ⟨rfl, unhide HP, rfl⟩
  rw [hX0] at h0
  obtain ⟨hb0, hle0, hR0, v0, rfl, hv0⟩ := h0
  have hY0 := unhide HY
  rw [hX0] at hY0
  simp only [thenR] at hY0
  replace HY := hide hY0
  clear hY0
  obtain ⟨i0, j0, s0, m0, b0, a0, n0, c0, rfl⟩ := hv0.form
  have HT0 := hide (hv0.keep (lo' := w.heap.size + 1) (Stays.of (Below.refl _ _)) (unhide HS))
  replace HB := hide ((unhide HB).trans hb0)
  replace HZ := hide ((unhide HZ).but hb0 hrne)
  replace HS := hide (Nat.lt_of_lt_of_le (unhide HS) hb0.size)
  replace HR := hide hR0
  replace HL := hide (And.intro (Nat.le_trans (unhide HL).1 hle0) (Nat.le_trans (unhide HL).2 hle0))
  clear hb0 hle0 hR0 hv0 HC0 hX0
  obtain ⟨B1, eB1, hbB1, hsB1, hhB1⟩ := box_new w0 #[.int .i64 i0, .string s0, .string m0, .bool b0, .slice a0 n0 c0, .int .i64 0, .int .i64 j0] 36
  have ne1 : r ≠ w0.heap.size := by have := unhide HS; omega
  have HQHX1 := HS
  have hbu2 := But.of (r := r) hbB1
  replace HR := hide ((unhide HR).keep hbB1)
  replace HB := hide ((unhide HB).trans hbu2)
  replace HZ := hide ((unhide HZ).but hbu2 hrne)
  replace HT0 := hide ((unhide HT0).keep (Stays.but hbu2 (Nat.lt_succ_of_lt hr)) (Nat.le_refl _))
  replace HS := hide (Nat.lt_of_lt_of_le (unhide HS) hbu2.size)
  have HX1 := hide hhB1
  have HEB1 := hide eB1
  have HSB1 := hide hsB1
  clear eB1 hbB1 hhB1 hsB1
  have HC3 := hide (mustEnd_any (unhide HR) (unhide HT))
  go_wp2_with fail
  rw [unhide HEB1]
  refine (unhide HC3).mono ?_
  intro e w3 h3
  rcases hX3 : endR ts (q0) with er | ⟨t3, q3⟩
  · rw [hX3] at h3
    obtain ⟨ei, en⟩ := er
    have hYe : Y = .error (ei, en) := by have h := unhide HY; rw [hX3] at h; exact h.symm
    subst hYe
    obtain ⟨hb3, h3⟩ := h3
    obtain rfl : e = _ := h3
    have HP := hide ((unhide HB).trans hb3)
    clear hb3 HC3 hX3
    go_wp2
    exact ⟨rfl, unhide HP, rfl⟩
  rw [hX3] at h3
  obtain ⟨hb3, hle3, hR3, v3, rfl, hv3⟩ := h3
  have hY3 := unhide HY
  rw [hX3] at hY3
  simp only [thenR] at hY3
  replace HY := hide hY3
  clear hY3
  obtain rfl : v3 = _ := hv3
  replace HB := hide ((unhide HB).trans hb3)
  replace HZ := hide ((unhide HZ).but hb3 hrne)
  replace HX1 := hide ((hb3.block _ (blk (unhide HX1)).1 (Ne.symm ne1)).trans (unhide HX1))
  replace HT0 := hide ((unhide HT0).keep (Stays.but hb3 (Nat.lt_succ_of_lt hr)) (Nat.le_refl _))
  replace HS := hide (Nat.lt_of_lt_of_le (unhide HS) hb3.size)
  replace HR := hide hR3
  replace HL := hide (And.intro (Nat.le_trans (unhide HL).1 hle3) (Nat.le_trans (unhide HL).2 hle3))
  clear hb3 hle3 hR3 HC3 hX3
  obtain ⟨y01, y11, y21, y31, y41, y51, y61⟩ := blk7 (unhide HX1)
  obtain ⟨y0, y1, y2, y3, y4, y5, y6⟩ := blk7 (unhide HZ)
  obtain ⟨z0, z1, z2, z3, z4, z5, z6⟩ := frz7 (unhide HZ)
  have HNode := hide (unhide HT0)
  go_wp2
  exact ret_put rfl rfl rfl (unhide HB) hr (unhide HZ) (by have h := unhide HY; exact h.symm) (unhide HL).1 (unhide HR) (Nat.lt_succ_self _) (unhide HNode)
end Go.Proofs.YtfkfnbehdcmgeaaGreatDoor
