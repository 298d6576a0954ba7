/- Package parse: exprs. -/
import Derived.Test.YtfkfnbehdcmgeaaGreatDoorZAG
import Derived.Deep.AppendLies
set_option linter.unusedVariables false
set_option linter.unusedSimpArgs false

/- Package parse: chains. -/
namespace Go.Proofs.YtfkfnbehdcmgeaaGreatDoor
open Go Go.RowKit
theorem enter_and : Enters Tryz.prog 120 := ⟨fun xs w => by go_simp⟩
theorem enter_cmp : Enters Tryz.prog 122 := ⟨fun xs w => by go_simp⟩
theorem enter_unary : Enters Tryz.prog 126 := ⟨fun xs w => by go_simp⟩
theorem enter_term : Enters Tryz.prog 125 := ⟨fun xs w => by go_simp⟩
theorem enter_sum : Enters Tryz.prog 124 := ⟨fun xs w => by go_simp⟩
set_option maxRecDepth 100000 in
set_option maxHeartbeats 8000000 in
theorem or_of {r d lo : Nat} {ts : List (Int × ByteArray × Int)} {g : Ru → Nat → Nat → (Except (Int × Int) (Ex × Nat))} (hT : TsOk ts) (hS : RuC 120 r ts d lo (andR ts g d)) {w : World} {p : Nat} (hlo : lo ≤ p) (hR : RD w r ts p d) : Calls Tryz.prog 117 #[.pointer (some ⟨r, 0, none⟩)] w (PE (orR ts g d p) r ts p d w) := by
  obtain ⟨Y, hY⟩ : ∃ Y, orR ts g d p = Y := ⟨_, rfl⟩
  rw [hY]
  unfold orR at hY
  have hr := hR.rlt
  obtain ⟨A, eA, hbA, hzA, hsA⟩ := zb_new w
  have HB := hide (But.of (r := r) hbA)
  have HR := hide (hR.keep hbA)
  have HZ := hide hzA
  have HS : Hid (w.heap.size < A.heap.size) := by show _ < _; omega
  have HL : Hid (p ≤ p ∧ lo ≤ p) := ⟨Nat.le_refl _, hlo⟩
  have HSA := hide hsA
  have HE := hide eA
  have HT := hide hT
  have HY := hide hY
  have hrne : r ≠ w.heap.size := by omega
  have hmf : ∀ (fn : Fn) (first cap : Array Value) (w : World), (Instr.makeFunc fn first cap).run Tryz.prog w = .ok (.func fn first cap) w := fun _ _ _ _ => rfl
  replace hS := hide hS
  clear hlo hR hbA hzA hsA eA hT hY
  have HJ := hide (joined_of (unhide HT) (enter_and) (unhide hS))
  obtain ⟨B, eB, hbB, hsB, hhB⟩ := box_new A #[.string ⟨#[124, 124]⟩] 9
  have hAr : r ≠ A.heap.size := by have := unhide HS; omega
  have HC := hide (chain_of (cc0 := 1) (nn0 := 1) (signs := [⟨#[124, 124]⟩]) (unhide HT) (enter_and) (unhide hS) (unhide HJ) (unhide HL).2 ((unhide HR).keep hbB) rfl (fun s hs => by simp only [List.mem_cons, List.not_mem_nil, or_false] at hs; rcases hs with rfl <;> decide) (by simp) ⟨(blk hhB).1, hAr⟩ (fun j s hs => by rw [← eB]; exact strs_at rfl j s hs))
  have hC := unhide HC
  rw [unhide HSA] at hC
  replace HC := hide hC
  clear hC
  have HBB := hide hbB
  have HEB := hide eB
  clear eB hbB hsB hhB
  go_enter Tryz.func117, Tryz.ntmps117
  go_wp2_with fail
  rw [unhide HE, unhide HEB]
  have hbu0 := But.of (r := r) (unhide HBB)
  replace HR := hide ((unhide HR).keep (unhide HBB))
  replace HB := hide ((unhide HB).trans hbu0)
  replace HZ := hide ((unhide HZ).but hbu0 hrne)
  replace HS := hide (Nat.lt_of_lt_of_le (unhide HS) hbu0.size)
  refine (unhide HC).mono ?_
  intro e w1 h1
  rcases hX1 : chainR ts (andR ts g d) [⟨#[124, 124]⟩] p with er | ⟨t1, q1⟩
  · rw [hX1] at h1
    obtain ⟨ei, en⟩ := er
    have hYe : Y = .error (ei, en) := by have h := unhide HY; rw [hX1] at h; exact h.symm
    subst hYe
    obtain ⟨hb1, h1⟩ := h1
    obtain rfl : e = _ := h1
    have HP := hide ((unhide HB).trans hb1)
    clear hb1 HC hX1
    go_wp2
    exact ⟨rfl, unhide HP, rfl⟩
  rw [hX1] at h1
  obtain ⟨hb1, hle1, hR1, v1, rfl, hv1⟩ := h1
  have hY1 := unhide HY
  rw [hX1] at hY1
  replace HY := hide hY1
  obtain ⟨i1, j1, s1, m1, b1, a1, n1, c1, rfl⟩ := hv1.form
  have HT1 := hide (hv1.keep (lo' := w.heap.size + 1) (Stays.of (Below.refl _ _)) (unhide HS))
  replace HB := hide ((unhide HB).trans hb1)
  replace HZ := hide ((unhide HZ).but hb1 hrne)
  replace HS := hide (Nat.lt_of_lt_of_le (unhide HS) hb1.size)
  replace HR := hide hR1
  replace HL := hide (And.intro (Nat.le_trans (unhide HL).1 hle1) (Nat.le_trans (unhide HL).2 hle1))
  clear hb1 hle1 hR1 hv1 HC hX1 hY1
  obtain ⟨y0, y1, y2, y3, y4, y5, y6⟩ := blk7 (unhide HZ)
  obtain ⟨z0, z1, z2, z3, z4, z5, z6⟩ := frz7 (unhide HZ)
  have HNode := hide (unhide HT1)
  go_wp2
  exact ret_put rfl rfl rfl (unhide HB) hr (unhide HZ) (by have h := unhide HY; exact h.symm) (unhide HL).1 (unhide HR) (Nat.lt_succ_self _) (unhide HNode)
set_option maxRecDepth 100000 in
set_option maxHeartbeats 8000000 in
theorem and_of {r d lo : Nat} {ts : List (Int × ByteArray × Int)} {g : Ru → Nat → Nat → (Except (Int × Int) (Ex × Nat))} (hT : TsOk ts) (hS : RuC 122 r ts d lo (cmpR ts g d)) {w : World} {p : Nat} (hlo : lo ≤ p) (hR : RD w r ts p d) : Calls Tryz.prog 120 #[.pointer (some ⟨r, 0, none⟩)] w (PE (andR ts g d p) r ts p d w) := by
  obtain ⟨Y, hY⟩ : ∃ Y, andR ts g d p = Y := ⟨_, rfl⟩
  rw [hY]
  unfold andR at hY
  have hr := hR.rlt
  obtain ⟨A, eA, hbA, hzA, hsA⟩ := zb_new w
  have HB := hide (But.of (r := r) hbA)
  have HR := hide (hR.keep hbA)
  have HZ := hide hzA
  have HS : Hid (w.heap.size < A.heap.size) := by show _ < _; omega
  have HL : Hid (p ≤ p ∧ lo ≤ p) := ⟨Nat.le_refl _, hlo⟩
  have HSA := hide hsA
  have HE := hide eA
  have HT := hide hT
  have HY := hide hY
  have hrne : r ≠ w.heap.size := by omega
  have hmf : ∀ (fn : Fn) (first cap : Array Value) (w : World), (Instr.makeFunc fn first cap).run Tryz.prog w = .ok (.func fn first cap) w := fun _ _ _ _ => rfl
  replace hS := hide hS
  clear hlo hR hbA hzA hsA eA hT hY
  have HJ := hide (joined_of (unhide HT) (enter_cmp) (unhide hS))
  obtain ⟨B, eB, hbB, hsB, hhB⟩ := box_new A #[.string ⟨#[38, 38]⟩] 9
  have hAr : r ≠ A.heap.size := by have := unhide HS; omega
  have HC := hide (chain_of (cc0 := 1) (nn0 := 1) (signs := [⟨#[38, 38]⟩]) (unhide HT) (enter_cmp) (unhide hS) (unhide HJ) (unhide HL).2 ((unhide HR).keep hbB) rfl (fun s hs => by simp only [List.mem_cons, List.not_mem_nil, or_false] at hs; rcases hs with rfl <;> decide) (by simp) ⟨(blk hhB).1, hAr⟩ (fun j s hs => by rw [← eB]; exact strs_at rfl j s hs))
  have hC := unhide HC
  rw [unhide HSA] at hC
  replace HC := hide hC
  clear hC
  have HBB := hide hbB
  have HEB := hide eB
  clear eB hbB hsB hhB
  go_enter Tryz.func120, Tryz.ntmps120
  go_wp2_with fail
  rw [unhide HE, unhide HEB]
  have hbu0 := But.of (r := r) (unhide HBB)
  replace HR := hide ((unhide HR).keep (unhide HBB))
  replace HB := hide ((unhide HB).trans hbu0)
  replace HZ := hide ((unhide HZ).but hbu0 hrne)
  replace HS := hide (Nat.lt_of_lt_of_le (unhide HS) hbu0.size)
  refine (unhide HC).mono ?_
  intro e w1 h1
  rcases hX1 : chainR ts (cmpR ts g d) [⟨#[38, 38]⟩] p with er | ⟨t1, q1⟩
  · rw [hX1] at h1
    obtain ⟨ei, en⟩ := er
    have hYe : Y = .error (ei, en) := by have h := unhide HY; rw [hX1] at h; exact h.symm
    subst hYe
    obtain ⟨hb1, h1⟩ := h1
    obtain rfl : e = _ := h1
    have HP := hide ((unhide HB).trans hb1)
    clear hb1 HC hX1
    go_wp2
    exact ⟨rfl, unhide HP, rfl⟩
  rw [hX1] at h1
  obtain ⟨hb1, hle1, hR1, v1, rfl, hv1⟩ := h1
  have hY1 := unhide HY
  rw [hX1] at hY1
  replace HY := hide hY1
  obtain ⟨i1, j1, s1, m1, b1, a1, n1, c1, rfl⟩ := hv1.form
  have HT1 := hide (hv1.keep (lo' := w.heap.size + 1) (Stays.of (Below.refl _ _)) (unhide HS))
  replace HB := hide ((unhide HB).trans hb1)
  replace HZ := hide ((unhide HZ).but hb1 hrne)
  replace HS := hide (Nat.lt_of_lt_of_le (unhide HS) hb1.size)
  replace HR := hide hR1
  replace HL := hide (And.intro (Nat.le_trans (unhide HL).1 hle1) (Nat.le_trans (unhide HL).2 hle1))
  clear hb1 hle1 hR1 hv1 HC hX1 hY1
  obtain ⟨y0, y1, y2, y3, y4, y5, y6⟩ := blk7 (unhide HZ)
  obtain ⟨z0, z1, z2, z3, z4, z5, z6⟩ := frz7 (unhide HZ)
  have HNode := hide (unhide HT1)
  go_wp2
  exact ret_put rfl rfl rfl (unhide HB) hr (unhide HZ) (by have h := unhide HY; exact h.symm) (unhide HL).1 (unhide HR) (Nat.lt_succ_self _) (unhide HNode)
set_option maxRecDepth 100000 in
set_option maxHeartbeats 8000000 in
theorem term_of {r d lo : Nat} {ts : List (Int × ByteArray × Int)} {g : Ru → Nat → Nat → (Except (Int × Int) (Ex × Nat))} (hT : TsOk ts) (hS : RuC 126 r ts d lo (unaryR ts g d)) {w : World} {p : Nat} (hlo : lo ≤ p) (hR : RD w r ts p d) : Calls Tryz.prog 125 #[.pointer (some ⟨r, 0, none⟩)] w (PE (termR ts g d p) r ts p d w) := by
  obtain ⟨Y, hY⟩ : ∃ Y, termR ts g d p = Y := ⟨_, rfl⟩
  rw [hY]
  unfold termR at hY
  have hr := hR.rlt
  obtain ⟨A, eA, hbA, hzA, hsA⟩ := zb_new w
  have HB := hide (But.of (r := r) hbA)
  have HR := hide (hR.keep hbA)
  have HZ := hide hzA
  have HS : Hid (w.heap.size < A.heap.size) := by show _ < _; omega
  have HL : Hid (p ≤ p ∧ lo ≤ p) := ⟨Nat.le_refl _, hlo⟩
  have HSA := hide hsA
  have HE := hide eA
  have HT := hide hT
  have HY := hide hY
  have hrne : r ≠ w.heap.size := by omega
  have hmf : ∀ (fn : Fn) (first cap : Array Value) (w : World), (Instr.makeFunc fn first cap).run Tryz.prog w = .ok (.func fn first cap) w := fun _ _ _ _ => rfl
  replace hS := hide hS
  clear hlo hR hbA hzA hsA eA hT hY
  have HJ := hide (joined_of (unhide HT) (enter_unary) (unhide hS))
  obtain ⟨B, eB, hbB, hsB, hhB⟩ := box_new A #[.string ⟨#[42]⟩] 9
  have hAr : r ≠ A.heap.size := by have := unhide HS; omega
  have HC := hide (chain_of (cc0 := 1) (nn0 := 1) (signs := [⟨#[42]⟩]) (unhide HT) (enter_unary) (unhide hS) (unhide HJ) (unhide HL).2 ((unhide HR).keep hbB) rfl (fun s hs => by simp only [List.mem_cons, List.not_mem_nil, or_false] at hs; rcases hs with rfl <;> decide) (by simp) ⟨(blk hhB).1, hAr⟩ (fun j s hs => by rw [← eB]; exact strs_at rfl j s hs))
  have hC := unhide HC
  rw [unhide HSA] at hC
  replace HC := hide hC
  clear hC
  have HBB := hide hbB
  have HEB := hide eB
  clear eB hbB hsB hhB
  go_enter Tryz.func125, Tryz.ntmps125
  go_wp2_with fail
  rw [unhide HE, unhide HEB]
  have hbu0 := But.of (r := r) (unhide HBB)
  replace HR := hide ((unhide HR).keep (unhide HBB))
  replace HB := hide ((unhide HB).trans hbu0)
  replace HZ := hide ((unhide HZ).but hbu0 hrne)
  replace HS := hide (Nat.lt_of_lt_of_le (unhide HS) hbu0.size)
  refine (unhide HC).mono ?_
  intro e w1 h1
  rcases hX1 : chainR ts (unaryR ts g d) [⟨#[42]⟩] p with er | ⟨t1, q1⟩
  · rw [hX1] at h1
    obtain ⟨ei, en⟩ := er
    have hYe : Y = .error (ei, en) := by have h := unhide HY; rw [hX1] at h; exact h.symm
    subst hYe
    obtain ⟨hb1, h1⟩ := h1
    obtain rfl : e = _ := h1
    have HP := hide ((unhide HB).trans hb1)
    clear hb1 HC hX1
    go_wp2
    exact ⟨rfl, unhide HP, rfl⟩
  rw [hX1] at h1
  obtain ⟨hb1, hle1, hR1, v1, rfl, hv1⟩ := h1
  have hY1 := unhide HY
  rw [hX1] at hY1
  replace HY := hide hY1
  obtain ⟨i1, j1, s1, m1, b1, a1, n1, c1, rfl⟩ := hv1.form
  have HT1 := hide (hv1.keep (lo' := w.heap.size + 1) (Stays.of (Below.refl _ _)) (unhide HS))
  replace HB := hide ((unhide HB).trans hb1)
  replace HZ := hide ((unhide HZ).but hb1 hrne)
  replace HS := hide (Nat.lt_of_lt_of_le (unhide HS) hb1.size)
  replace HR := hide hR1
  replace HL := hide (And.intro (Nat.le_trans (unhide HL).1 hle1) (Nat.le_trans (unhide HL).2 hle1))
  clear hb1 hle1 hR1 hv1 HC hX1 hY1
  obtain ⟨y0, y1, y2, y3, y4, y5, y6⟩ := blk7 (unhide HZ)
  obtain ⟨z0, z1, z2, z3, z4, z5, z6⟩ := frz7 (unhide HZ)
  have HNode := hide (unhide HT1)
  go_wp2
  exact ret_put rfl rfl rfl (unhide HB) hr (unhide HZ) (by have h := unhide HY; exact h.symm) (unhide HL).1 (unhide HR) (Nat.lt_succ_self _) (unhide HNode)
set_option maxRecDepth 100000 in
set_option maxHeartbeats 8000000 in
theorem sum_of {r d lo : Nat} {ts : List (Int × ByteArray × Int)} {g : Ru → Nat → Nat → (Except (Int × Int) (Ex × Nat))} (hT : TsOk ts) (hS : RuC 125 r ts d lo (termR ts g d)) {w : World} {p : Nat} (hlo : lo ≤ p) (hR : RD w r ts p d) : Calls Tryz.prog 124 #[.pointer (some ⟨r, 0, none⟩)] w (PE (sumR ts g d p) r ts p d w) := by
  obtain ⟨Y, hY⟩ : ∃ Y, sumR ts g d p = Y := ⟨_, rfl⟩
  rw [hY]
  unfold sumR at hY
  have hr := hR.rlt
  obtain ⟨A, eA, hbA, hzA, hsA⟩ := zb_new w
  have HB := hide (But.of (r := r) hbA)
  have HR := hide (hR.keep hbA)
  have HZ := hide hzA
  have HS : Hid (w.heap.size < A.heap.size) := by show _ < _; omega
  have HL : Hid (p ≤ p ∧ lo ≤ p) := ⟨Nat.le_refl _, hlo⟩
  have HSA := hide hsA
  have HE := hide eA
  have HT := hide hT
  have HY := hide hY
  have hrne : r ≠ w.heap.size := by omega
  have hmf : ∀ (fn : Fn) (first cap : Array Value) (w : World), (Instr.makeFunc fn first cap).run Tryz.prog w = .ok (.func fn first cap) w := fun _ _ _ _ => rfl
  replace hS := hide hS
  clear hlo hR hbA hzA hsA eA hT hY
  have HJ := hide (joined_of (unhide HT) (enter_term) (unhide hS))
  obtain ⟨B, eB, hbB, hsB, hhB⟩ := box_new A #[.string ⟨#[43]⟩, .string ⟨#[45]⟩] 9
  have hAr : r ≠ A.heap.size := by have := unhide HS; omega
  have HC := hide (chain_of (cc0 := 2) (nn0 := 2) (signs := [⟨#[43]⟩, ⟨#[45]⟩]) (unhide HT) (enter_term) (unhide hS) (unhide HJ) (unhide HL).2 ((unhide HR).keep hbB) rfl (fun s hs => by simp only [List.mem_cons, List.not_mem_nil, or_false] at hs; rcases hs with rfl | rfl <;> decide) (by simp) ⟨(blk hhB).1, hAr⟩ (fun j s hs => by rw [← eB]; exact strs_at rfl j s hs))
  have hC := unhide HC
  rw [unhide HSA] at hC
  replace HC := hide hC
  clear hC
  have HBB := hide hbB
  have HEB := hide eB
  clear eB hbB hsB hhB
  go_enter Tryz.func124, Tryz.ntmps124
  go_wp2_with fail
  rw [unhide HE, unhide HEB]
  have hbu0 := But.of (r := r) (unhide HBB)
  replace HR := hide ((unhide HR).keep (unhide HBB))
  replace HB := hide ((unhide HB).trans hbu0)
  replace HZ := hide ((unhide HZ).but hbu0 hrne)
  replace HS := hide (Nat.lt_of_lt_of_le (unhide HS) hbu0.size)
  refine (unhide HC).mono ?_
  intro e w1 h1
  rcases hX1 : chainR ts (termR ts g d) [⟨#[43]⟩, ⟨#[45]⟩] p with er | ⟨t1, q1⟩
  · rw [hX1] at h1
    obtain ⟨ei, en⟩ := er
    have hYe : Y = .error (ei, en) := by have h := unhide HY; rw [hX1] at h; exact h.symm
    subst hYe
    obtain ⟨hb1, h1⟩ := h1
    obtain rfl : e = _ := h1
    have HP := hide ((unhide HB).trans hb1)
    clear hb1 HC hX1
    go_wp2
    exact ⟨rfl, unhide HP, rfl⟩
  rw [hX1] at h1
  obtain ⟨hb1, hle1, hR1, v1, rfl, hv1⟩ := h1
  have hY1 := unhide HY
  rw [hX1] at hY1
  replace HY := hide hY1
  obtain ⟨i1, j1, s1, m1, b1, a1, n1, c1, rfl⟩ := hv1.form
  have HT1 := hide (hv1.keep (lo' := w.heap.size + 1) (Stays.of (Below.refl _ _)) (unhide HS))
  replace HB := hide ((unhide HB).trans hb1)
  replace HZ := hide ((unhide HZ).but hb1 hrne)
  replace HS := hide (Nat.lt_of_lt_of_le (unhide HS) hb1.size)
  replace HR := hide hR1
  replace HL := hide (And.intro (Nat.le_trans (unhide HL).1 hle1) (Nat.le_trans (unhide HL).2 hle1))
  clear hb1 hle1 hR1 hv1 HC hX1 hY1
  obtain ⟨y0, y1, y2, y3, y4, y5, y6⟩ := blk7 (unhide HZ)
  obtain ⟨z0, z1, z2, z3, z4, z5, z6⟩ := frz7 (unhide HZ)
  have HNode := hide (unhide HT1)
  go_wp2
  exact ret_put rfl rfl rfl (unhide HB) hr (unhide HZ) (by have h := unhide HY; exact h.symm) (unhide HL).1 (unhide HR) (Nat.lt_succ_self _) (unhide HNode)
end Go.Proofs.YtfkfnbehdcmgeaaGreatDoor

/- Package parse: comparisons. -/
namespace Go.Proofs.YtfkfnbehdcmgeaaGreatDoor
open Go Go.RowKit
set_option maxRecDepth 100000 in
set_option maxHeartbeats 8000000 in
theorem cmp_of {r d lo : Nat} {ts : List (Int × ByteArray × Int)} {g : Ru → Nat → Nat → (Except (Int × Int) (Ex × Nat))} (hT : TsOk ts) (hS : RuC 124 r ts d lo (sumR ts g d)) {w : World} {p : Nat} (hlo : lo ≤ p) (hR : RD w r ts p d) : Calls Tryz.prog 122 #[.pointer (some ⟨r, 0, none⟩)] w (PE (cmpR ts g d p) r ts p d w) := by
  obtain ⟨Y, hY⟩ : ∃ Y, cmpR ts g d p = Y := ⟨_, rfl⟩
  rw [hY]
  unfold cmpR at hY
  have hr := hR.rlt
  obtain ⟨A, eA, hbA, hzA, hsA⟩ := zb_new w
  have HB := hide (But.of (r := r) hbA)
  have HR := hide (hR.keep hbA)
  have HZ := hide hzA
  have HS : Hid (w.heap.size < A.heap.size) := by show _ < _; omega
  have HL : Hid (p ≤ p ∧ lo ≤ p) := ⟨Nat.le_refl _, hlo⟩
  have HSA := hide hsA
  have HE := hide eA
  have HT := hide hT
  have HY := hide hY
  have hrne : r ≠ w.heap.size := by omega
  have hmf : ∀ (fn : Fn) (first cap : Array Value) (w : World), (Instr.makeFunc fn first cap).run Tryz.prog w = .ok (.func fn first cap) w := fun _ _ _ _ => rfl
  replace hS := hide hS
  clear hlo hR hbA hzA hsA eA hT hY
  have HJ := hide (joined_of (unhide HT) enter_sum (unhide hS))
  go_enter Tryz.func122, Tryz.ntmps122
  have HC0 := hide (unhide hS A (p) (unhide HL).2 (unhide HR))
  go_wp2_with fail
  rw [unhide HE]
  refine (unhide HC0).mono ?_
  intro e w0 h0
  rcases hX0 : sumR ts g d (p) with er | ⟨t0, q0⟩
  · rw [hX0] at h0
    obtain ⟨ei, en⟩ := er
    have hYe : Y = .error (ei, en) := by have h := unhide HY; rw [hX0] at h; exact h.symm
    subst hYe
    obtain ⟨hb0, h0⟩ := h0
    obtain rfl : e = _ := h0
    have HP := hide ((unhide HB).trans hb0)
    clear hb0 HC0 hX0
    go_wp2
    exact ⟨rfl, unhide HP, rfl⟩
  rw [hX0] at h0
  obtain ⟨hb0, hle0, hR0, v0, rfl, hv0⟩ := h0
  have hY0 := unhide HY
  rw [hX0] at hY0
  simp only [thenR] at hY0
  replace HY := hide hY0
  clear hY0
  obtain ⟨i0, j0, s0, m0, b0, a0, n0, c0, rfl⟩ := hv0.form
  have HT0 := hide (hv0.keep (lo' := w.heap.size + 1) (Stays.of (Below.refl _ _)) (unhide HS))
  replace HB := hide ((unhide HB).trans hb0)
  replace HZ := hide ((unhide HZ).but hb0 hrne)
  replace HS := hide (Nat.lt_of_lt_of_le (unhide HS) hb0.size)
  replace HR := hide hR0
  replace HL := hide (And.intro (Nat.le_trans (unhide HL).1 hle0) (Nat.le_trans (unhide HL).2 hle0))
  clear hb0 hle0 hR0 hv0 HC0 hX0
  obtain ⟨B1, eB1, hbB1, hsB1, hhB1⟩ := box_new w0 #[.int .i64 i0, .string s0, .string m0, .bool b0, .slice a0 n0 c0, .int .i64 0, .int .i64 j0] 36
  have ne1 : r ≠ w0.heap.size := by have := unhide HS; omega
  have HQHX1 := HS
  have hbu2 := But.of (r := r) hbB1
  replace HR := hide ((unhide HR).keep hbB1)
  replace HB := hide ((unhide HB).trans hbu2)
  replace HZ := hide ((unhide HZ).but hbu2 hrne)
  replace HT0 := hide ((unhide HT0).keep (Stays.but hbu2 (Nat.lt_succ_of_lt hr)) (Nat.le_refl _))
  replace HS := hide (Nat.lt_of_lt_of_le (unhide HS) hbu2.size)
  have HX1 := hide hhB1
  have HEB1 := hide eB1
  have HSB1 := hide hsB1
  clear eB1 hbB1 hhB1 hsB1
  obtain ⟨B, eB, hbB, hsB, hhB⟩ := box_new B1 #[.string ⟨#[61]⟩, .string ⟨#[60, 62]⟩, .string ⟨#[60]⟩, .string ⟨#[60, 61]⟩, .string ⟨#[62]⟩, .string ⟨#[62, 61]⟩] 9
  have HO := hide (one_any (c := 6) (l := [⟨#[61]⟩, ⟨#[60, 62]⟩, ⟨#[60]⟩, ⟨#[60, 61]⟩, ⟨#[62]⟩, ⟨#[62, 61]⟩]) ((unhide HR).keep hbB) (unhide HT) (blk hhB).1 (by simp) (fun j s hs => by rw [← eB]; exact strs_at rfl j s hs))
  obtain ⟨bo, hbo⟩ : ∃ b, ([⟨#[61]⟩, ⟨#[60, 62]⟩, ⟨#[60]⟩, ⟨#[60, 61]⟩, ⟨#[62]⟩, ⟨#[62, 61]⟩] : List ByteArray).any (sees ts (q0)) = b := ⟨_, rfl⟩
  rw [hbo] at HO
  have hO1 := unhide HO
  rw [unhide HSB1] at hO1
  replace HO := hide hO1
  have hY0 := unhide HY
  rw [hbo] at hY0
  replace HY := hide hY0
  have Hbo := hide hbo
  have HEB := hide eB
  have hbu3 := But.of (r := r) hbB
  replace HR := hide ((unhide HR).keep hbB)
  replace HB := hide ((unhide HB).trans hbu3)
  replace HZ := hide ((unhide HZ).but hbu3 hrne)
  replace HX1 := hide ((hbu3.block _ (blk (unhide HX1)).1 (Ne.symm ne1)).trans (unhide HX1))
  replace HT0 := hide ((unhide HT0).keep (Stays.but hbu3 (Nat.lt_succ_of_lt hr)) (Nat.le_refl _))
  replace HS := hide (Nat.lt_of_lt_of_le (unhide HS) hbu3.size)
  clear hbo eB hbB hsB hhB hO1 hY0
  go_wp2_with fail
  rw [unhide HEB1, unhide HEB]
  refine (unhide HO).mono ?_
  rintro e w9 ⟨rfl, hb9⟩
  have hbu4 := But.of (r := r) hb9
  replace HR := hide ((unhide HR).keep hb9)
  replace HB := hide ((unhide HB).trans hbu4)
  replace HZ := hide ((unhide HZ).but hbu4 hrne)
  replace HX1 := hide ((hbu4.block _ (blk (unhide HX1)).1 (Ne.symm ne1)).trans (unhide HX1))
  replace HT0 := hide ((unhide HT0).keep (Stays.but hbu4 (Nat.lt_succ_of_lt hr)) (Nat.le_refl _))
  replace HS := hide (Nat.lt_of_lt_of_le (unhide HS) hbu4.size)
  clear hb9 HO
  rcases bo with _ | _
  · have hY0 := unhide HY
    simp only [Bool.false_eq_true, if_false] at hY0
    replace HY := hide hY0
    clear hY0
    obtain ⟨y01, y11, y21, y31, y41, y51, y61⟩ := blk7 (unhide HX1)
    obtain ⟨y0, y1, y2, y3, y4, y5, y6⟩ := blk7 (unhide HZ)
    obtain ⟨z0, z1, z2, z3, z4, z5, z6⟩ := frz7 (unhide HZ)
    have HNode := hide (unhide HT0)
    go_wp2
    exact ret_put rfl rfl rfl (unhide HB) hr (unhide HZ) (by have h := unhide HY; exact h.symm) (unhide HL).1 (unhide HR) (Nat.lt_succ_self _) (unhide HNode)
  have hY0 := unhide HY
  simp only [if_true] at hY0
  replace HY := hide hY0
  clear hY0
  have hp1 : q0 + 1 < ts.length := by
    obtain ⟨s, hs, hs2⟩ := List.any_eq_true.1 (unhide Hbo)
    refine nx_txt (unhide HT) (unhide HR).lt ?_
    rw [sees_txt hs2]
    simp only [List.mem_cons, List.not_mem_nil, or_false] at hs
    rcases hs with rfl | rfl | rfl | rfl | rfl | rfl <;> decide
  replace hp1 := hide hp1
  obtain ⟨y01, y11, y21, y31, y41, y51, y61⟩ := blk7 (unhide HX1)
  have HC := hide (unhide HJ w9 (q0) (fun b => w.heap.size + 1 ≤ b) t0 i0 j0 s0 m0 b0 a0 n0 c0 (unhide HL).2 (unhide hp1) (unhide HR) (unhide HT0) (by show ¬ (w.heap.size + 1 ≤ r); omega) (fun b hb => Nat.le_trans (unhide HS) hb))
  go_wp2_with fail
  refine (unhide HC).mono ?_
  intro e w8 h8
  rcases hX : joinR ts (sumR ts g d) t0 (q0) with er | ⟨t8, q8⟩
  · rw [hX] at h8
    obtain ⟨ei, en⟩ := er
    have hYe : Y = .error (ei, en) := by have h := unhide HY; rw [hX] at h; exact h.symm
    subst hYe
    obtain ⟨hb8, h8⟩ := h8
    obtain rfl : e = _ := h8
    have HP := hide ((unhide HB).trans hb8)
    clear hb8 HC hX
    go_wp2
    exact ⟨rfl, unhide HP, rfl⟩
  rw [hX] at h8
  obtain ⟨hb8, hle8, hR8, v8, rfl, hv8⟩ := h8
  have hY8 := unhide HY
  rw [hX] at hY8
  replace HY := hide hY8
  obtain ⟨i8, j8, s8, m8, b8, a8, n8, c8, rfl⟩ := hv8.form
  replace HB := hide ((unhide HB).trans hb8)
  replace HZ := hide ((unhide HZ).but hb8 hrne)
  replace HX1 := hide ((hb8.block _ (blk (unhide HX1)).1 (Ne.symm ne1)).trans (unhide HX1))
  replace HS := hide (Nat.lt_of_lt_of_le (unhide HS) hb8.size)
  have HT8 := hide hv8
  replace HR := hide hR8
  replace HL := hide (And.intro (Nat.le_trans (Nat.le_succ_of_le (unhide HL).1) hle8) (Nat.le_trans (Nat.le_succ_of_le (unhide HL).2) hle8))
  clear hb8 hle8 hR8 hv8 HC hX hY8
  obtain ⟨y0, y1, y2, y3, y4, y5, y6⟩ := blk7 (unhide HZ)
  obtain ⟨z0, z1, z2, z3, z4, z5, z6⟩ := frz7 (unhide HZ)
  have HNode := hide (unhide HT8)
  go_wp2
  exact ret_put rfl rfl rfl (unhide HB) hr (unhide HZ) (by have h := unhide HY; exact h.symm) (unhide HL).1 (unhide HR) (Nat.lt_succ_self _) (unhide HNode)
end Go.Proofs.YtfkfnbehdcmgeaaGreatDoor

/- Package parse: brackets. -/
namespace Go.Proofs.YtfkfnbehdcmgeaaGreatDoor
open Go Go.RowKit
theorem pe_base {Y : (Except (Int × Int) (Ex × Nat))} {r p d : Nat} {ts : List (Int × ByteArray × Int)} {w w1 w' : World} {e : Ending} (hb : Below w.heap.size w w1) (h : PE Y r ts p d w1 e w') : PE Y r ts p d w e w' := by
  refine ⟨(But.of hb).trans h.1, ?_⟩
  rcases Y with er | ⟨t, q⟩
  · exact h.2
  · obtain ⟨-, h1, h2, v, h3, h4⟩ := h
    exact ⟨h1, h2, v, h3, h4.keep (Stays.of (Below.refl _ _)) hb.size⟩
set_option maxRecDepth 100000 in
set_option maxHeartbeats 8000000 in
theorem bracketed_of {r d lo : Nat} {ts : List (Int × ByteArray × Int)} {g : Ru → Nat → Nat → (Except (Int × Int) (Ex × Nat))} (hT : TsOk ts) (hE : RuC 59 r ts d lo (g .rE d)) {wq : World} {p : Nat} {kk ai : Int} {T : ByteArray} (hlo : lo ≤ p) (hRq : RD wq r ts p d) : Calls Tryz.prog 129 #[.pointer (some ⟨r, 0, none⟩), .agg #[.int .i64 kk, .string T, .int .i64 ai]] wq (PE (brackR ts g d ai p) r ts p d wq) := by
  obtain ⟨w, ew, hbw, hsw, hhw⟩ := box_new wq #[.int .i64 kk, .string T, .int .i64 ai] 74
  refine Calls.mono (R := PE (brackR ts g d ai p) r ts p d w) ?_ fun e w' h => pe_base hbw h
  have hR := hRq.keep hbw
  have ne9 : r ≠ wq.heap.size := by have := hRq.rlt; omega
  have Hew := hide ew
  have HX9 := hide hhw
  clear hRq ew hbw hhw
  obtain ⟨Y, hY⟩ : ∃ Y, brackR ts g d ai p = Y := ⟨_, rfl⟩
  rw [hY]
  unfold brackR at hY
  have hr := hR.rlt
  obtain ⟨A, eA, hbA, hzA, hsA⟩ := zb_new w
  have HB := hide (But.of (r := r) hbA)
  have HR := hide (hR.keep hbA)
  have HZ := hide hzA
  have HS : Hid (w.heap.size < A.heap.size) := by show _ < _; omega
  have HL : Hid (p ≤ p ∧ lo ≤ p) := ⟨Nat.le_refl _, hlo⟩
  have HSA := hide hsA
  have HE := hide eA
  have HT := hide hT
  have HY := hide hY
  have hrne : r ≠ w.heap.size := by omega
  have hmf : ∀ (fn : Fn) (first cap : Array Value) (w : World), (Instr.makeFunc fn first cap).run Tryz.prog w = .ok (.func fn first cap) w := fun _ _ _ _ => rfl
  replace hE := hide hE
  clear hlo hR hbA hzA hsA eA hT hY
  replace HX9 := hide (((unhide HB).block _ (blk (unhide HX9)).1 (Ne.symm ne9)).trans (unhide HX9))
  replace hsw := hide hsw
  go_enter Tryz.func129, Tryz.ntmps129
  have HC0 := hide (takeIf_any (unhide HR) (unhide HT) (s := ⟨#[41]⟩) (by decide))
  obtain ⟨bo0, hbo0⟩ : ∃ b, sees ts (p) ⟨#[41]⟩ = b := ⟨_, rfl⟩
  rw [hbo0] at HC0
  have hY0 := unhide HY
  rw [hbo0] at hY0
  replace HY := hide hY0
  have HO0 := hide hbo0
  clear hY0 hbo0
  go_wp2_with fail
  rw [unhide Hew, unhide HE]
  refine (unhide HC0).mono ?_
  rintro e w0 ⟨rfl, hb0, hR0⟩
  replace HB := hide ((unhide HB).trans hb0)
  replace HZ := hide ((unhide HZ).but hb0 hrne)
  replace HX9 := hide ((hb0.block _ (blk (unhide HX9)).1 (Ne.symm ne9)).trans (unhide HX9))
  replace HS := hide (Nat.lt_of_lt_of_le (unhide HS) hb0.size)
  replace HR := hide hR0
  clear hb0 hR0 HC0
  rcases bo0 with _ | _
  rotate_left
  · have hY0 := unhide HY
    simp only [if_true] at hY0
    replace HY := hide hY0
    have hRR := unhide HR
    rw [if_pos rfl] at hRR
    replace HR := hide hRR
    clear hY0 hRR
    replace HL : Hid (p ≤ p + 1 ∧ lo + 1 ≤ p + 1) := And.intro (Nat.le_succ_of_le (unhide HL).1) (Nat.succ_le_succ (unhide HL).2)
    have u09 := (blk (unhide HX9)).2.1 0 _ rfl
    have u19 := (blk (unhide HX9)).2.1 1 _ rfl
    have u29 := (blk (unhide HX9)).2.1 2 _ rfl
    have HC1 := hide (made_any 3 kk ai T none 0 0 w0)
    go_wp2_with fail
    refine (unhide HC1).mono ?_
    rintro e w1 ⟨rfl, hb1⟩
    have hbu2 := But.of (r := r) hb1
    replace HR := hide ((unhide HR).keep hb1)
    replace HB := hide ((unhide HB).trans hbu2)
    replace HZ := hide ((unhide HZ).but hbu2 hrne)
    replace HX9 := hide ((hbu2.block _ (blk (unhide HX9)).1 (Ne.symm ne9)).trans (unhide HX9))
    replace HS := hide (Nat.lt_of_lt_of_le (unhide HS) hbu2.size)
    clear hb1 HC1
    obtain ⟨y0, y1, y2, y3, y4, y5, y6⟩ := blk7 (unhide HZ)
    obtain ⟨z0, z1, z2, z3, z4, z5, z6⟩ := frz7 (unhide HZ)
    have HNode := hide (leaf (W := w1) (lo := w.heap.size + 1) 3 ai ⟨#[]⟩ ⟨#[]⟩ false)
    rw [unhide hsw] at y0 y1 y2 y3 y4 y5 y6 z0 z1 z2 z3 z4 z5 z6
    go_wp2
    rw [← unhide hsw]
    exact ret_put rfl rfl rfl (unhide HB) hr (unhide HZ) (by have h := unhide HY; exact h.symm) (unhide HL).1 (unhide HR) (Nat.lt_succ_self _) (unhide HNode)
  have hY0 := unhide HY
  simp only [Bool.false_eq_true, if_false] at hY0
  replace HY := hide hY0
  have hRR := unhide HR
  rw [if_neg Bool.false_ne_true] at hRR
  replace HR := hide hRR
  clear hY0 hRR
  have HC3 := hide (unhide hE w0 (p) (unhide HL).2 (unhide HR))
  go_wp2_with fail
  refine (unhide HC3).mono ?_
  intro e w3 h3
  rcases hX3 : g .rE d (p) with er | ⟨t3, q3⟩
  · rw [hX3] at h3
    obtain ⟨ei, en⟩ := er
    have hYe : Y = .error (ei, en) := by have h := unhide HY; rw [hX3] at h; exact h.symm
    subst hYe
    obtain ⟨hb3, h3⟩ := h3
    obtain rfl : e = _ := h3
    have HP := hide ((unhide HB).trans hb3)
    clear hb3 HC3 hX3
    go_wp2
    exact ⟨rfl, unhide HP, rfl⟩
  rw [hX3] at h3
  obtain ⟨hb3, hle3, hR3, v3, rfl, hv3⟩ := h3
  have hY3 := unhide HY
  rw [hX3] at hY3
  simp only [thenR] at hY3
  replace HY := hide hY3
  clear hY3
  obtain ⟨i3, j3, s3, m3, b3, a3, n3, c3, rfl⟩ := hv3.form
  have HT3 := hide (hv3.keep (lo' := w.heap.size + 1) (Stays.of (Below.refl _ _)) (unhide HS))
  replace HB := hide ((unhide HB).trans hb3)
  replace HZ := hide ((unhide HZ).but hb3 hrne)
  replace HX9 := hide ((hb3.block _ (blk (unhide HX9)).1 (Ne.symm ne9)).trans (unhide HX9))
  replace HS := hide (Nat.lt_of_lt_of_le (unhide HS) hb3.size)
  replace HR := hide hR3
  replace HL := hide (And.intro (Nat.le_trans (unhide HL).1 hle3) (Nat.le_trans (unhide HL).2 hle3))
  clear hb3 hle3 hR3 hv3 HC3 hX3
  obtain ⟨B4, eB4, hbB4, hsB4, hhB4⟩ := box_new w3 #[.int .i64 i3, .string s3, .string m3, .bool b3, .slice a3 n3 c3, .int .i64 0, .int .i64 j3] 36
  have ne4 : r ≠ w3.heap.size := by have := unhide HS; omega
  have HQHX4 := HS
  have hbu5 := But.of (r := r) hbB4
  replace HR := hide ((unhide HR).keep hbB4)
  replace HB := hide ((unhide HB).trans hbu5)
  replace HZ := hide ((unhide HZ).but hbu5 hrne)
  replace HX9 := hide ((hbu5.block _ (blk (unhide HX9)).1 (Ne.symm ne9)).trans (unhide HX9))
  replace HT3 := hide ((unhide HT3).keep (Stays.but hbu5 (Nat.lt_succ_of_lt hr)) (Nat.le_refl _))
  replace HS := hide (Nat.lt_of_lt_of_le (unhide HS) hbu5.size)
  have HX4 := hide hhB4
  have HEB4 := hide eB4
  have HSB4 := hide hsB4
  clear eB4 hbB4 hhB4 hsB4
  have HC6 := hide (must_any (unhide HR) (unhide HT) (s := ⟨#[41]⟩) (by decide))
  go_wp2_with fail
  rw [unhide HEB4]
  refine (unhide HC6).mono ?_
  intro e w6 h6
  rcases hX6 : mustR ts ⟨#[41]⟩ (q3) with er | ⟨t6, q6⟩
  · rw [hX6] at h6
    obtain ⟨ei, en⟩ := er
    have hYe : Y = .error (ei, en) := by have h := unhide HY; rw [hX6] at h; exact h.symm
    subst hYe
    obtain ⟨hb6, h6⟩ := h6
    obtain rfl : e = _ := h6
    have HP := hide ((unhide HB).trans hb6)
    clear hb6 HC6 hX6
    go_wp2
    exact ⟨rfl, unhide HP, rfl⟩
  rw [hX6] at h6
  obtain ⟨hb6, hle6, hR6, v6, rfl, hv6⟩ := h6
  have hY6 := unhide HY
  rw [hX6] at hY6
  simp only [thenR] at hY6
  replace HY := hide hY6
  clear hY6
  obtain rfl : v6 = _ := hv6
  replace HB := hide ((unhide HB).trans hb6)
  replace HZ := hide ((unhide HZ).but hb6 hrne)
  replace HX9 := hide ((hb6.block _ (blk (unhide HX9)).1 (Ne.symm ne9)).trans (unhide HX9))
  replace HX4 := hide ((hb6.block _ (blk (unhide HX4)).1 (Ne.symm ne4)).trans (unhide HX4))
  replace HT3 := hide ((unhide HT3).keep (Stays.but hb6 (Nat.lt_succ_of_lt hr)) (Nat.le_refl _))
  replace HS := hide (Nat.lt_of_lt_of_le (unhide HS) hb6.size)
  replace HR := hide hR6
  replace HL := hide (And.intro (Nat.le_trans (unhide HL).1 hle6) (Nat.le_trans (unhide HL).2 hle6))
  clear hb6 hle6 hR6 HC6 hX6
  obtain ⟨y04, y14, y24, y34, y44, y54, y64⟩ := blk7 (unhide HX4)
  obtain ⟨y0, y1, y2, y3, y4, y5, y6⟩ := blk7 (unhide HZ)
  obtain ⟨z0, z1, z2, z3, z4, z5, z6⟩ := frz7 (unhide HZ)
  have HNode := hide (unhide HT3)
  rw [unhide hsw] at y0 y1 y2 y3 y4 y5 y6 z0 z1 z2 z3 z4 z5 z6
  go_wp2
  rw [← unhide hsw]
  exact ret_put rfl rfl rfl (unhide HB) hr (unhide HZ) (by have h := unhide HY; exact h.symm) (unhide HL).1 (unhide HR) (Nat.lt_succ_self _) (unhide HNode)
end Go.Proofs.YtfkfnbehdcmgeaaGreatDoor

/- Package parse: rows of expressions. -/
namespace Go.Proofs.YtfkfnbehdcmgeaaGreatDoor
open Go Go.RowKit
def IsLs (w : World) (lo : Nat) (v : Value) (l : List Ex) : Prop := ∃ h a c, v = .slice a l.length c ∧ RowX w (fun b => lo ≤ b) a l.length c fun b o j => ∀ t, l[j]? = some t → ExAt w (fun b => lo ≤ b) h b o t
theorem IsLs.keep {w w' : World} {lo lo' : Nat} {v : Value} {l : List Ex} (h : IsLs w lo v l) (hb : Stays lo w w') (hl : lo' ≤ lo) : IsLs w' lo' v l := by
  obtain ⟨k, a, c, e, h2⟩ := h
  exact ⟨k, a, c, e, h2.mono hb.1 (fun _ hb => Nat.le_trans hl hb) fun b o j hr hbl hj t ht => ExAt.keep hb (fun _ hb => Nat.le_trans hl hb) k b o t hr hbl (hj t ht)⟩
theorem IsLs.node {w : World} {lo : Nat} {v : Value} {l : List Ex} (h : IsLs w lo v l) (op i : Int) (nm nu : ByteArray) (bl : Bool) : IsE w lo (.agg #[.int .i64 op, .string nm, .string nu, .bool bl, v, .int .i64 0, .int .i64 i]) (.mk op nm nu bl l i) := by
  obtain ⟨k, a, c, rfl, h2⟩ := h
  exact ⟨k, a, c, rfl, h2⟩
theorem addr_add (b off j : Nat) : (⟨b, off, none⟩ : Addr).add j = ⟨b, off + j, none⟩ := by simp [Addr.add]
theorem addr0 (b j : Nat) : (⟨b, 0, none⟩ : Addr).add j = ⟨b, j, none⟩ := by rw [addr_add, Nat.zero_add]
theorem ex_app {w : World} {B n : Nat} {v : Value} {xs : List Value} (i0 i6 : Int) (s1 s2 : ByteArray) (b3 : Bool) (a4 : Option Addr) (n4 c4 : Nat) (hown : w.ownsRow B 36 7 v n xs) (hn : n ≤ 100000) (hB : B ≤ w.heap.size) :
    ∃ g cap w', (Builtin.append_ #[34, 34] 34 #[v, .slice (some ⟨w.heap.size, 0, none⟩) 1 1]).run Tryz.prog (w.alloc (.cells #[.int .i64 i0, .string s1, .string s2, .bool b3, .slice a4 n4 c4, .int .i64 0, .int .i64 i6] 36)) = .ok (.slice (some ⟨g, 0, none⟩) (n + 1) cap) w' ∧ w'.ownsRow B 36 7 (.slice (some ⟨g, 0, none⟩) (n + 1) cap) (n + 1) (xs ++ [.int .i64 i0, .string s1, .string s2, .bool b3, .slice a4 n4 c4, .int .i64 0, .int .i64 i6]) ∧ (w.alloc (.cells #[.int .i64 i0, .string s1, .string s2, .bool b3, .slice a4 n4 c4, .int .i64 0, .int .i64 i6] 36)).grownBy w' v.ownBlock ∧ (v.ownBlock = some g ∨ g = w.heap.size + 1) := by
  have hb := (MapKept.heap_alloc w (.cells #[.int .i64 i0, .string s1, .string s2, .bool b3, .slice a4 n4 c4, .int .i64 0, .int .i64 i6] 36)).1
  obtain ⟨g, cap, w', hr, ho, hg, hw, -⟩ := run_append_lies (P := Tryz.prog) (w.alloc (.cells #[.int .i64 i0, .string s1, .string s2, .bool b3, .slice a4 n4 c4, .int .i64 0, .int .i64 i6] 36)) 34 34 B 36 Tryz.t36 (.agg #[.int .i64 0, .string ⟨#[]⟩, .string ⟨#[]⟩, .bool false, .slice none 0 0, .int .i64 0, .int .i64 0]) 7 88 Tryz.underlying34 (by kernel_rfl) (by kernel_rfl) (by kernel_rfl) (by kernel_rfl) rfl (by decide) v n xs (hown.alloc _) ⟨w.heap.size, 0, none⟩ 1 1 [.int .i64 i0, .string s1, .string s2, .bool b3, .slice a4 n4 c4, .int .i64 0, .int .i64 i6] rfl (fun j u hj => by
      have h := (blk hb).2.1 j u (by simpa using hj)
      rw [addr0]
      exact h) (fun u hu => by
      simp at hu
      rcases hu with rfl | rfl | rfl | rfl | rfl | rfl | rfl <;> rfl) (by omega) (by unfold maxLen; omega) (by omega) (by simp; omega) _ rfl
  exact ⟨g, cap, w', hr, ho, hg, by simpa using hw⟩
/-- While a row is read. -/
structure EI (w : World) (r : Nat) (ts : List (Int × ByteArray × Int)) (p d lo most : Nat) (E : Nat → (Except (Int × Int) (Ex × Nat))) (Y : (Except (Int × Int) ((List Ex) × Nat))) (v : Value) (l : List Ex) (vs : List (List Value)) (q n : Nat) (V : World) : Prop where
  but : But r w V
  rd : RD V r ts q d
  own : V.ownsRow w.heap.size 36 7 v l.length vs.flatten
  len : vs.length = l.length
  seven : ∀ x ∈ vs, x.length = 7
  tr : ∀ (j : Nat) x t, vs[j]? = some x → l[j]? = some t → IsEP V (fun b => w.heap.size ≤ b ∧ v.ownBlock ≠ some b) (.agg x.toArray) t
  le : p ≤ q ∧ lo ≤ q
  fu : ts.length ≤ q + n
  ch : exprsL ts E most n l q = Y
  sm : l.length ≤ q + 1 ∧ 0 < l.length
theorem EI.ls {w V : World} {r p d lo most q n : Nat} {ts : List (Int × ByteArray × Int)} {E : Nat → (Except (Int × Int) (Ex × Nat))} {Y : (Except (Int × Int) ((List Ex) × Nat))} {v : Value} {l : List Ex} {vs : List (List Value)} (h : EI w r ts p d lo most E Y v l vs q n V) (hl : l.length ≤ 1000000) : IsLs V w.heap.size v l := by
  obtain ⟨g, cap, rfl, hg1, hg2⟩ := h.own.form h.sm.2
  have hc := h.own.cells (g := g) rfl
  obtain ⟨k, hk⟩ := all_high (W := V) (P := fun b => w.heap.size ≤ b) (b := g) l 0 fun j t ht => by
    obtain ⟨x, hx⟩ : ∃ x, vs[j]? = some x := ⟨_, List.getElem?_eq_getElem (by rw [h.len]; exact (List.getElem?_eq_some_iff.1 ht).1)⟩
    refine ((h.tr j x t hx ht).keep (P' := fun b => w.heap.size ≤ b) ⟨Nat.le_refl _, fun _ _ _ => rfl⟩ fun b hb => hb.1).at ⟨Nat.le_refl _, fun _ _ _ => rfl⟩ fun m u hu => ?_
    have := hc (j * 7 + m) u (flat_at vs j x h.seven hx m u hu)
    rw [Nat.zero_add]
    rw [addr0] at this
    exact this
  have hcap : l.length ≤ cap := by
    obtain ⟨-, h1 | ⟨g', c', cur, e, -, -, h2, -⟩⟩ := h.own
    · exact absurd h1.2 (by have := h.sm.2; omega)
    · obtain ⟨-, rfl⟩ : g = g' ∧ cap = c' := by simpa using e
      exact h2
  exact ⟨k, _, _, rfl, hcap, by omega, fun _ => ⟨g, 0, rfl, hg1, hg2, fun j _ t ht => hk j t ht⟩⟩
theorem exprsL_no {ts : List (Int × ByteArray × Int)} {E : Nat → (Except (Int × Int) (Ex × Nat))} {most n q : Nat} {l : List Ex} (h : sees ts q ⟨#[44]⟩ = false) : exprsL ts E most n l q = .ok (l, q) := by
  cases n with
  | zero => rfl
  | succ n => rw [exprsL, h]; rfl
theorem exprsL_many {ts : List (Int × ByteArray × Int)} {E : Nat → (Except (Int × Int) (Ex × Nat))} {most n q : Nat} {l : List Ex} (h : sees ts q ⟨#[44]⟩ = true) (hl : l.length = most) : exprsL ts E most (n + 1) l q = bad ts q 152 := by
  rw [exprsL, h, if_pos rfl, if_pos hl]
theorem exprsL_yes {ts : List (Int × ByteArray × Int)} {E : Nat → (Except (Int × Int) (Ex × Nat))} {most n q : Nat} {l : List Ex} (h : sees ts q ⟨#[44]⟩ = true) (hl : l.length ≠ most) : exprsL ts E most (n + 1) l q = thenR (E (q + 1)) fun x q => exprsL ts E most n (l ++ [x]) q := by
  rw [exprsL, h, if_pos rfl, if_neg hl]
end Go.Proofs.YtfkfnbehdcmgeaaGreatDoor

namespace Go.Proofs.YtfkfnbehdcmgeaaGreatDoor
open Go Go.RowKit
theorem EI.grow {w V V' : World} {r p d lo most q n : Nat} {ts : List (Int × ByteArray × Int)} {E : Nat → (Except (Int × Int) (Ex × Nat))} {Y : (Except (Int × Int) ((List Ex) × Nat))} {v : Value} {l : List Ex} {vs : List (List Value)} (h : EI w r ts p d lo most E Y v l vs q n V) (hb : Below V.heap.size V V') : EI w r ts p d lo most E Y v l vs q n V' :=
  ⟨h.but.trans (But.of hb), h.rd.keep hb, own_same h.own hb, h.len, h.seven, fun j x t hx ht => (h.tr j x t hx ht).keep ⟨hb.size, fun k _ hk => hb.block k hk⟩ fun _ h => h, h.le, h.fu, h.ch, h.sm⟩
set_option maxRecDepth 100000 in
set_option maxHeartbeats 8000000 in
theorem exprs_of {r d lo most : Nat} {ts : List (Int × ByteArray × Int)} {E : Nat → (Except (Int × Int) (Ex × Nat))} (hT : TsOk ts) (hE : RuC 59 r ts d lo E) (hm : most ≤ 1000000) {w : World} {p : Nat} (hlo : lo ≤ p) (hR : RD w r ts p d) : Calls Tryz.prog 109 #[.pointer (some ⟨r, 0, none⟩), .int .i64 most] w (RP (fun w' v l => IsLs w' w.heap.size v l) (exprsR ts E most p) r ts p d w) := by
  obtain ⟨Y, hY⟩ : ∃ Y, exprsR ts E most p = Y := ⟨_, rfl⟩
  rw [hY]
  unfold exprsR at hY
  have hr := hR.rlt
  have HC := hide (hE w p hlo hR)
  have HA := hide (And.intro hY (And.intro hT (And.intro hE (And.intro hlo hm))))
  clear hY hT hE hlo hm hR
  go_enter Tryz.func109, Tryz.ntmps109
  go_wp2_with fail
  refine (unhide HC).mono ?_
  intro e w1 h1
  obtain ⟨hY, hT, hE, hlo, hm⟩ := unhide HA
  rcases hX : E p with er | ⟨t, q⟩
  · rw [hX] at h1 hY
    obtain ⟨ei, en⟩ := er
    have hYe : Y = .error (ei, en) := hY.symm
    subst hYe
    obtain ⟨hb1, h1⟩ := h1
    obtain rfl : e = _ := h1
    have HP := hide hb1
    clear hY hT hE hlo hm hb1 HC hX
    go_wp2
    exact ⟨rfl, unhide HP, rfl⟩
  · rw [hX] at h1 hY
    obtain ⟨hb1, hle1, hR1, v1, rfl, hv1⟩ := h1
    obtain ⟨i0, i6, s1, s2, b3, a4, n4, c4, rfl⟩ := hv1.form
    simp only [thenR] at hY
    obtain ⟨B, eB, hbB, hsB, hhB⟩ := box_new w1 #[.int .i64 i0, .string s1, .string s2, .bool b3, .slice a4 n4 c4, .int .i64 0, .int .i64 i6] 36
    have hlen := hT.len
    have HI : Hid (EI w r ts p d lo most E Y (.slice (some ⟨w1.heap.size, 0, none⟩) 1 1) [t] [[.int .i64 i0, .string s1, .string s2, .bool b3, .slice a4 n4 c4, .int .i64 0, .int .i64 i6]] q ts.length B) := by
      refine ⟨hb1.trans (But.of hbB), hR1.keep hbB, ?_, rfl, (by simp), fun j x t' hx ht => ?_, ⟨hle1, by omega⟩, by omega, hY, by simp, by simp⟩
      · refine ⟨by simp, .inr ⟨w1.heap.size, 1, #[.int .i64 i0, .string s1, .string s2, .bool b3, .slice a4 n4 c4, .int .i64 0, .int .i64 i6], rfl, hb1.size, hhB, Nat.le_refl _, by unfold maxLen; omega, rfl, rfl⟩⟩
      · rcases j with _ | j
        · obtain rfl := Option.some.inj hx
          obtain rfl := Option.some.inj ht
          refine (IsEP.bnd hv1).keep ⟨hbB.size, fun k _ hk => hbB.block k hk⟩ fun b hb => ⟨hb.1, fun e => ?_⟩
          have e2 : w1.heap.size = b := by simpa [Value.ownBlock] using e
          have := hb.2
          omega
        · simp at hx
    have HEB := hide eB
    have HT := hide hT
    have HEx := hide (And.intro hE (And.intro hlo hm))
    have hmost : (most : Int) ≤ 1000000 := by omega
    clear hY hT hE hlo hm hb1 hle1 hR1 hv1 HC hX eB hbB hsB hhB hlen HA
    go_wp2_with fail
    rw [unhide HEB]
    go_loopw [5] (fun v wr => ∃ l vs q n a m c, v = .slice a m c ∧ m = l.length ∧ Hid (EI w r ts p d lo most E Y v l vs q n wr)) (fun _ wr => ts.length - (intOf ((wr.cell? ⟨r, 1, none⟩).getD undef)).toNat)
    case atStart => exact ⟨_, _, _, _, _, _, _, rfl, rfl, HI⟩
    case round =>
      obtain ⟨l, vs, q, n, a, m, c, rfl, hml, hEI⟩ := hrel
      obtain ⟨bo, hbo⟩ : ∃ b, sees ts q ⟨#[44]⟩ = b := ⟨_, rfl⟩
      have HC := hide (sees_any (unhide hEI).rd (unhide HT) ⟨#[44]⟩)
      rw [hbo] at HC
      have HO := hide hbo
      replace hml := hide hml
      clear hbo
      go_wp2_with fail
      refine (unhide HC).mono ?_
      rintro e w9 ⟨rfl, hb9⟩
      have h9 := (unhide hEI).grow hb9
      have hqo : (wr.cell? ⟨r, 1, none⟩) = some (.int .i64 (q : Int)) := by
        obtain ⟨g', c', p0, p1, -⟩ := (unhide hEI).rd.facts (Below.refl _ _)
        exact p1
      replace hqo := hide hqo
      have H9 := hide h9
      clear hEI hb9 h9 HC
      rcases bo with _ | _
      · go_wp2
        have h := unhide H9
        refine bodyPost_ret (results_tmp rfl _ _ _) rfl ?_
        have hYe : Y = .ok (l, q) := h.ch.symm.trans (exprsL_no (unhide HO))
        subst hYe
        refine ⟨h.but, h.le.1, h.rd, _, rfl, h.ls ?_⟩
        have := h.sm.1
        have := h.rd.lt
        have := (unhide HT).len
        omega
      · have h := unhide H9
        have hp1 : q + 1 < ts.length := nx_txt (unhide HT) h.rd.lt (by rw [sees_txt (unhide HO)]; decide)
        obtain ⟨n, rfl⟩ : ∃ m, n = m + 1 := ⟨n - 1, by have := h.fu; omega⟩
        have hlb : l.length ≤ 1000000 := by
          have := h.sm.1
          have := h.rd.lt
          have := (unhide HT).len
          omega
        have hm' := unhide hml
        by_cases hlm : m = most
        · have hch := h.ch
          rw [exprsL_many (unhide HO) (by omega)] at hch
          have HRf := hide (refused_any h.rd (unhide HT) 152)
          have HCh := hide hch
          have g1 : (m : Int) = (most : Int) := by omega
          subst hlm
          clear h hch hp1 hlb hm' g1
          go_wp2_with fail
          refine (unhide HRf).mono ?_
          rintro e w8 ⟨rfl, hb8⟩
          have HB8 := hide hb8
          clear hb8 HRf
          go_wp2
          obtain rfl := unhide HCh
          exact ⟨rfl, (unhide H9).but.trans (But.of (unhide HB8)), rfl⟩
        · have hch := h.ch
          rw [exprsL_yes (unhide HO) (by omega)] at hch
          have HCh := hide hch
          have g1 : ¬ (m : Int) = (most : Int) := by omega
          have g2 : ((m : Int) == (most : Int)) = false := by simpa using g1
          have g3 : decide ((m : Int) = (most : Int)) = false := by simpa using g1
          have HTk := hide (take_any h.rd (unhide HT) hp1)
          unfold tkV at HTk
          replace hlb := hide hlb
          clear h hch hp1 hm' hlm
          go_wp2_with fail
          refine (unhide HTk).mono ?_
          rintro e w8 ⟨rfl, hb8, hR8⟩
          have HC2 := hide ((unhide HEx).1 w8 (q + 1) (Nat.le_succ_of_le (unhide H9).le.2) hR8)
          have H8 := hide (And.intro hb8 hR8)
          clear hb8 hR8 HTk
          go_wp2_with fail
          refine (unhide HC2).mono ?_
          intro e w7 h7
          rcases hX : E (q + 1) with er | ⟨t7, q7⟩
          · rw [hX] at h7
            obtain ⟨ei, en⟩ := er
            have hYe : Y = .error (ei, en) := by have h := unhide HCh; rw [hX] at h; exact h.symm
            subst hYe
            obtain ⟨hb7, h7⟩ := h7
            obtain rfl : e = _ := h7
            have HP := hide ((unhide H9).but.trans ((unhide H8).1.trans hb7))
            clear hb7 HC2 hX
            go_wp2
            exact ⟨rfl, unhide HP, rfl⟩
          · rw [hX] at h7
            obtain ⟨hb7, hle7, hR7, v7, rfl, hv7⟩ := h7
            obtain ⟨j0, j6, u1, u2, d3, e4, m4, k4, rfl⟩ := hv7.form
            have hch := unhide HCh
            rw [hX] at hch
            simp only [thenR] at hch
            have h := unhide H9
            have hb97 : But r w9 w7 := (unhide H8).1.trans hb7
            have hown7 : w7.ownsRow w.heap.size 36 7 (.slice a m c) l.length vs.flatten := by
              obtain ⟨k1, k2 | ⟨g, cap, cur, k3, k4, k5, k6⟩⟩ := h.own
              · exact ⟨k1, .inl k2⟩
              · exact ⟨k1, .inr ⟨g, cap, cur, k3, k4, (hb97.block g (blk k5).1 (by omega)).trans k5, k6⟩⟩
            have hs97 := hb97.size
            have hsw := h.but.size
            obtain ⟨g, cap, wa, hrun, hoa, hga, hwa⟩ := ex_app j0 j6 u1 u2 d3 e4 m4 k4 hown7 (by have := h.sm.1; have := h.rd.lt; have := (unhide HT).len; omega) (by omega)
            have R1 := hide hrun
            have HQ := hide (And.intro hb97 (And.intro hle7 (And.intro hR7 (And.intro hv7 (And.intro hch (And.intro hoa (And.intro hga (And.intro hwa hown7))))))))
            clear hb7 hle7 hR7 hv7 hch h hb97 hown7 hs97 hsw hrun hoa hga hwa HC2 hX
            go_wp2_with (at_builtin; refine app_run _ _ _ rfl rfl rfl rfl (unhide R1) ?_; clear R1)
            obtain ⟨hb97, hle7, hR7, hv7, hch, hoa, hga, hwa, hown7⟩ := unhide HQ
            have h := unhide H9
            have hs8 := (unhide H8).1.size
            have hs97 := hb97.size
            have hlt9 := h.own.lt
            have hblk : ∀ k, k < w7.heap.size → (Value.slice a m c).ownBlock ≠ some k → wa.heap[k]? = w7.heap[k]? := fun k hk hne => by
              rw [hga.block k (by simp; omega) (fun e => hne e.symm)]
              exact ((Below.refl _ w7).alloc (Nat.le_refl _) _).block k hk
            have hsa : w7.heap.size ≤ wa.heap.size := by have := hga.size; simp at this; omega
            have hbw7 : But r w w7 := h.but.trans hb97
            have hown_lo : ∀ k, k < w.heap.size → (Value.slice a m c).ownBlock ≠ some k := fun k hk e => by have := (hlt9 k e).1; omega
            have hbwa : But r w wa := ⟨hga.os.trans hbw7.os, hga.tape.trans hbw7.tape, hga.output.trans hbw7.output, Nat.le_trans hbw7.size hsa, fun k hk hne => (hblk k (Nat.lt_of_lt_of_le hk hbw7.size) (hown_lo k hk)).trans (hbw7.block k hk hne)⟩
            have hRa : RD wa r ts q7 d := by
              obtain ⟨⟨g0, c0, h1, h2, h3, h4⟩, h5⟩ := hR7
              refine ⟨⟨g0, c0, (hblk r (blk h1).1 (hown_lo r hr)).trans h1, h2, h3, fun j x hx => range_same (h4 j x hx) (hblk g0 (by have := (blk h1).1; omega) (hown_lo g0 (by omega)))⟩, h5⟩
            have hgne : ∀ b, b < w7.heap.size → (Value.slice a m c).ownBlock ≠ some b → (Value.slice (some ⟨g, 0, none⟩) (l.length + 1) cap).ownBlock ≠ some b := fun b hb hne e => by
              have e2 : g = b := by simpa [Value.ownBlock] using e
              rcases hwa with hw | hw
              · exact hne (by rw [hw, e2])
              · omega
            refine ⟨⟨l ++ [t7], vs ++ [[.int .i64 j0, .string u1, .string u2, .bool d3, .slice e4 m4 k4, .int .i64 0, .int .i64 j6]], q7, n, _, _, _, rfl, by simp, ?_⟩, ?_⟩
            · refine ⟨hbwa, hRa, ?_, by simp [h.len], ?_, ?_, ⟨by have := h.le; omega, by have := h.le; omega⟩, by have := h.fu; omega, hch, by simp; have := h.sm.1; omega, by simp⟩
              · simpa using hoa
              · intro x hx
                rcases List.mem_append.1 hx with hx | hx
                · exact h.seven x hx
                · obtain rfl := List.mem_singleton.1 hx
                  rfl
              · intro j x t' hx ht
                rcases Nat.lt_or_ge j l.length with hj | hj
                · rw [List.getElem?_append_left (by rw [h.len]; exact hj)] at hx
                  rw [List.getElem?_append_left hj] at ht
                  have k1 := (h.tr j x t' hx ht).bnd
                  have k2 := k1.keep (w' := w7) (P' := fun b => (w.heap.size ≤ b ∧ (Value.slice a m c).ownBlock ≠ some b) ∧ b < w7.heap.size) ⟨hs97, fun k hk hs => hb97.block k hs (by omega)⟩ fun b hb => ⟨hb.1, by omega⟩
                  exact k2.keep ⟨hsa, fun k hk hs => hblk k hs hk.1.2⟩ fun b hb => ⟨hb.1.1, hgne b hb.2 hb.1.2⟩
                · have hjl : j = l.length := by
                    have := (List.getElem?_eq_some_iff.1 ht).1
                    simp at this
                    omega
                  subst hjl
                  rw [List.getElem?_append_right (by rw [h.len]; exact Nat.le_refl _), h.len, Nat.sub_self] at hx
                  rw [List.getElem?_append_right (Nat.le_refl _), Nat.sub_self] at ht
                  obtain rfl := Option.some.inj hx
                  obtain rfl := Option.some.inj ht
                  have hne8 : ∀ b, w8.heap.size ≤ b → (Value.slice a m c).ownBlock ≠ some b := fun b hb e => by have := (hlt9 b e).2; omega
                  exact (IsEP.bnd hv7).keep ⟨hsa, fun k hk hs => hblk k hs (hne8 k hk.1)⟩ fun b hb => ⟨by have := hb.1; have := h.but.size; omega, hgne b hb.2 (hne8 b hb.1)⟩
            · have hqn : wa.cell? ⟨r, 1, none⟩ = some (.int .i64 (q7 : Int)) := by
                obtain ⟨g', c', p0, p1, -⟩ := hRa.facts (Below.refl _ _)
                exact p1
              have e1 : intOf ((wa.cell? ⟨r, 1, none⟩).getD undef) = (q7 : Int) := by rw [hqn]; rfl
              have e2 : intOf ((wr.cell? ⟨r, 1, none⟩).getD undef) = (q : Int) := by rw [unhide hqo]; rfl
              have hlt := h.rd.lt
              rw [e1, e2]
              omega
end Go.Proofs.YtfkfnbehdcmgeaaGreatDoor
