/- The grammars over tokens that a function tells. -/
import Derived.Test.YtfkfnbehdcmgeaaGreatDoorZAK
import Derived.Test.YtfkfnbehdcmgeaaGreatDoorZAE
import Derived.Test.YtfkfnbehdcmgeaaGreatDoorZAF
import Derived.Test.YtfkfnbehdcmgeaaGreatDoorZAI
import Derived.Test.YtfkfnbehdcmgeaaGreatDoorZAJ
import Derived.Test.YtfkfnbehdcmgeaaGreatDoorZAC
import Derived.Defers
import Derived.Recover
set_option linter.unusedVariables false
set_option linter.unusedSimpArgs false

/- Package parse: calls. -/
namespace Go.Proofs.YtfkfnbehdcmgeaaGreatDoor
open Go Go.RowKit
theorem IsLs.form {w : World} {lo : Nat} {v : Value} {l : List Ex} (h : IsLs w lo v l) : ∃ (a : Option Addr) (n c : Nat), v = .slice a n c := by
  obtain ⟨k, a, c, e, -⟩ := h
  exact ⟨_, _, _, e⟩
set_option maxRecDepth 100000 in
set_option maxHeartbeats 8000000 in
theorem call_of {r d lo : Nat} {ts : List (Int × ByteArray × Int)} {g : Ru → Nat → Nat → (Except (Int × Int) (Ex × Nat))} (hT : TsOk ts) (hE : RuC 59 r ts d (lo + 1) (g .rE d)) {w : World} {p : Nat} (hlo : lo ≤ p) (hp1 : p + 1 < ts.length) (hR : RD w r ts p d) : Calls Tryz.prog 130 #[.pointer (some ⟨r, 0, none⟩)] w (PE (callR ts g d p) r ts p d w) := by
  obtain ⟨Y, hY⟩ : ∃ Y, callR ts g d p = Y := ⟨_, rfl⟩
  rw [hY]
  unfold callR at hY
  have hr := hR.rlt
  obtain ⟨A, eA, hbA, hzA, hsA⟩ := zb_new w
  have HB := hide (But.of (r := r) hbA)
  have HR := hide (hR.keep hbA)
  have HZ := hide hzA
  have HS : Hid (w.heap.size < A.heap.size) := by show _ < _; omega
  have HL : Hid (p ≤ p ∧ lo ≤ p) := ⟨Nat.le_refl _, hlo⟩
  have HSA := hide hsA
  have HE := hide eA
  have HT := hide hT
  have HY := hide hY
  have hrne : r ≠ w.heap.size := by omega
  have hmf : ∀ (fn : Fn) (first cap : Array Value) (w : World), (Instr.makeFunc fn first cap).run Tryz.prog w = .ok (.func fn first cap) w := fun _ _ _ _ => rfl
  replace hE := hide hE
  replace hp1 := hide hp1
  clear hlo hR hbA hzA hsA eA hT hY
  go_enter Tryz.func130, Tryz.ntmps130
  have HC0 := hide (take_any (unhide HR) (unhide HT) (unhide hp1))
  unfold tkV at HC0
  obtain ⟨⟨kk0, T0, at0⟩, hN0⟩ : ∃ X, nx ts p = X := ⟨_, rfl⟩
  rw [hN0] at HC0
  have HN0 := hide hN0
  clear hN0
  go_wp2_with fail
  rw [unhide HE]
  refine (unhide HC0).mono ?_
  rintro e w0 ⟨rfl, hb0, hR0⟩
  replace HB := hide ((unhide HB).trans hb0)
  replace HZ := hide ((unhide HZ).but hb0 hrne)
  replace HS := hide (Nat.lt_of_lt_of_le (unhide HS) hb0.size)
  replace HR := hide hR0
  replace HL : Hid (p ≤ p + 1 ∧ lo + 1 ≤ p + 1) := And.intro (Nat.le_succ_of_le (unhide HL).1) (Nat.succ_le_succ (unhide HL).2)
  clear hb0 hR0 HC0
  obtain ⟨B1, eB1, hbB1, hsB1, hhB1⟩ := box_new w0 #[.int .i64 kk0, .string T0, .int .i64 at0] 74
  have ne1 : r ≠ w0.heap.size := by have := unhide HS; omega
  have HQHX1 := HS
  have hbu2 := But.of (r := r) hbB1
  replace HR := hide ((unhide HR).keep hbB1)
  replace HB := hide ((unhide HB).trans hbu2)
  replace HZ := hide ((unhide HZ).but hbu2 hrne)
  replace HS := hide (Nat.lt_of_lt_of_le (unhide HS) hbu2.size)
  have HX1 := hide hhB1
  have HEB1 := hide eB1
  have HSB1 := hide hsB1
  clear eB1 hbB1 hhB1 hsB1
  have htx : txt ts p = T0 := by unfold txt; rw [unhide HN0]
  have hYt := unhide HY
  rw [htx] at hYt
  replace HY := hide hYt
  clear htx hYt
  have HC3 := hide (must_any (unhide HR) (unhide HT) (s := ⟨#[40]⟩) (by decide))
  go_wp2_with fail
  rw [unhide HEB1]
  refine (unhide HC3).mono ?_
  intro e w3 h3
  rcases hX3 : mustR ts ⟨#[40]⟩ (p + 1) with er | ⟨t3, q3⟩
  · rw [hX3] at h3
    obtain ⟨ei, en⟩ := er
    have hYe : Y = .error (ei, en) := by have h := unhide HY; rw [hX3] at h; exact h.symm
    subst hYe
    obtain ⟨hb3, h3⟩ := h3
    obtain rfl : e = _ := h3
    have HP := hide ((unhide HB).trans hb3)
    clear hb3 HC3 hX3
    go_wp2
    exact ⟨rfl, unhide HP, rfl⟩
  rw [hX3] at h3
  obtain ⟨hb3, hle3, hR3, v3, rfl, hv3⟩ := h3
  have hY3 := unhide HY
  rw [hX3] at hY3
  simp only [thenR] at hY3
  replace HY := hide hY3
  clear hY3
  obtain rfl : v3 = _ := hv3
  replace HB := hide ((unhide HB).trans hb3)
  replace HZ := hide ((unhide HZ).but hb3 hrne)
  replace HX1 := hide ((hb3.block _ (blk (unhide HX1)).1 (Ne.symm ne1)).trans (unhide HX1))
  replace HS := hide (Nat.lt_of_lt_of_le (unhide HS) hb3.size)
  replace HR := hide hR3
  replace HL := hide (And.intro (Nat.le_trans (unhide HL).1 hle3) (Nat.le_trans (unhide HL).2 hle3))
  clear hb3 hle3 hR3 HC3 hX3
  have HC4 := hide (takeIf_any (unhide HR) (unhide HT) (s := ⟨#[41]⟩) (by decide))
  obtain ⟨bo4, hbo4⟩ : ∃ b, sees ts (q3) ⟨#[41]⟩ = b := ⟨_, rfl⟩
  rw [hbo4] at HC4
  have hY4 := unhide HY
  rw [hbo4] at hY4
  replace HY := hide hY4
  have HO4 := hide hbo4
  clear hY4 hbo4
  go_wp2_with fail
  refine (unhide HC4).mono ?_
  rintro e w4 ⟨rfl, hb4, hR4⟩
  replace HB := hide ((unhide HB).trans hb4)
  replace HZ := hide ((unhide HZ).but hb4 hrne)
  replace HX1 := hide ((hb4.block _ (blk (unhide HX1)).1 (Ne.symm ne1)).trans (unhide HX1))
  replace HS := hide (Nat.lt_of_lt_of_le (unhide HS) hb4.size)
  replace HR := hide hR4
  clear hb4 hR4 HC4
  rcases bo4 with _ | _
  rotate_left
  · have hY4 := unhide HY
    simp only [if_true] at hY4
    replace HY := hide hY4
    have hRR := unhide HR
    rw [if_pos rfl] at hRR
    replace HR := hide hRR
    clear hY4 hRR
    replace HL : Hid (p ≤ q3 + 1 ∧ lo + 1 ≤ q3 + 1) := And.intro (Nat.le_succ_of_le (unhide HL).1) (Nat.le_succ_of_le (unhide HL).2)
    have u01 := (blk (unhide HX1)).2.1 0 _ rfl
    have u11 := (blk (unhide HX1)).2.1 1 _ rfl
    have u21 := (blk (unhide HX1)).2.1 2 _ rfl
    have HC5 := hide (named_any 21 kk0 at0 T0 T0 none 0 0 w4)
    go_wp2_with fail
    refine (unhide HC5).mono ?_
    rintro e w5 ⟨rfl, hb5⟩
    have hbu6 := But.of (r := r) hb5
    replace HR := hide ((unhide HR).keep hb5)
    replace HB := hide ((unhide HB).trans hbu6)
    replace HZ := hide ((unhide HZ).but hbu6 hrne)
    replace HX1 := hide ((hbu6.block _ (blk (unhide HX1)).1 (Ne.symm ne1)).trans (unhide HX1))
    replace HS := hide (Nat.lt_of_lt_of_le (unhide HS) hbu6.size)
    clear hb5 HC5
    obtain ⟨y0, y1, y2, y3, y4, y5, y6⟩ := blk7 (unhide HZ)
    obtain ⟨z0, z1, z2, z3, z4, z5, z6⟩ := frz7 (unhide HZ)
    have HNode := hide (leaf (W := w5) (lo := w.heap.size + 1) 21 at0 T0 ⟨#[]⟩ false)
    go_wp2
    exact ret_put rfl rfl rfl (unhide HB) hr (unhide HZ) (by have h := unhide HY; rw [unhide HN0] at h; exact h.symm) (unhide HL).1 (unhide HR) (Nat.lt_succ_self _) (unhide HNode)
  have hY4 := unhide HY
  simp only [Bool.false_eq_true, if_false] at hY4
  replace HY := hide hY4
  have hRR := unhide HR
  rw [if_neg Bool.false_ne_true] at hRR
  replace HR := hide hRR
  clear hY4 hRR
  have HC7 := hide (exprs_of (unhide HT) (unhide hE) (by decide : 8 ≤ 1000000) (unhide HL).2 (unhide HR))
  go_wp2_with fail
  refine (unhide HC7).mono ?_
  intro e w7 h7
  rcases hX7 : exprsR ts (g .rE d) 8 (q3) with er | ⟨t7, q7⟩
  · rw [hX7] at h7
    obtain ⟨ei, en⟩ := er
    have hYe : Y = .error (ei, en) := by have h := unhide HY; rw [hX7] at h; exact h.symm
    subst hYe
    obtain ⟨hb7, h7⟩ := h7
    obtain rfl : e = _ := h7
    have HP := hide ((unhide HB).trans hb7)
    clear hb7 HC7 hX7
    go_wp2
    exact ⟨rfl, unhide HP, rfl⟩
  rw [hX7] at h7
  obtain ⟨hb7, hle7, hR7, v7, rfl, hv7⟩ := h7
  have hY7 := unhide HY
  rw [hX7] at hY7
  simp only [thenR] at hY7
  replace HY := hide hY7
  clear hY7
  obtain ⟨a7, n7, c7, rfl⟩ := IsLs.form hv7
  have HT7 := hide (IsLs.keep (lo' := w.heap.size + 1) hv7 (Stays.of (Below.refl _ _)) (unhide HS))
  replace HB := hide ((unhide HB).trans hb7)
  replace HZ := hide ((unhide HZ).but hb7 hrne)
  replace HX1 := hide ((hb7.block _ (blk (unhide HX1)).1 (Ne.symm ne1)).trans (unhide HX1))
  replace HS := hide (Nat.lt_of_lt_of_le (unhide HS) hb7.size)
  replace HR := hide hR7
  replace HL := hide (And.intro (Nat.le_trans (unhide HL).1 hle7) (Nat.le_trans (unhide HL).2 hle7))
  clear hb7 hle7 hR7 hv7 HC7 hX7
  have HC8 := hide (must_any (unhide HR) (unhide HT) (s := ⟨#[41]⟩) (by decide))
  go_wp2_with fail
  refine (unhide HC8).mono ?_
  intro e w8 h8
  rcases hX8 : mustR ts ⟨#[41]⟩ (q7) with er | ⟨t8, q8⟩
  · rw [hX8] at h8
    obtain ⟨ei, en⟩ := er
    have hYe : Y = .error (ei, en) := by have h := unhide HY; rw [hX8] at h; exact h.symm
    subst hYe
    obtain ⟨hb8, h8⟩ := h8
    obtain rfl : e = _ := h8
    have HP := hide ((unhide HB).trans hb8)
    clear hb8 HC8 hX8
    go_wp2
    exact ⟨rfl, unhide HP, rfl⟩
  rw [hX8] at h8
  obtain ⟨hb8, hle8, hR8, v8, rfl, hv8⟩ := h8
  have hY8 := unhide HY
  rw [hX8] at hY8
  simp only [thenR] at hY8
  replace HY := hide hY8
  clear hY8
  obtain rfl : v8 = _ := hv8
  replace HB := hide ((unhide HB).trans hb8)
  replace HZ := hide ((unhide HZ).but hb8 hrne)
  replace HX1 := hide ((hb8.block _ (blk (unhide HX1)).1 (Ne.symm ne1)).trans (unhide HX1))
  replace HT7 := hide ((unhide HT7).keep (Stays.but hb8 (Nat.lt_succ_of_lt hr)) (Nat.le_refl _))
  replace HS := hide (Nat.lt_of_lt_of_le (unhide HS) hb8.size)
  replace HR := hide hR8
  replace HL := hide (And.intro (Nat.le_trans (unhide HL).1 hle8) (Nat.le_trans (unhide HL).2 hle8))
  clear hb8 hle8 hR8 HC8 hX8
  have u01 := (blk (unhide HX1)).2.1 0 _ rfl
  have u11 := (blk (unhide HX1)).2.1 1 _ rfl
  have u21 := (blk (unhide HX1)).2.1 2 _ rfl
  have HC9 := hide (named_any 21 kk0 at0 T0 T0 a7 n7 c7 w8)
  go_wp2_with fail
  refine (unhide HC9).mono ?_
  rintro e w9 ⟨rfl, hb9⟩
  have hbu10 := But.of (r := r) hb9
  replace HR := hide ((unhide HR).keep hb9)
  replace HB := hide ((unhide HB).trans hbu10)
  replace HZ := hide ((unhide HZ).but hbu10 hrne)
  replace HX1 := hide ((hbu10.block _ (blk (unhide HX1)).1 (Ne.symm ne1)).trans (unhide HX1))
  replace HT7 := hide ((unhide HT7).keep (Stays.but hbu10 (Nat.lt_succ_of_lt hr)) (Nat.le_refl _))
  replace HS := hide (Nat.lt_of_lt_of_le (unhide HS) hbu10.size)
  clear hb9 HC9
  obtain ⟨y0, y1, y2, y3, y4, y5, y6⟩ := blk7 (unhide HZ)
  obtain ⟨z0, z1, z2, z3, z4, z5, z6⟩ := frz7 (unhide HZ)
  have HNode := hide ((unhide HT7).node 21 at0 T0 ⟨#[]⟩ false)
  go_wp2
  exact ret_put rfl rfl rfl (unhide HB) hr (unhide HZ) (by have h := unhide HY; rw [unhide HN0] at h; exact h.symm) (unhide HL).1 (unhide HR) (Nat.lt_succ_self _) (unhide HNode)
end Go.Proofs.YtfkfnbehdcmgeaaGreatDoor

/- Package parse: all rules of expressions. -/
namespace Go.Proofs.YtfkfnbehdcmgeaaGreatDoor
open Go Go.RowKit
theorem enter_within : Enters Tryz.prog 75 := ⟨fun xs w => by go_simp⟩
/-- The three rules that are one deeper, from a place on. -/
def GC (r : Nat) (ts : List (Int × ByteArray × Int)) (f d lo : Nat) : Prop :=
  RuC 59 r ts d lo (gR ts f .rE d) ∧ RuC 127 r ts d lo (gR ts f .rU d) ∧
  ∀ (w : World) (p : Nat), lo ≤ p → RD w r ts p d → Calls Tryz.prog 73 #[.pointer (some ⟨r, 0, none⟩), .bool (begU ts p), .func (.func 115) #[.pointer (some ⟨r, 0, none⟩)] #[]] w (PE (gR ts f .rI d p) r ts p d w)
theorem rules_all {r : Nat} {ts : List (Int × ByteArray × Int)} (hT : TsOk ts) : ∀ (f d lo : Nat), ts.length ≤ lo + f → d + f ≤ 1000000 → GC r ts f d lo
  | 0, d, lo, hf, _ => ⟨fun w p hlo hR => absurd hR.lt (by omega), fun w p hlo hR => absurd hR.lt (by omega), fun w p hlo hR => absurd hR.lt (by omega)⟩
  | f + 1, d, lo, hf, hd => by
    obtain ⟨hE, hU, hI⟩ := rules_all hT f (d + 1) (lo + 1) (by omega) (by omega)
    have hd' : d ≤ 1000000 := by omega
    have hPr : RuC 128 r ts (d + 1) lo (primR ts (gR ts f) (d + 1)) := fun w p hlo hR =>
      primary_of hT (fun w p kk ai T hlo hR => bracketed_of hT hE hlo hR) (fun w p hlo hp1 _ hR => call_of hT hE hlo hp1 hR) hlo hR
    have hUn : RuC 126 r ts (d + 1) lo (unaryR ts (gR ts f) (d + 1)) := fun w p hlo hR => unary_of hT hU hPr hlo hR
    have hTe : RuC 125 r ts (d + 1) lo (termR ts (gR ts f) (d + 1)) := fun w p hlo hR => term_of hT hUn hlo hR
    have hSu : RuC 124 r ts (d + 1) lo (sumR ts (gR ts f) (d + 1)) := fun w p hlo hR => sum_of hT hTe hlo hR
    have hCm : RuC 122 r ts (d + 1) lo (cmpR ts (gR ts f) (d + 1)) := fun w p hlo hR => cmp_of hT hSu hlo hR
    have hAn : RuC 120 r ts (d + 1) lo (andR ts (gR ts f) (d + 1)) := fun w p hlo hR => and_of hT hCm hlo hR
    have hOr : RuC 117 r ts (d + 1) lo (orR ts (gR ts f) (d + 1)) := fun w p hlo hR => or_of hT hAn hlo hR
    have hIm : RuC 115 r ts (d + 1) lo (impR ts (gR ts f) (d + 1)) := fun w p hlo hR => imp_of hT hOr hI hlo hR
    have hPa : RuC 112 r ts (d + 1) lo (partR ts (gR ts f) (d + 1)) := fun w p hlo hR => part_of hT hIm hlo hR
    have hSe : RuC 98 r ts (d + 1) lo (seqR ts (gR ts f) (d + 1)) := fun w p hlo hR => sequence_of hT hPa hE hlo hR
    have hWi : RuC 75 r ts (d + 1) lo (withinR ts (gR ts f) (d + 1)) := fun w p hlo hR =>
      within_of hT (fun w p hlo hp1 hR => branch_of hT hE hlo hp1 hR) (fun w p hlo hp1 hR => binding_of hT hE hlo hp1 hR) (fun w p hlo hp1 hR => handler_of hT hE hlo hp1 hR) hSe hlo hR
    refine ⟨?_, ?_, fun w p hlo hR => ?_⟩
    · exact expr_of hT hd' enter_within hWi
    · exact unb_of hT hd' enter_unary hUn
    · exact nested_any hR hT (begU ts p) hd' enter_imp hIm hlo
end Go.Proofs.YtfkfnbehdcmgeaaGreatDoor

/- Package parse: an expression and the end. -/
namespace Go.Proofs.YtfkfnbehdcmgeaaGreatDoor
open Go Go.RowKit
set_option maxRecDepth 100000 in
set_option maxHeartbeats 4000000 in
theorem mustEnd_any {w : World} {r p d : Nat} {ts : List (Int × ByteArray × Int)} (hR : RD w r ts p d) (hT : TsOk ts) : Calls Tryz.prog 46 #[.pointer (some ⟨r, 0, none⟩)] w (RP UnOk (endR ts p) r ts p d w) := by
  have HS := hide (next_any hR hT)
  obtain ⟨X, hX⟩ : ∃ X, endR ts p = X := ⟨_, rfl⟩
  rw [hX]
  unfold endR at hX
  have HT := hide (And.intro hR hT)
  unfold tkV at HS
  obtain ⟨⟨kk, T, i⟩, hN⟩ : ∃ Y, nx ts p = Y := ⟨_, rfl⟩
  rw [hN] at HS
  have HA := hide (And.intro hX hN)
  have h0 := fld0 (.int .i64 kk) (.string T) (.int .i64 i)
  clear hR hT hX hN
  by_cases hkk : kk = 0
  · subst hkk
    go_enter Tryz.func46, Tryz.ntmps46
    go_wp2_with fail
    refine (unhide HS).mono ?_
    rintro e w2 ⟨rfl, hb2⟩
    have HB2 := hide hb2
    clear hb2 HS
    go_wp2
    obtain ⟨hX, hN⟩ := unhide HA
    obtain ⟨hR, hT⟩ := unhide HT
    rw [hN, if_pos rfl] at hX
    obtain rfl := hX
    refine bodyPost_ret (results_none rfl _ _ _) rfl ?_
    exact ⟨But.of (unhide HB2), Nat.le_refl _, hR.keep (unhide HB2), _, rfl, rfl⟩
  · have g0 : decide (kk = 0) = false := by simpa using hkk
    go_enter Tryz.func46, Tryz.ntmps46
    go_wp2_with fail
    refine (unhide HS).mono ?_
    rintro e w2 ⟨rfl, hb2⟩
    have HRf := hide (refused_any ((unhide HT).1.keep hb2) (unhide HT).2 150)
    have HB2 := hide hb2
    clear hb2 HS
    go_wp2_with fail
    refine (unhide HRf).mono ?_
    rintro e w3 ⟨rfl, hb3⟩
    have HB3 := hide hb3
    clear hb3 HRf
    go_wp2
    obtain ⟨hX, hN⟩ := unhide HA
    rw [hN, if_neg hkk] at hX
    obtain rfl := hX
    refine ⟨rfl, (But.of (unhide HB2)).trans (But.of (unhide HB3)), ?_⟩
    rfl
set_option maxRecDepth 100000 in
set_option maxHeartbeats 8000000 in
theorem alone_of {r d lo : Nat} {ts : List (Int × ByteArray × Int)} {g : Ru → Nat → Nat → (Except (Int × Int) (Ex × Nat))} (hT : TsOk ts) (hE : RuC 59 r ts d lo (exR ts)) {w : World} {p : Nat} (hlo : lo ≤ p) (hR : RD w r ts p d) : Calls Tryz.prog 36 #[.pointer (some ⟨r, 0, none⟩)] w (PE (aloneP ts p) r ts p d w) := by
  obtain ⟨Y, hY⟩ : ∃ Y, aloneP ts p = Y := ⟨_, rfl⟩
  rw [hY]
  unfold aloneP at hY
  have hr := hR.rlt
  obtain ⟨A, eA, hbA, hzA, hsA⟩ := zb_new w
  have HB := hide (But.of (r := r) hbA)
  have HR := hide (hR.keep hbA)
  have HZ := hide hzA
  have HS : Hid (w.heap.size < A.heap.size) := by show _ < _; omega
  have HL : Hid (p ≤ p ∧ lo ≤ p) := ⟨Nat.le_refl _, hlo⟩
  have HSA := hide hsA
  have HE := hide eA
  have HT := hide hT
  have HY := hide hY
  have hrne : r ≠ w.heap.size := by omega
  have hmf : ∀ (fn : Fn) (first cap : Array Value) (w : World), (Instr.makeFunc fn first cap).run Tryz.prog w = .ok (.func fn first cap) w := fun _ _ _ _ => rfl
  replace hE := hide hE
  clear hlo hR hbA hzA hsA eA hT hY
  go_enter Tryz.func36, Tryz.ntmps36
  have HC0 := hide (unhide hE A (p) (unhide HL).2 (unhide HR))
  go_wp2_with fail
  rw [unhide HE]
  refine (unhide HC0).mono ?_
  intro e w0 h0
  rcases hX0 : exR ts (p) with er | ⟨t0, q0⟩
  · rw [hX0] at h0
    obtain ⟨ei, en⟩ := er
    have hYe : Y = .error (ei, en) := by have h := unhide HY; rw [hX0] at h; exact h.symm
    subst hYe
    obtain ⟨hb0, h0⟩ := h0
    obtain rfl : e = _ := h0
    have HP := hide ((unhide HB).trans hb0)
    clear hb0 HC0 hX0
    go_wp2
    exact ⟨rfl, unhide HP, rfl⟩
  rw [hX0] at h0
  obtain ⟨hb0, hle0, hR0, v0, rfl, hv0⟩ := h0
  have hY0 := unhide HY
  rw [hX0] at hY0
  simp only [thenR] at hY0
  replace HY := hide hY0
  clear hY0
  obtain ⟨i0, j0, s0, m0, b0, a0, n0, c0, rfl⟩ := hv0.form
  have HT0 := hide (hv0.keep (lo' := w.heap.size + 1) (Stays.of (Below.refl _ _)) (unhide HS))
  replace HB := hide ((unhide HB).trans hb0)
  replace HZ := hide ((unhide HZ).but hb0 hrne)
  replace HS := hide (Nat.lt_of_lt_of_le (unhide HS) hb0.size)
  replace HR := hide hR0
  replace HL := hide (And.intro (Nat.le_trans (unhide HL).1 hle0) (Nat.le_trans (unhide HL).2 hle0))
  clear hb0 hle0 hR0 hv0 HC0 hX0
  obtain ⟨B1, eB1, hbB1, hsB1, hhB1⟩ := box_new w0 #[.int .i64 i0, .string s0, .string m0, .bool b0, .slice a0 n0 c0, .int .i64 0, .int .i64 j0] 36
  have ne1 : r ≠ w0.heap.size := by have := unhide HS; omega
  have HQHX1 := HS
  have hbu2 := But.of (r := r) hbB1
  replace HR := hide ((unhide HR).keep hbB1)
  replace HB := hide ((unhide HB).trans hbu2)
  replace HZ := hide ((unhide HZ).but hbu2 hrne)
  replace HT0 := hide ((unhide HT0).keep (Stays.but hbu2 (Nat.lt_succ_of_lt hr)) (Nat.le_refl _))
  replace HS := hide (Nat.lt_of_lt_of_le (unhide HS) hbu2.size)
  have HX1 := hide hhB1
  have HEB1 := hide eB1
  have HSB1 := hide hsB1
  clear eB1 hbB1 hhB1 hsB1
  have HC3 := hide (mustEnd_any (unhide HR) (unhide HT))
  go_wp2_with fail
  rw [unhide HEB1]
  refine (unhide HC3).mono ?_
  intro e w3 h3
  rcases hX3 : endR ts (q0) with er | ⟨t3, q3⟩
  · rw [hX3] at h3
    obtain ⟨ei, en⟩ := er
    have hYe : Y = .error (ei, en) := by have h := unhide HY; rw [hX3] at h; exact h.symm
    subst hYe
    obtain ⟨hb3, h3⟩ := h3
    obtain rfl : e = _ := h3
    have HP := hide ((unhide HB).trans hb3)
    clear hb3 HC3 hX3
    go_wp2
    exact ⟨rfl, unhide HP, rfl⟩
  rw [hX3] at h3
  obtain ⟨hb3, hle3, hR3, v3, rfl, hv3⟩ := h3
  have hY3 := unhide HY
  rw [hX3] at hY3
  simp only [thenR] at hY3
  replace HY := hide hY3
  clear hY3
  obtain rfl : v3 = _ := hv3
  replace HB := hide ((unhide HB).trans hb3)
  replace HZ := hide ((unhide HZ).but hb3 hrne)
  replace HX1 := hide ((hb3.block _ (blk (unhide HX1)).1 (Ne.symm ne1)).trans (unhide HX1))
  replace HT0 := hide ((unhide HT0).keep (Stays.but hb3 (Nat.lt_succ_of_lt hr)) (Nat.le_refl _))
  replace HS := hide (Nat.lt_of_lt_of_le (unhide HS) hb3.size)
  replace HR := hide hR3
  replace HL := hide (And.intro (Nat.le_trans (unhide HL).1 hle3) (Nat.le_trans (unhide HL).2 hle3))
  clear hb3 hle3 hR3 HC3 hX3
  obtain ⟨y01, y11, y21, y31, y41, y51, y61⟩ := blk7 (unhide HX1)
  obtain ⟨y0, y1, y2, y3, y4, y5, y6⟩ := blk7 (unhide HZ)
  obtain ⟨z0, z1, z2, z3, z4, z5, z6⟩ := frz7 (unhide HZ)
  have HNode := hide (unhide HT0)
  go_wp2
  exact ret_put rfl rfl rfl (unhide HB) hr (unhide HZ) (by have h := unhide HY; exact h.symm) (unhide HL).1 (unhide HR) (Nat.lt_succ_self _) (unhide HNode)
end Go.Proofs.YtfkfnbehdcmgeaaGreatDoor

/- Package parse: a text is read: a refusal is caught. -/
namespace Go.Proofs.YtfkfnbehdcmgeaaGreatDoor
open Go Go.RowKit
theorem tkl_len (s : ByteArray) : (tkL s).length ≤ 65537 := by
  rw [tkL_len]
  have : (tk s).1.length ≤ 65536 := by
    unfold tk
    split
    · simp
    · have := lx_len s s.size 0
      omega
  omega
theorem tsok_of (s : ByteArray) : TsOk (tkL s) := by
  refine ⟨by have := tkl_len s; omega, by rw [tkL_len]; omega, fun j x hx hne => ?_⟩
  have hj := (List.getElem?_eq_some_iff.1 hx).1
  rw [tkL_len] at hj ⊢
  rcases Nat.lt_or_ge j (tk s).1.length with h | h
  · omega
  · have e : j = (tk s).1.length := by omega
    subst e
    unfold tkL at hx
    rw [List.getElem?_append_right (by simp)] at hx
    simp at hx
    subst hx
    rcases hne with h | h
    · exact absurd rfl h
    · exact absurd rfl h
theorem tkp_rd {s : ByteArray} {w w' : World} {e : Ending} (h : TkP s (tk s) w e w') (hn : (tk s).2 = none) : Below w.heap.size w w' ∧ ∃ g c, e = .returned (.tuple #[.slice (some ⟨g, 0, none⟩) (tkL s).length c, .nilIface]) ∧ g < w'.heap.size ∧ (tkL s).length ≤ c ∧ ∀ j x, (tkL s)[j]? = some x → w'.rangeAt g (j * 3) [.int .i64 x.1, .string x.2.1, .int .i64 x.2.2] := by
  obtain ⟨hb, v, he, hr⟩ := tkp_ok h hn
  obtain ⟨a, c, rfl, hr⟩ := hr
  obtain ⟨g, rfl, hg, hc⟩ := hr (by unfold tkL; simp)
  refine ⟨hb, g, c, he, hg, ?_, fun j x hx => ?_⟩
  · obtain ⟨_, ⟨_, v, he2, ho⟩ | ⟨a, n, b, hx, _⟩⟩ := h
    · have e1 : (Value.slice (some ⟨g, 0, none⟩) (tkL s).length c) = v := by
        rw [he] at he2
        simpa using he2
      subst e1
      obtain ⟨-, h1 | ⟨g', c', cur, e, -, -, h2, -⟩⟩ := ho
      · exact absurd h1.2 (by omega)
      · obtain ⟨-, -, rfl⟩ : g = g' ∧ _ ∧ c = c' := by simpa using e
        rw [tkL_len]
        exact h2
    · rw [hn] at hx; cases hx
  · obtain ⟨c0, c1, c2⟩ := hc j x hx
    intro i u hu
    rcases i with _ | _ | _ | i
    · obtain rfl := Option.some.inj hu
      exact c0
    · obtain rfl := Option.some.inj hu
      exact c1
    · obtain rfl := Option.some.inj hu
      exact c2
    · simp at hu
theorem heap_two {w : World} {k : Nat} (h : k < w.heap.size) (o1 o2 : Obj) : ((w.alloc o1).alloc o2).heap[k]? = w.heap[k]? :=
  (((Below.refl (w.alloc o1).heap.size (w.alloc o1)).alloc (Nat.le_refl _) o2).block k (by simp; omega)).trans (((Below.refl w.heap.size w).alloc (Nat.le_refl _) o1).block k h)
set_option maxRecDepth 100000 in
set_option maxHeartbeats 4000000 in
/-- The closure that catches, where a refusal was thrown. -/
theorem catch_panicking (wb : Nat) (old : Value) (i n : Int) (w : World) (hh : w.heap[wb]? = some (.cells #[old] 25)) :
    CallsD Tryz.prog 42 #[.pointer (some ⟨wb, 0, none⟩)] (.panicking [{ v := .iface 89 (.agg #[.int .i64 i, .int .i64 n]), recovered := false }]) w fun e u' w' =>
      e = .returned (.tuple #[]) ∧ u' = .panicking [{ v := .iface 89 (.agg #[.int .i64 i, .int .i64 n]), recovered := true }] ∧ But wb w w' ∧
      ∃ b, w'.heap[wb]? = some (.cells #[.iface 61 (.pointer (some ⟨b, 0, none⟩))] 25) ∧ w'.heap[b]? = some (.cells #[.int .i64 i, .int .i64 n] 66) := by
  refine callsD_of_wpS Tryz.func42 rfl fun c₀ cs hu => ?_
  apply wpS_seq
  apply wpS_region
  simp [wpOpsS, go_sem, recoverD, hu, Tryz.ntmps42, Exit.thenS]
  apply wpS_seq
  apply wpS_region
  simp [wpOpsS, go_sem, Exit.thenS]
  refine wpS_cond (t := true) (by simp [Act.eval, Array.replicate]) ?_
  simp only [if_true]
  refine wpS_of_wp ?_
  have elit : (#[Value.pointer (some { block := wb, off := 0 })] ++ ((((Array.replicate 14 undef).setIfInBounds 2 (Value.iface 89 (Value.agg #[Value.int IntKind.i64 i, Value.int IntKind.i64 n]))).setIfInBounds 0 (Value.iface 89 (Value.agg #[Value.int IntKind.i64 i, Value.int IntKind.i64 n]))).setIfInBounds 3 (Value.iface 89 (Value.agg #[Value.int IntKind.i64 i, Value.int IntKind.i64 n]))).setIfInBounds 4 (Value.bool true)) = #[Value.pointer (some { block := wb, off := 0 }), Value.iface 89 (Value.agg #[Value.int IntKind.i64 i, Value.int IntKind.i64 n]), undef, Value.iface 89 (Value.agg #[Value.int IntKind.i64 i, Value.int IntKind.i64 n]), Value.iface 89 (Value.agg #[Value.int IntKind.i64 i, Value.int IntKind.i64 n]), Value.bool true, undef, undef, undef, undef, undef, undef, undef, undef, undef] := rfl
  rw [elit]
  have hta : ∀ (W : World), (Instr.typeAssert (.iface 89 (.agg #[.int .i64 i, .int .i64 n])) 20 89 false).run Tryz.prog W = .ok (.agg #[.int .i64 i, .int .i64 n]) W := fun W => by rfl
  have hw1 : ∀ o1 o2, ((w.alloc o1).alloc o2).heap[wb]? = some (.cells #[old] 25) := fun o1 o2 => (heap_two (blk hh).1 o1 o2).trans hh
  have hc1 : ∀ o1 o2, ((w.alloc o1).alloc o2).cell? ⟨wb, 0, none⟩ = some old := fun o1 o2 => (blk (hw1 o1 o2)).2.1 0 _ rfl
  have hf1 : ∀ o1 o2, ((w.alloc o1).alloc o2).frozen? ⟨wb, 0, none⟩ = false := fun o1 o2 => (blk (hw1 o1 o2)).2.2 0
  have hlt := (blk hh).1
  have hw0 := hide hh
  clear hw1
  clear elit hu hh
  go_wp2
  obtain ⟨w1, hw9⟩ : ∃ w1, w.setCell ⟨wb, 0, none⟩ (.iface 61 (.pointer (some ⟨w.heap.size + 1, 0, none⟩))) = w1 := ⟨_, rfl⟩
  have hbw : But wb w w1 := by rw [← hw9]; exact (But.refl wb w).set 0 _
  have hs1 : w1.heap.size = w.heap.size := by rw [← hw9]; simp
  have hw2 : w1.heap[wb]? = some (.cells #[.iface 61 (.pointer (some ⟨w.heap.size + 1, 0, none⟩))] 25) := by rw [← hw9]; exact set_block (unhide hw0) _
  rw [hw9]
  refine ⟨rfl, _, rfl, _, results_none rfl _ _ _, rfl, rfl, hbw.trans (But.of (((Below.refl _ w1).alloc (Nat.le_refl _) _).trans ((Below.refl _ _).alloc (by simp) _))), w.heap.size + 1, ?_, ?_⟩
  · rw [heap_two (by omega)]
    exact hw2
  · rw [← hs1]
    have := (MapKept.heap_alloc (w1.alloc (Obj.cells #[Value.int IntKind.i64 i, Value.int IntKind.i64 n] 89)) (Obj.cells #[Value.int IntKind.i64 i, Value.int IntKind.i64 n] 66)).1
    simpa using this
set_option maxRecDepth 100000 in
set_option maxHeartbeats 4000000 in
/-- The closure that catches, where nothing was thrown. -/
theorem catch_idle (wb : Nat) (w : World) :
    CallsD Tryz.prog 42 #[.pointer (some ⟨wb, 0, none⟩)] .returning w fun e u' w' => e = .returned (.tuple #[]) ∧ u' = .returning ∧ w' = w := by
  refine callsD_of_wpS Tryz.func42 rfl fun c₀ cs hu => ?_
  apply wpS_seq
  apply wpS_region
  simp [wpOpsS, go_sem, recoverD, hu, Tryz.ntmps42, Exit.thenS]
  apply wpS_seq
  apply wpS_region
  simp [wpOpsS, go_sem, Exit.thenS]
  refine wpS_cond (t := false) (by simp [Act.eval, Array.replicate]) ?_
  simp only [Bool.false_eq_true, if_false]
  refine wpS_of_wp (wp_skip ?_)
  cases c₀
  simp_all [bodyPostS, results, Tryz.results42]
end Go.Proofs.YtfkfnbehdcmgeaaGreatDoor

/- Package parse: read. -/
namespace Go.Proofs.YtfkfnbehdcmgeaaGreatDoor
open Go Go.RowKit
/-- All stands but two blocks. -/
structure Bu (q r : Nat) (w w' : World) : Prop where
  os : w'.os = w.os
  tape : w'.tape = w.tape
  output : w'.output = w.output
  size : w.heap.size ≤ w'.heap.size
  block : ∀ k, k < w.heap.size → k ≠ r → k ≠ q → w'.heap[k]? = w.heap[k]?
/-- What read has its rule do. -/
def KP {α : Type} (X : List (Int × ByteArray × Int) → (Except (Int × Int) (α × Nat))) (Φ : World → α → Prop) (s : ByteArray) (ob r : Nat) (W : World) (e : Ending) (w' : World) : Prop :=
  match X (tkL s) with
  | .ok (t, _) => e = .returned (.tuple #[]) ∧ Bu ob r W w' ∧ Φ w' t
  | .error (i, n) => But r W w' ∧ Ref i n e
/-- An error that tells a place. -/
def PErr (w : World) (v : Value) (i n : Int) : Prop := ∃ b, v = .iface 61 (.pointer (some ⟨b, 0, none⟩)) ∧ w.heap[b]? = some (.cells #[.int .i64 i, .int .i64 n] 66)
/-- What read answers. -/
def ReadP {α : Type} (X : List (Int × ByteArray × Int) → (Except (Int × Int) (α × Nat))) (Φ : World → α → Prop) (s : ByteArray) (ob : Nat) (w : World) (e : Ending) (w' : World) : Prop :=
  match (tk s).2 with
  | some (a, n) => Below w.heap.size w w' ∧ ∃ v, e = .returned v ∧ PErr w' v a n
  | none => match X (tkL s) with
    | .ok (t, _) => e = .returned .nilIface ∧ But ob w w' ∧ Φ w' t
    | .error (i, n) => Below w.heap.size w w' ∧ ∃ v, e = .returned v ∧ PErr w' v i n
theorem res_cell {P : Program} {W : World} {fn : Func} {tmps : Array Value} {t b : Nat} {ty : TypeId} {v : Value} (hf : fn.results = #[.cell t ty]) (ht : tmps[t]? = some (.pointer (some ⟨b, 0, none⟩))) (hl : (loadVar ty ⟨b, 0, none⟩).run P W = .ok v W) : (results fn tmps).run P W = .ok v W := by
  simp [results, hf, ht, asAddr, hl]
theorem load_err {W : World} {b : Nat} {v : Value} (h : W.heap[b]? = some (.cells #[v] 25)) : (loadVar 25 ⟨b, 0, none⟩).run Tryz.prog W = .ok v W := by
  have hc : W.cell? ⟨b, 0, none⟩ = some v := (blk h).2.1 0 _ rfl
  go_simp
set_option maxRecDepth 100000 in
set_option maxHeartbeats 8000000 in
theorem pread_any {α : Type} {k ob : Nat} {X : List (Int × ByteArray × Int) → (Except (Int × Int) (α × Nat))} {Φ : World → α → Prop} (s : ByteArray) (w : World) (hG : SG w) (hEn : Enters Tryz.prog k) (hob : ob < w.heap.size)
    (hΦ : ∀ w1 w2 t, But w.heap.size w1 w2 → w.heap.size < w1.heap.size → Φ w1 t → Φ w2 t)
    (hK : ∀ (W : World) (r : Nat), Below w.heap.size w W → w.heap.size < r → RD W r (tkL s) 0 0 → Calls Tryz.prog k #[.pointer (some ⟨r, 0, none⟩), .pointer (some ⟨ob, 0, none⟩)] W (KP X Φ s ob r W)) :
    Calls Tryz.prog 24 #[.string s, .func (.func k) #[] #[.pointer (some ⟨ob, 0, none⟩)]] w (ReadP X Φ s ob w) := by
  obtain ⟨A, eA, hbA, hsA, hhA⟩ := box_new w #[.nilIface] 25
  have h1w := hG.lt
  have HC := hide (tokens_any s A (hG.below hbA h1w))
  have hmf : ∀ (fn : Fn) (first cap : Array Value) (w : World), (Instr.makeFunc fn first cap).run Tryz.prog w = .ok (.func fn first cap) w := fun _ _ _ _ => rfl
  have HA := hide (And.intro hEn (And.intro hob (And.intro hΦ (And.intro hK (And.intro hbA (And.intro hhA hsA))))))
  have HE := hide eA
  clear hEn hob hΦ hK hbA hhA hsA eA hG h1w
  go_enter_defers Tryz.func24, Tryz.ntmps24
  go_wp2_with fail
  rw [unhide HE]
  refine (unhide HC).mono ?_
  intro e w1 h1
  rcases hn : (tk s).2 with _ | ⟨a, n⟩
  · obtain ⟨hb1, g, c, rfl, hg, hc, ht⟩ := tkp_rd h1 hn
    obtain ⟨hEn, hob, hΦ, hK, hbA, hhA, hsA⟩ := unhide HA
    have hh1 := (hb1.block w.heap.size (blk hhA).1).trans hhA
    have hw1 : Below w.heap.size w w1 := hbA.trans (hb1.mono hbA.size)
    obtain ⟨W, eW, hbW, hsW, hhW⟩ := box_new w1 #[.slice (some ⟨g, 0, none⟩) (tkL s).length c, .int .i64 0, .int .i64 0] 91
    have hRD : RD W w1.heap.size (tkL s) 0 0 := ⟨⟨g, c, hhW, hg, hc, fun j x hx => range_same (ht j x hx) (hbW.block g hg)⟩, by have := (tsok_of s).pos; omega⟩
    have hs1 : w.heap.size < w1.heap.size := by have := hb1.size; omega
    have HK := hide (hK W w1.heap.size (hw1.trans (hbW.mono hw1.size)) hs1 hRD)
    have hEn' := hide hEn
    have HF := hide (And.intro hw1 (And.intro hbW (And.intro hs1 (And.intro hh1 hhW))))
    have HEW := hide eW
    have HN := hide hn
    obtain ⟨L, hL⟩ : ∃ L, (tkL s).length = L := ⟨_, rfl⟩
    rw [hL] at HEW
    rw [hL]
    clear HC h1 hn hb1 hg hc ht hEn hob hΦ hK hbA hhA hsA hh1 hw1 hbW hsW hhW hRD hs1 eW hL
    go_wp2_with fail
    rw [(unhide hEn').run, unhide HEW]
    refine Calls.mono (unhide HK) ?_
    intro e w3 h3
    unfold KP at h3
    obtain ⟨hw1, hbW, hs1, hh1, hhW⟩ := unhide HF
    have hhW1 := (hbW.block w.heap.size (blk hh1).1).trans hh1
    obtain ⟨hEn, hob, hΦ, hK, hbA, hhA, hsA⟩ := unhide HA
    rcases hX : X (tkL s) with ⟨i, n⟩ | ⟨t, q⟩
    · rw [hX] at h3
      obtain ⟨hb3, h3⟩ := h3
      obtain rfl : e = _ := h3
      have hh3 := (hb3.block w.heap.size (blk hhW1).1 (by omega)).trans hhW1
      have hB3 : Below w.heap.size w w3 := ⟨hb3.os.trans (hbW.os.trans hw1.os), hb3.tape.trans (hbW.tape.trans hw1.tape), hb3.output.trans (hbW.output.trans hw1.output), Nat.le_trans hw1.size (Nat.le_trans hbW.size hb3.size), fun j hj => by
        have h1 := hw1.size
        have h2 := hbW.size
        exact (hb3.block j (by omega) (by omega)).trans ((hbW.block j (by omega)).trans (hw1.block j hj))⟩
      have HQ := hide (And.intro hh3 (And.intro hB3 hX))
      clear HK hw1 hbW hs1 hh1 hhW hhW1 hEn hob hΦ hK hbA hhA hsA hX hb3 hh3 hB3
      go_wp2
      obtain ⟨hh3, hB3, hX⟩ := unhide HQ
      refine leaves_cons (f := 42) (args := #[.pointer (some ⟨w.heap.size, 0, none⟩)]) (by simp) (by simp [go_sem]) ?_
      refine (catch_panicking w.heap.size _ i n w3 hh3).mono ?_
      rintro e u' w4 ⟨rfl, rfl, hb4, b, hv4, hd4⟩
      refine ⟨_, res_cell rfl rfl (load_err hv4), ?_⟩
      unfold ReadP
      rw [unhide HN, hX]
      exact ⟨⟨hb4.os.trans hB3.os, hb4.tape.trans hB3.tape, hb4.output.trans hB3.output, Nat.le_trans hB3.size hb4.size, fun j hj => (hb4.block j (Nat.lt_of_lt_of_le hj hB3.size) (by omega)).trans (hB3.block j hj)⟩, _, rfl, b, rfl, hd4⟩
    · rw [hX] at h3
      obtain ⟨rfl, hb3, hΦ3⟩ := h3
      have hh3 := (hb3.block w.heap.size (blk hhW1).1 (by omega) (by omega)).trans hhW1
      have hs3 := (blk hh3).1
      have c0 : w3.cell? ⟨w.heap.size, 0, none⟩ = some .nilIface := (blk hh3).2.1 0 _ rfl
      have f0 := (blk hh3).2.2 0
      have hB3 : But ob w w3 := ⟨hb3.os.trans (hbW.os.trans hw1.os), hb3.tape.trans (hbW.tape.trans hw1.tape), hb3.output.trans (hbW.output.trans hw1.output), Nat.le_trans hw1.size (Nat.le_trans hbW.size hb3.size), fun j hj hjo => by
        have h1 := hw1.size
        have h2 := hbW.size
        exact (hb3.block j (by omega) (by omega) hjo).trans ((hbW.block j (by omega)).trans (hw1.block j hj))⟩
      have HQ := hide (And.intro hh3 (And.intro hB3 (And.intro hX (And.intro hΦ3 (And.intro hΦ hs3)))))
      clear HK hw1 hbW hs1 hh1 hhW hhW1 hEn hob hΦ hK hbA hhA hsA hX hb3 hh3 hB3 hΦ3 hs3
      go_wp2
      obtain ⟨hh3, hB3, hX, hΦ3, hΦ, hs3⟩ := unhide HQ
      refine leaves_cons (f := 42) (args := #[.pointer (some ⟨w.heap.size, 0, none⟩)]) (by simp) (by simp [go_sem]) ?_
      refine (catch_idle w.heap.size _).mono ?_
      rintro e u' w4 ⟨rfl, rfl, rfl⟩
      refine ⟨_, res_cell rfl rfl (load_err (set_block hh3 _)), ?_⟩
      unfold ReadP
      rw [unhide HN, hX]
      have hb4 : But w.heap.size w3 (w3.setCell ⟨w.heap.size, 0, none⟩ .nilIface) := (But.refl _ w3).set 0 _
      refine ⟨rfl, ⟨hb4.os.trans hB3.os, hb4.tape.trans hB3.tape, hb4.output.trans hB3.output, Nat.le_trans hB3.size hb4.size, fun j hj hjo => (hb4.block j (Nat.lt_of_lt_of_le hj hB3.size) (by omega)).trans (hB3.block j hj hjo)⟩, hΦ _ _ _ hb4 hs3 hΦ3⟩
  · obtain ⟨hb1, b, rfl, hd⟩ := tkp_err h1 hn
    obtain ⟨hEn, hob, hΦ, hK, hbA, hhA, hsA⟩ := unhide HA
    have hh1 := (hb1.block w.heap.size (blk hhA).1).trans hhA
    have hw1 : Below w.heap.size w w1 := hbA.trans (hb1.mono hbA.size)
    have c0 : w1.cell? ⟨w.heap.size, 0, none⟩ = some .nilIface := (blk hh1).2.1 0 _ rfl
    have f0 := (blk hh1).2.2 0
    have HQ := hide (And.intro hh1 (And.intro hw1 (And.intro hn (And.intro hd hhA))))
    have hne : b ≠ w.heap.size := by
      intro e
      subst e
      rw [hh1] at hd
      cases hd
    replace hne := hide hne
    clear HC h1 hn hb1 hd hEn hob hΦ hK hbA hhA hsA hh1 hw1
    go_wp2
    obtain ⟨hh1, hw1, hn, hd, hhA⟩ := unhide HQ
    refine ⟨_, res_cell rfl rfl (load_err (set_block hh1 _)), ?_⟩
    unfold ReadP
    rw [hn]
    have hb4 : But w.heap.size w1 (w1.setCell ⟨w.heap.size, 0, none⟩ (.iface 61 (.pointer (some ⟨b, 0, none⟩)))) := (But.refl _ w1).set 0 _
    exact ⟨⟨hb4.os.trans hw1.os, hb4.tape.trans hw1.tape, hb4.output.trans hw1.output, Nat.le_trans hw1.size hb4.size, fun j hj => (hb4.block j (Nat.lt_of_lt_of_le hj hw1.size) (by omega)).trans (hw1.block j hj)⟩, _, rfl, b, rfl, (heap_set _ _ (unhide hne)).trans hd⟩
end Go.Proofs.YtfkfnbehdcmgeaaGreatDoor

/- Package parse: Expr. -/
namespace Go.Proofs.YtfkfnbehdcmgeaaGreatDoor
open Go Go.RowKit
def aloneF (ts : List (Int × ByteArray × Int)) : (Except (Int × Int) (Ex × Nat)) := aloneP ts 0
theorem aloneF_eq (ts : List (Int × ByteArray × Int)) : aloneF ts = aloneP ts 0 := rfl
/-- What a text is as an expression, or its error. -/
def exprS (s : ByteArray) : Except (Int × Int) Ex :=
  match (tk s).2 with
  | some (a, n) => .error (a, n)
  | none => match aloneF (tkL s) with
    | .ok (t, _) => .ok t
    | .error e => .error e
/-- What Expr answers. -/
def ExprP (s : ByteArray) (w : World) (e : Ending) (w' : World) : Prop := Below w.heap.size w w' ∧
  match exprS s with
  | .ok t => ∃ v, e = .returned (.tuple #[v, .nilIface]) ∧ IsE w' w.heap.size v t
  | .error (i, n) => ∃ v, e = .returned (.tuple #[.agg zE, v]) ∧ PErr w' v i n
theorem results_two {P : Program} {W : World} {fn : Func} {tmps : Array Value} {t b j : Nat} {ty : TypeId} {v u : Value} (hf : fn.results = #[.cell t ty, .tmp j]) (ht : tmps[t]? = some (.pointer (some ⟨b, 0, none⟩))) (hl : (loadVar ty ⟨b, 0, none⟩).run P W = .ok v W) (hj : tmps[j]? = some u) : (results fn tmps).run P W = .ok (.tuple #[v, u]) W := by
  simp [results, hf, ht, asAddr, hl, hj]
theorem Bu.set {q r : Nat} {w w' : World} (h : Bu q r w w') (o : Nat) (v : Value) : Bu q r w (w'.setCell ⟨q, o, none⟩ v) :=
  ⟨h.os, h.tape, h.output, by simpa using h.size, fun k hk h1 h2 => (Below.heap_setCell w' ⟨q, o, none⟩ v k h2).trans (h.block k hk h1 h2)⟩
theorem Bu.of_but {q r : Nat} {w w' : World} (h : But r w w') : Bu q r w w' := ⟨h.os, h.tape, h.output, h.size, fun k hk h1 _ => h.block k hk h1⟩
/-- The box that Expr's closure fills. -/
def OutE (ob : Nat) (w : World) (t : Ex) : Prop := ∃ x0 x1 x2 x3 x4 x5 x6, w.heap[ob]? = some (.cells #[x0, x1, x2, x3, x4, x5, x6] 36) ∧ IsE w (ob + 2) (.agg #[x0, x1, x2, x3, x4, x5, x6]) t
set_option maxRecDepth 100000 in
set_option maxHeartbeats 8000000 in
theorem exprClo_any {s : ByteArray} {W : World} {r ob : Nat} (hR : RD W r (tkL s) 0 0) (hz : ZB W ob) (hob : ob + 1 < r) :
    Calls Tryz.prog 35 #[.pointer (some ⟨r, 0, none⟩), .pointer (some ⟨ob, 0, none⟩)] W (KP aloneF (OutE ob) s ob r W) := by
  have hT := tsok_of s
  have hlen := hT.len
  have hE : RuC 59 r (tkL s) 0 0 (exR (tkL s)) := (rules_all hT (tkL s).length 0 0 (by omega) (by omega)).1
  have HC := hide (alone_of (g := fun _ _ _ => .error (0, 0)) hT hE (Nat.zero_le 0) hR)
  have hrl := hR.rlt
  have HA := hide (And.intro hz (And.intro hob hrl))
  clear hR hz hob hT hlen hE hrl
  go_enter Tryz.func35, Tryz.ntmps35
  go_wp2_with fail
  refine (unhide HC).mono ?_
  intro e w3 h3
  obtain ⟨hz, hob, hrl⟩ := unhide HA
  rcases hX : aloneP (tkL s) 0 with ⟨i, n⟩ | ⟨t, q⟩
  · rw [hX] at h3
    obtain ⟨hb3, h3⟩ := h3
    obtain rfl : e = _ := h3
    have HQ := hide (And.intro hb3 hX)
    clear HC hz hob hrl hX hb3
    go_wp2
    obtain ⟨hb3, hX⟩ := unhide HQ
    refine ⟨rfl, ?_⟩
    unfold KP
    rw [aloneF_eq, hX]
    exact ⟨hb3, rfl⟩
  · rw [hX] at h3
    obtain ⟨hb3, hle, hR3, v, rfl, hv⟩ := h3
    obtain ⟨i0, i6, s1, s2, b3, a4, n4, c4, rfl⟩ := hv.form
    have hz3 : ZB w3 ob := hz.but hb3 (by omega)
    obtain ⟨y0, y1, y2, y3, y4, y5, y6⟩ := blk7 hz3
    obtain ⟨z0, z1, z2, z3, z4, z5, z6⟩ := frz7 hz3
    have HQ := hide (And.intro hb3 (And.intro hX (And.intro hv (And.intro hz3 (And.intro hob hrl)))))
    clear HC hz hob hrl hX hb3 hle hR3 hv hz3
    go_wp2
    obtain ⟨hb3, hX, hv, hz3, hob, hrl⟩ := unhide HQ
    refine bodyPost_end (results_none rfl _ _ _) rfl ?_
    unfold KP
    rw [aloneF_eq, hX]
    have k1 := fill7 (x0 := .int .i64 i0) (x1 := .string s1) (x2 := .string s2) (x3 := .bool b3) (x4 := .slice a4 n4 c4) (x5 := .int .i64 0) (x6 := .int .i64 i6) hz3
    have k3 := hv.keep (lo' := ob + 2) (stays7 (lo := W.heap.size) (Stays.of (Below.refl w3.heap.size w3)) (show ob < W.heap.size by omega) (.int .i64 i0) (.string s1) (.string s2) (.bool b3) (.slice a4 n4 c4) (.int .i64 0) (.int .i64 i6)) (by omega)
    have k4 := ((((((((Bu.of_but (q := ob) hb3).set 0 (.int .i64 i0)).set 1 (.string s1)).set 2 (.string s2)).set 3 (.bool b3)).set 4 (.slice a4 n4 c4)).set 5 (.int .i64 0)).set 6 (.int .i64 i6))
    exact ⟨rfl, k4, _, _, _, _, _, _, _, k1, k3⟩
end Go.Proofs.YtfkfnbehdcmgeaaGreatDoor

namespace Go.Proofs.YtfkfnbehdcmgeaaGreatDoor
/-- Tokens by a function. -/
structure TF where
  n : Nat → (Int × ByteArray × Int)
  len : Nat
section
variable (T : TF)
def txtF (p : Nat) : ByteArray := (T.n p).2.1
def seesF (p : Nat) (s : ByteArray) : Bool := decide (txtF T p = s)
def badF {α : Type} (p : Nat) (n : Int) : (Except (Int × Int) (α × Nat)) := .error ((T.n p).2.2, n)
def mustRF (s : ByteArray) (p : Nat) : (Except (Int × Int) (Unit × Nat)) := if seesF T p s then .ok ((), p + 1) else badF T p 150
def mustBeRF (k : Int) (p : Nat) : (Except (Int × Int) ((Int × ByteArray × Int) × Nat)) := if (T.n p).1 = k then .ok (T.n p, p + 1) else badF T p 150
def begUF (p : Nat) : Bool := decide ((T.n p).1 = 1) || decide ((T.n p).1 = 3) || ([⟨#[45]⟩, ⟨#[110, 111, 116]⟩, ⟨#[33]⟩, ⟨#[111, 108, 100]⟩, ⟨#[116, 114, 117, 101]⟩, ⟨#[102, 97, 108, 115, 101]⟩, ⟨#[40]⟩] : List ByteArray).any (seesF T p)
def begEF (p : Nat) : Bool := begUF T p || ([⟨#[105, 102]⟩, ⟨#[108, 101, 116]⟩, ⟨#[116, 114, 121]⟩, ⟨#[114, 97, 105, 115, 101]⟩, ⟨#[97, 115, 115, 101, 114, 116]⟩] : List ByteArray).any (seesF T p)
def exprsLF (E : Nat → (Except (Int × Int) (Ex × Nat))) (most : Nat) : Nat → List Ex → Nat → (Except (Int × Int) ((List Ex) × Nat))
  | 0, out, p => .ok (out, p)
  | n + 1, out, p => if seesF T p ⟨#[44]⟩ then (if out.length = most then badF T p 152 else thenR (E (p + 1)) fun x q => exprsLF E most n (out ++ [x]) q) else .ok (out, p)
def exprsRF (E : Nat → (Except (Int × Int) (Ex × Nat))) (most : Nat) (p : Nat) : (Except (Int × Int) ((List Ex) × Nat)) := thenR (E p) fun x q => exprsLF T E most T.len [x] q
def joinRF (O : Nat → (Except (Int × Int) (Ex × Nat))) (out : Ex) (p : Nat) : (Except (Int × Int) (Ex × Nat)) := thenR (O (p + 1)) fun y q => .ok (madeR (opOf (txtF T p)) [out, y] (T.n p).2.2, q)
def chainLF (O : Nat → (Except (Int × Int) (Ex × Nat))) (signs : List ByteArray) : Nat → Ex → Nat → (Except (Int × Int) (Ex × Nat))
  | 0, out, p => .ok (out, p)
  | n + 1, out, p => if signs.any (seesF T p) then thenR (joinRF T O out p) fun y q => chainLF O signs n y q else .ok (out, p)
def chainRF (O : Nat → (Except (Int × Int) (Ex × Nat))) (signs : List ByteArray) (p : Nat) : (Except (Int × Int) (Ex × Nat)) := thenR (O p) fun x q => chainLF T O signs T.len x q
variable (g : Ru → Nat → Nat → (Except (Int × Int) (Ex × Nat))) (d : Nat)
def brackRF (i : Int) (p : Nat) : (Except (Int × Int) (Ex × Nat)) := if seesF T p ⟨#[41]⟩ then .ok (madeR 3 [] i, p + 1) else thenR (g .rE d p) fun x q => thenR (mustRF T ⟨#[41]⟩ q) fun _ r => .ok (x, r)
def callRF (p : Nat) : (Except (Int × Int) (Ex × Nat)) := thenR (mustRF T ⟨#[40]⟩ (p + 1)) fun _ q => if seesF T q ⟨#[41]⟩ then .ok (namedR 21 (txtF T p) [] (T.n p).2.2, q + 1) else thenR (exprsRF T (g .rE d) 8 q) fun l r => thenR (mustRF T ⟨#[41]⟩ r) fun _ z => .ok (namedR 21 (txtF T p) l (T.n p).2.2, z)
def primRF (p : Nat) : (Except (Int × Int) (Ex × Nat)) :=
  if (T.n p).1 = 3 then .ok (.mk 1 ⟨#[]⟩ (txtF T p) false [] (T.n p).2.2, p + 1)
  else if seesF T p ⟨#[116, 114, 117, 101]⟩ then .ok (.mk 2 ⟨#[]⟩ ⟨#[]⟩ true [] (T.n p).2.2, p + 1)
  else if seesF T p ⟨#[102, 97, 108, 115, 101]⟩ then .ok (madeR 2 [] (T.n p).2.2, p + 1)
  else if seesF T p ⟨#[40]⟩ then brackRF T g d (T.n p).2.2 (p + 1)
  else if (T.n p).1 = 1 ∧ txtF T (p + 1) = ⟨#[40]⟩ then callRF T g d p
  else thenR (mustBeRF T 1 p) fun t q => .ok (namedR 4 t.2.1 [] (T.n p).2.2, q)
def unaryRF (p : Nat) : (Except (Int × Int) (Ex × Nat)) :=
  if seesF T p ⟨#[45]⟩ then thenR (g .rU d (p + 1)) fun x q => .ok (madeR 7 [x] (T.n p).2.2, q)
  else if seesF T p ⟨#[110, 111, 116]⟩ then thenR (g .rU d (p + 1)) fun x q => .ok (madeR 8 [x] (T.n p).2.2, q)
  else if seesF T p ⟨#[33]⟩ then thenR (mustBeRF T 1 (p + 1)) fun t q => .ok (namedR 5 t.2.1 [] (T.n p).2.2, q)
  else if seesF T p ⟨#[111, 108, 100]⟩ then thenR (mustBeRF T 1 (p + 1)) fun t q => .ok (namedR 6 t.2.1 [] (T.n p).2.2, q)
  else primRF T g d p
def termRF (p : Nat) : (Except (Int × Int) (Ex × Nat)) := chainRF T (unaryRF T g d) [⟨#[42]⟩] p
def sumRF (p : Nat) : (Except (Int × Int) (Ex × Nat)) := chainRF T (termRF T g d) [⟨#[43]⟩, ⟨#[45]⟩] p
def cmpRF (p : Nat) : (Except (Int × Int) (Ex × Nat)) := thenR (sumRF T g d p) fun x q => if ([⟨#[61]⟩, ⟨#[60, 62]⟩, ⟨#[60]⟩, ⟨#[60, 61]⟩, ⟨#[62]⟩, ⟨#[62, 61]⟩] : List ByteArray).any (seesF T q) then joinRF T (sumRF T g d) x q else .ok (x, q)
def andRF (p : Nat) : (Except (Int × Int) (Ex × Nat)) := chainRF T (cmpRF T g d) [⟨#[38, 38]⟩] p
def orRF (p : Nat) : (Except (Int × Int) (Ex × Nat)) := chainRF T (andRF T g d) [⟨#[124, 124]⟩] p
def impRF (p : Nat) : (Except (Int × Int) (Ex × Nat)) := thenR (orRF T g d p) fun x q => if seesF T q ⟨#[61, 61, 62]⟩ then thenR (g .rI d (q + 1)) fun y r => .ok (madeR 20 [x, y] (T.n q).2.2, r) else .ok (x, q)
def partRF (p : Nat) : (Except (Int × Int) (Ex × Nat)) :=
  if (T.n p).1 = 1 ∧ txtF T (p + 1) = ⟨#[58, 61]⟩ then thenR (impRF T g d (p + 2)) fun x q => .ok (namedR 25 (txtF T p) [x] (T.n p).2.2, q)
  else if seesF T p ⟨#[114, 97, 105, 115, 101]⟩ then thenR (impRF T g d (p + 1)) fun x q => .ok (madeR 26 [x] (T.n p).2.2, q)
  else if seesF T p ⟨#[97, 115, 115, 101, 114, 116]⟩ then thenR (impRF T g d (p + 1)) fun x q => .ok (madeR 28 [x] (T.n p).2.2, q)
  else impRF T g d p
def seqRF (p : Nat) : (Except (Int × Int) (Ex × Nat)) := thenR (partRF T g d p) fun x q => if seesF T q ⟨#[59]⟩ then thenR (g .rE d (q + 1)) fun y r => .ok (madeR 24 [x, y] (T.n q).2.2, r) else .ok (x, q)
def branchRF (p : Nat) : (Except (Int × Int) (Ex × Nat)) := thenR (g .rE d (p + 1)) fun a q => thenR (mustRF T ⟨#[116, 104, 101, 110]⟩ q) fun _ q => thenR (g .rE d q) fun b q => thenR (mustRF T ⟨#[101, 108, 115, 101]⟩ q) fun _ q => thenR (g .rE d q) fun c q => .ok (madeR 22 [a, b, c] (T.n p).2.2, q)
def bindRF (p : Nat) : (Except (Int × Int) (Ex × Nat)) := thenR (mustBeRF T 1 (p + 1)) fun n q => thenR (mustRF T ⟨#[61]⟩ q) fun _ q => thenR (g .rE d q) fun a q => thenR (mustRF T ⟨#[105, 110]⟩ q) fun _ q => thenR (g .rE d q) fun b q => .ok (namedR 23 n.2.1 [a, b] (T.n p).2.2, q)
def tryRF (p : Nat) : (Except (Int × Int) (Ex × Nat)) := thenR (g .rE d (p + 1)) fun a q => thenR (mustRF T ⟨#[119, 105, 116, 104]⟩ q) fun _ q => thenR (mustBeRF T 1 q) fun n q => thenR (mustRF T ⟨#[45, 62]⟩ q) fun _ q => thenR (g .rE d q) fun b q => .ok (namedR 27 n.2.1 [a, b] (T.n p).2.2, q)
def withinRF (p : Nat) : (Except (Int × Int) (Ex × Nat)) :=
  if txtF T p = ⟨#[105, 102]⟩ then branchRF T g d p
  else if txtF T p = ⟨#[108, 101, 116]⟩ then bindRF T g d p
  else if txtF T p = ⟨#[116, 114, 121]⟩ then tryRF T g d p
  else seqRF T g d p
def begRF (u : Nat) (p : Nat) : Bool := match u with
  | 0 => begEF T p
  | _ => begUF T p
def ruleRF (u : Nat) (p : Nat) : (Except (Int × Int) (Ex × Nat)) := match u with
  | 0 => withinRF T g d p
  | 1 => impRF T g d p
  | _ => unaryRF T g d p
end
def gRF (T : TF) : Nat → Ru → Nat → Nat → (Except (Int × Int) (Ex × Nat))
  | 0, _, _, _ => .error (0, 0)
  | f + 1, u, d, p => if begRF T u p ∧ d = 200 then badF T p 151 else ruleRF T (gRF T f) (d + 1) u p
section
variable (T : TF)
def exRF (p : Nat) : (Except (Int × Int) (Ex × Nat)) := gRF T T.len .rE 0 p
def endRF (p : Nat) : (Except (Int × Int) (Unit × Nat)) := if (T.n p).1 = 0 then .ok ((), p) else badF T p 150
/-- An expression and the end. -/
def alonePF (p : Nat) : (Except (Int × Int) (Ex × Nat)) := thenR (exRF T p) fun x q => thenR (endRF T q) fun _ z => .ok (x, z)
def tDF (st : PS) : (Int × ByteArray × Int) := if st.e = 0 then T.n st.i else zTk
def stepDF (st : PS) : PS := if st.e = 0 ∧ st.i + 1 < T.len then ⟨st.i + 1, st.e, st.a⟩ else st
def isDF (s : ByteArray) (st : PS) : Bool := decide (st.e = 0) && (decide ((T.n st.i).1 = 2) || decide ((T.n st.i).1 = 4)) && decide ((T.n st.i).2.1 = s)
def mustDF (s : ByteArray) (st : PS) : PS := if isDF T s st then stepDF T st else st.fail (tDF T st).2.2 150
def nameDF (st : PS) : (Int × ByteArray × Int) × PS := if (tDF T st).1 = 1 then (tDF T st, stepDF T st) else (zTk, st.fail (tDF T st).2.2 150)
variable (g : Ru → PS → Ex × PS)
def argsDF (most : Nat) : Nat → List Ex → PS → List Ex × PS
  | 0, l, st => (l, st)
  | n + 1, l, st => if isDF T ⟨#[44]⟩ st then (if l.length = most then (l, st.fail (tDF T st).2.2 152) else match g .rE (stepDF T st) with | (x, s) => argsDF most n (l ++ [x]) s) else (l, mustDF T ⟨#[41]⟩ st)
def callDF (n : (Int × ByteArray × Int)) (st : PS) : Ex × PS :=
  if isDF T ⟨#[41]⟩ st then (namedR 21 n.2.1 [] n.2.2, stepDF T st)
  else match g .rE st with | (x, s) => match argsDF T g 8 8 [x] s with | (l, s') => (namedR 21 n.2.1 l n.2.2, s')
def primDF (st : PS) : Ex × PS :=
  if st.e ≠ 0 then (zEx, st)
  else if (tDF T st).1 = 3 then (.mk 1 ⟨#[]⟩ (tDF T st).2.1 false [] (tDF T st).2.2, stepDF T st)
  else if isDF T ⟨#[116, 114, 117, 101]⟩ st then (.mk 2 ⟨#[]⟩ ⟨#[]⟩ true [] (tDF T st).2.2, stepDF T st)
  else if isDF T ⟨#[102, 97, 108, 115, 101]⟩ st then (madeR 2 [] (tDF T st).2.2, stepDF T st)
  else if isDF T ⟨#[40]⟩ st then
    (if isDF T ⟨#[41]⟩ (stepDF T st) then (madeR 3 [] (tDF T st).2.2, stepDF T (stepDF T st))
     else match g .rE (stepDF T st) with | (x, s) => (x, mustDF T ⟨#[41]⟩ s))
  else if isDF T ⟨#[40]⟩ (nameDF T st).2 then callDF T g (nameDF T st).1 (stepDF T (nameDF T st).2)
  else (namedR 4 (nameDF T st).1.2.1 [] (nameDF T st).1.2.2, (nameDF T st).2)
def unaryDF (st : PS) : Ex × PS :=
  if isDF T ⟨#[45]⟩ st then (match g .rU (stepDF T st) with | (x, s) => (madeR 7 [x] (tDF T st).2.2, s))
  else if isDF T ⟨#[110, 111, 116]⟩ st then (match g .rU (stepDF T st) with | (x, s) => (madeR 8 [x] (tDF T st).2.2, s))
  else if isDF T ⟨#[33]⟩ st then (namedR 5 (nameDF T (stepDF T st)).1.2.1 [] (tDF T st).2.2, (nameDF T (stepDF T st)).2)
  else if isDF T ⟨#[111, 108, 100]⟩ st then (namedR 6 (nameDF T (stepDF T st)).1.2.1 [] (tDF T st).2.2, (nameDF T (stepDF T st)).2)
  else primDF T g st
/-- The first of the signs that stands there, with its operator. -/
def signDF : List (ByteArray × Int) → PS → Option Int
  | [], _ => none
  | (s, o) :: l, st => if isDF T s st then some o else signDF l st
def chDF (O : PS → Ex × PS) (signs : List (ByteArray × Int)) (once : Bool) : Nat → Ex → PS → Ex × PS
  | 0, a, st => (a, st)
  | n + 1, a, st => match signDF T signs st with
    | none => (a, st)
    | some o => match O (stepDF T st) with | (b, s) => if once then (madeR o [a, b] (tDF T st).2.2, s) else chDF O signs once n (madeR o [a, b] (tDF T st).2.2) s
def levDF (O : PS → Ex × PS) (signs : List (ByteArray × Int)) (once : Bool) (st : PS) : Ex × PS := match O st with | (x, s) => chDF T O signs once T.len x s
/-- So many levels below unary: 0 is unary. -/
def leftDF : Nat → PS → Ex × PS
  | 0, st => unaryDF T g st
  | k + 1, st => levDF T (leftDF k) (sgD (4 - k)) (decide (k = 2)) st
def impDF (st : PS) : Ex × PS :=
  match leftDF T g 5 st with | (x, s) => if isDF T ⟨#[61, 61, 62]⟩ s then (match g .rI (stepDF T s) with | (y, s') => (madeR 20 [x, y] (tDF T s).2.2, s')) else (x, s)
def partDF (st : PS) : Ex × PS :=
  if st.e = 0 ∧ (tDF T st).1 = 1 ∧ (T.n (st.i + 1)).1 = 4 ∧ (T.n (st.i + 1)).2.1 = ⟨#[58, 61]⟩ then
    (match impDF T g (stepDF T (stepDF T st)) with | (x, s) => (namedR 25 (tDF T st).2.1 [x] (tDF T st).2.2, s))
  else if isDF T ⟨#[114, 97, 105, 115, 101]⟩ st then (match impDF T g (stepDF T st) with | (x, s) => (madeR 26 [x] (tDF T st).2.2, s))
  else if isDF T ⟨#[97, 115, 115, 101, 114, 116]⟩ st then (match impDF T g (stepDF T st) with | (x, s) => (madeR 28 [x] (tDF T st).2.2, s))
  else impDF T g st
def ifDF (at' : Int) (st : PS) : Ex × PS :=
  match g .rE st with | (a, s1) => match g .rE (mustDF T ⟨#[116, 104, 101, 110]⟩ s1) with | (b, s2) => match g .rE (mustDF T ⟨#[101, 108, 115, 101]⟩ s2) with | (c, s3) => (madeR 22 [a, b, c] at', s3)
def letDF (at' : Int) (st : PS) : Ex × PS :=
  match nameDF T st with | (n, s0) => match g .rE (mustDF T ⟨#[61]⟩ s0) with | (a, s1) => match g .rE (mustDF T ⟨#[105, 110]⟩ s1) with | (b, s2) => (namedR 23 n.2.1 [a, b] at', s2)
def tryDF (at' : Int) (st : PS) : Ex × PS :=
  match g .rE st with | (a, s1) => match nameDF T (mustDF T ⟨#[119, 105, 116, 104]⟩ s1) with | (n, s2) => match g .rE (mustDF T ⟨#[45, 62]⟩ s2) with | (b, s3) => (namedR 27 n.2.1 [a, b] at', s3)
def innerDF (st : PS) : Ex × PS :=
  if isDF T ⟨#[105, 102]⟩ st then ifDF T g (tDF T st).2.2 (stepDF T st)
  else if isDF T ⟨#[108, 101, 116]⟩ st then letDF T g (tDF T st).2.2 (stepDF T st)
  else if isDF T ⟨#[116, 114, 121]⟩ st then tryDF T g (tDF T st).2.2 (stepDF T st)
  else match partDF T g st with | (x, s) => if isDF T ⟨#[59]⟩ s then (match g .rE (stepDF T s) with | (y, s') => (madeR 24 [x, y] (tDF T s).2.2, s')) else (x, s)
def ruleDF (u : Nat) (st : PS) : Ex × PS := match u with
  | 0 => innerDF T g st
  | 1 => impDF T g st
  | _ => unaryDF T g st
end
def gDF (T : TF) : Nat → Ru → PS → Ex × PS
  | 0, _, st => (zEx, st.fail (tDF T st).2.2 151)
  | f + 1, u, st => if st.e = 0 then ruleDF T (gDF T f) u st else (zEx, st)
section
variable (T : TF)
/-- An expression of a declaration. -/
def exDF (st : PS) : Ex × PS := gDF T 200 .rE st
/-- A whole text: its tree, or a place and an error. -/
def aloneDF : Except (Int × Int) Ex :=
  match exDF T ⟨0, 0, 0⟩ with | (x, s) => match (if (tDF T s).1 = 0 then s else s.fail (tDF T s).2.2 150) with | ⟨_, e, a⟩ => if e = 0 then .ok x else .error (a, e)
end
def ofT (ts : List (Int × ByteArray × Int)) : TF := ⟨nx ts, ts.length⟩
end Go.Proofs.YtfkfnbehdcmgeaaGreatDoor
