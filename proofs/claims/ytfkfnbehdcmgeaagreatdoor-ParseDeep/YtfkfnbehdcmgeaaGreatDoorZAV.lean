/- avowhelp.Exprs: of the same row it tells true. -/
import Derived.Test.YtfkfnbehdcmgeaaGreatDoorZAN
import Derived.Test.YtfkfnbehdcmgeaaGreatDoorZAU
import Derived.Deep.RegionHeld3
set_option linter.unusedVariables false
set_option linter.unusedSimpArgs false

/- Package parse: a refinement. -/
namespace Go.Proofs.YtfkfnbehdcmgeaaGreatDoor
open Go Go.RowKit
set_option maxRecDepth 100000 in
set_option maxHeartbeats 8000000 in
theorem refinement_of {r d lo : Nat} {ts : List (Int × ByteArray × Int)} (hT : TsOk ts) (hE : RuC 59 r ts d lo (exR ts)) {w : World} {p : Nat} (hlo : lo ≤ p) (hp1 : p + 1 < ts.length) (hR : RD w r ts p d) : Calls Tryz.prog 107 #[.pointer (some ⟨r, 0, none⟩)] w (RP (fun w' v t => TyV w' w.heap.size v t) (refR ts p) r ts p d w) := by
  obtain ⟨Y, hY⟩ : ∃ Y, refR ts p = Y := ⟨_, rfl⟩
  rw [hY]
  unfold refR at hY
  have hr := hR.rlt
  obtain ⟨A, eA, hbA, hsA, hzA⟩ := box_new w #[.int .i64 0, .string ⟨#[]⟩, .slice none 0 0, .int .i64 0] 54
  have HB := hide (But.of (r := r) hbA)
  have HR := hide (hR.keep hbA)
  have HZ := hide hzA
  have HS : Hid (w.heap.size < A.heap.size) := by show _ < _; omega
  have HL : Hid (p ≤ p ∧ lo ≤ p) := ⟨Nat.le_refl _, hlo⟩
  have HSA := hide hsA
  have HE := hide eA
  have HT := hide hT
  have HY := hide hY
  have hrne : r ≠ w.heap.size := by omega
  replace hE := hide hE
  replace hp1 := hide hp1
  clear hlo hR hbA hzA hsA eA hT hY
  go_enter Tryz.func107, Tryz.ntmps107
  have HC0 := hide (take_any (unhide HR) (unhide HT) (unhide hp1))
  unfold tkV at HC0
  obtain ⟨⟨kk0, T0, at0⟩, hN0⟩ : ∃ X, nx ts p = X := ⟨_, rfl⟩
  rw [hN0] at HC0
  have HN0 := hide hN0
  clear hN0
  go_wp2_with fail
  rw [unhide HE]
  refine (unhide HC0).mono ?_
  rintro e w0 ⟨rfl, hb0, hR0⟩
  replace HB := hide ((unhide HB).trans hb0)
  replace HZ := hide (zkeep (unhide HZ) hb0 hrne)
  replace HS := hide (Nat.lt_of_lt_of_le (unhide HS) hb0.size)
  replace HR := hide hR0
  replace HL : Hid (p ≤ p + 1 ∧ lo + 1 ≤ p + 1) := And.intro (Nat.le_succ_of_le (unhide HL).1) (Nat.succ_le_succ (unhide HL).2)
  clear hb0 hR0 HC0
  have hf2 := fld2 (.int .i64 kk0) (.string T0) (.int .i64 at0)
  obtain ⟨B1, eB1, hbB1, hsB1, hhB1⟩ := box_new w0 #[.int .i64 1, .string ⟨#[]⟩, .slice none 0 0, .int .i64 at0] 54
  have ne1 : r ≠ w0.heap.size := by have := unhide HS; omega
  have HQHX1 := HS
  have hbu2 := But.of (r := r) hbB1
  replace HR := hide ((unhide HR).keep hbB1)
  replace HB := hide ((unhide HB).trans hbu2)
  replace HZ := hide (zkeep (unhide HZ) hbu2 hrne)
  replace HS := hide (Nat.lt_of_lt_of_le (unhide HS) hbu2.size)
  have HX1 := hide hhB1
  have HEB1 := hide eB1
  have HSB1 := hide hsB1
  clear eB1 hbB1 hhB1 hsB1
  have hwq1 : w.heap.size < w0.heap.size := by have := unhide HQHX1; omega
  have HQ1 : Hid (w0.heap.size < B1.heap.size) := by show _ < _; have := unhide HSB1; omega
  have HC3 := hide (mustBe_any (unhide HR) (unhide HT) (k := 1) (by decide))
  go_wp2_with fail
  rw [unhide HEB1]
  refine (unhide HC3).mono ?_
  intro e w3 h3
  rcases hX3 : mustBeR ts 1 (p + 1) with er | ⟨t3, q3⟩
  · rw [hX3] at h3
    obtain ⟨ei, en⟩ := er
    have hYe : Y = .error (ei, en) := by have h := unhide HY; rw [hX3] at h; exact h.symm
    subst hYe
    obtain ⟨hb3, h3⟩ := h3
    obtain rfl : e = _ := h3
    have HP := hide ((unhide HB).trans hb3)
    clear hb3 HC3 hX3
    go_wp2
    exact ⟨rfl, unhide HP, rfl⟩
  rw [hX3] at h3
  obtain ⟨hb3, hle3, hR3, v3, rfl, hv3⟩ := h3
  have hY3 := unhide HY
  rw [hX3] at hY3
  simp only [thenR] at hY3
  replace HY := hide hY3
  clear hY3
  obtain ⟨kk3, T3, at3⟩ := t3
  obtain rfl : v3 = _ := hv3
  have hf03 := fld0 (.int .i64 kk3) (.string T3) (.int .i64 at3)
  have hf13 := fld1 (.int .i64 kk3) (.string T3) (.int .i64 at3)
  unfold tkV
  replace HB := hide ((unhide HB).trans hb3)
  replace HZ := hide (zkeep (unhide HZ) hb3 hrne)
  replace HX1 := hide (zkeep (unhide HX1) hb3 ne1)
  replace HS := hide (Nat.lt_of_lt_of_le (unhide HS) hb3.size)
  replace HQ1 := hide (Nat.lt_of_lt_of_le (unhide HQ1) hb3.size)
  replace HR := hide hR3
  replace HL := hide (And.intro (Nat.le_trans (unhide HL).1 hle3) (Nat.le_trans (unhide HL).2 hle3))
  clear hb3 hle3 hR3 HC3 hX3
  have st4_0 := (blk (unhide HX1)).2.1 1 _ rfl
  have sz4_0 := (blk (unhide HX1)).2.2 1
  obtain ⟨V4, eV4⟩ : ∃ V, (w3.setCell ⟨w0.heap.size, 1, none⟩ (.string T3)) = V := ⟨_, rfl⟩
  have eN4 : setN w3 w0.heap.size 1 [.string T3] = V4 := eV4
  replace HB := hide (by rw [← eN4]; exact But.setN [.string T3] w3 1 (unhide HB) (by omega) : But r w V4)
  replace HR := hide (by rw [← eN4]; exact (unhide HR).setN (by omega) 1 [.string T3] : RD V4 r ts (q3) d)
  replace HZ := hide (by rw [← eN4]; exact (heap_setN (by omega) [.string T3] w3 1).trans (unhide HZ) : V4.heap[w.heap.size]? = some (.cells #[.int .i64 0, .string ⟨#[]⟩, .slice none 0 0, .int .i64 0] 54))
  replace HX1 := hide (by rw [← eN4]; exact blk_setN [.string T3] w3 1 [.int .i64 1, .string ⟨#[]⟩, .slice none 0 0, .int .i64 at0] (unhide HX1) (by simp) : V4.heap[w0.heap.size]? = some (.cells #[.int .i64 1, .string T3, .slice none 0 0, .int .i64 at0] 54))
  have hsz4 : V4.heap.size = w3.heap.size := by rw [← eN4]; exact size_setN [.string T3] w3 1
  replace HS := hide (by rw [hsz4]; exact unhide HS : w.heap.size < V4.heap.size)
  replace HQ1 := hide (by rw [hsz4]; exact unhide HQ1 : w0.heap.size < V4.heap.size)
  have HEV4 := hide eV4
  replace hsz4 := hide hsz4
  clear eV4 eN4
  have HC5 := hide (must_any (unhide HR) (unhide HT) (s := ⟨#[58]⟩) (by decide))
  go_wp2_with fail
  rw [unhide HEV4]
  refine (unhide HC5).mono ?_
  intro e w5 h5
  rcases hX5 : mustR ts ⟨#[58]⟩ (q3) with er | ⟨t5, q5⟩
  · rw [hX5] at h5
    obtain ⟨ei, en⟩ := er
    have hYe : Y = .error (ei, en) := by have h := unhide HY; rw [hX5] at h; exact h.symm
    subst hYe
    obtain ⟨hb5, h5⟩ := h5
    obtain rfl : e = _ := h5
    have HP := hide ((unhide HB).trans hb5)
    clear hb5 HC5 hX5
    go_wp2
    exact ⟨rfl, unhide HP, rfl⟩
  rw [hX5] at h5
  obtain ⟨hb5, hle5, hR5, v5, rfl, hv5⟩ := h5
  have hY5 := unhide HY
  rw [hX5] at hY5
  simp only [thenR] at hY5
  replace HY := hide hY5
  clear hY5
  obtain rfl : v5 = _ := hv5
  replace HB := hide ((unhide HB).trans hb5)
  replace HZ := hide (zkeep (unhide HZ) hb5 hrne)
  replace HX1 := hide (zkeep (unhide HX1) hb5 ne1)
  replace HS := hide (Nat.lt_of_lt_of_le (unhide HS) hb5.size)
  replace HQ1 := hide (Nat.lt_of_lt_of_le (unhide HQ1) hb5.size)
  replace HR := hide hR5
  replace HL := hide (And.intro (Nat.le_trans (unhide HL).1 hle5) (Nat.le_trans (unhide HL).2 hle5))
  clear hb5 hle5 hR5 HC5 hX5
  have HC6 := hide (must_any (unhide HR) (unhide HT) (s := ⟨#[105, 110, 116]⟩) (by decide))
  go_wp2_with fail
  refine (unhide HC6).mono ?_
  intro e w6 h6
  rcases hX6 : mustR ts ⟨#[105, 110, 116]⟩ (q5) with er | ⟨t6, q6⟩
  · rw [hX6] at h6
    obtain ⟨ei, en⟩ := er
    have hYe : Y = .error (ei, en) := by have h := unhide HY; rw [hX6] at h; exact h.symm
    subst hYe
    obtain ⟨hb6, h6⟩ := h6
    obtain rfl : e = _ := h6
    have HP := hide ((unhide HB).trans hb6)
    clear hb6 HC6 hX6
    go_wp2
    exact ⟨rfl, unhide HP, rfl⟩
  rw [hX6] at h6
  obtain ⟨hb6, hle6, hR6, v6, rfl, hv6⟩ := h6
  have hY6 := unhide HY
  rw [hX6] at hY6
  simp only [thenR] at hY6
  replace HY := hide hY6
  clear hY6
  obtain rfl : v6 = _ := hv6
  replace HB := hide ((unhide HB).trans hb6)
  replace HZ := hide (zkeep (unhide HZ) hb6 hrne)
  replace HX1 := hide (zkeep (unhide HX1) hb6 ne1)
  replace HS := hide (Nat.lt_of_lt_of_le (unhide HS) hb6.size)
  replace HQ1 := hide (Nat.lt_of_lt_of_le (unhide HQ1) hb6.size)
  replace HR := hide hR6
  replace HL := hide (And.intro (Nat.le_trans (unhide HL).1 hle6) (Nat.le_trans (unhide HL).2 hle6))
  clear hb6 hle6 hR6 HC6 hX6
  have HC7 := hide (must_any (unhide HR) (unhide HT) (s := ⟨#[124]⟩) (by decide))
  go_wp2_with fail
  refine (unhide HC7).mono ?_
  intro e w7 h7
  rcases hX7 : mustR ts ⟨#[124]⟩ (q6) with er | ⟨t7, q7⟩
  · rw [hX7] at h7
    obtain ⟨ei, en⟩ := er
    have hYe : Y = .error (ei, en) := by have h := unhide HY; rw [hX7] at h; exact h.symm
    subst hYe
    obtain ⟨hb7, h7⟩ := h7
    obtain rfl : e = _ := h7
    have HP := hide ((unhide HB).trans hb7)
    clear hb7 HC7 hX7
    go_wp2
    exact ⟨rfl, unhide HP, rfl⟩
  rw [hX7] at h7
  obtain ⟨hb7, hle7, hR7, v7, rfl, hv7⟩ := h7
  have hY7 := unhide HY
  rw [hX7] at hY7
  simp only [thenR] at hY7
  replace HY := hide hY7
  clear hY7
  obtain rfl : v7 = _ := hv7
  replace HB := hide ((unhide HB).trans hb7)
  replace HZ := hide (zkeep (unhide HZ) hb7 hrne)
  replace HX1 := hide (zkeep (unhide HX1) hb7 ne1)
  replace HS := hide (Nat.lt_of_lt_of_le (unhide HS) hb7.size)
  replace HQ1 := hide (Nat.lt_of_lt_of_le (unhide HQ1) hb7.size)
  replace HR := hide hR7
  replace HL := hide (And.intro (Nat.le_trans (unhide HL).1 hle7) (Nat.le_trans (unhide HL).2 hle7))
  clear hb7 hle7 hR7 HC7 hX7
  have HC8 := hide (unhide hE w7 (q7) (by have := (unhide HL).2; omega) (unhide HR))
  go_wp2_with fail
  refine (unhide HC8).mono ?_
  intro e w8 h8
  rcases hX8 : exR ts (q7) with er | ⟨t8, q8⟩
  · rw [hX8] at h8
    obtain ⟨ei, en⟩ := er
    have hYe : Y = .error (ei, en) := by have h := unhide HY; rw [hX8] at h; exact h.symm
    subst hYe
    obtain ⟨hb8, h8⟩ := h8
    obtain rfl : e = _ := h8
    have HP := hide ((unhide HB).trans hb8)
    clear hb8 HC8 hX8
    go_wp2
    exact ⟨rfl, unhide HP, rfl⟩
  rw [hX8] at h8
  obtain ⟨hb8, hle8, hR8, v8, rfl, hv8⟩ := h8
  have hY8 := unhide HY
  rw [hX8] at hY8
  simp only [thenR] at hY8
  replace HY := hide hY8
  clear hY8
  obtain ⟨i8, j8, s8, m8, b8, a8, n8, c8, rfl⟩ := hv8.form
  have HT8 := hide (hv8.keep (lo' := w0.heap.size + 1) (Stays.of (Below.refl _ _)) (unhide HQ1))
  replace HB := hide ((unhide HB).trans hb8)
  replace HZ := hide (zkeep (unhide HZ) hb8 hrne)
  replace HX1 := hide (zkeep (unhide HX1) hb8 ne1)
  replace HS := hide (Nat.lt_of_lt_of_le (unhide HS) hb8.size)
  replace HQ1 := hide (Nat.lt_of_lt_of_le (unhide HQ1) hb8.size)
  replace HR := hide hR8
  replace HL := hide (And.intro (Nat.le_trans (unhide HL).1 hle8) (Nat.le_trans (unhide HL).2 hle8))
  clear hb8 hle8 hR8 hv8 HC8 hX8
  have HPT9 := HT8
  have HPQ9 := HQ1
  obtain ⟨B9, eB9, hbB9, hsB9, hhB9⟩ := box_new w8 #[.int .i64 i8, .string s8, .string m8, .bool b8, .slice a8 n8 c8, .int .i64 0, .int .i64 j8] 36
  have ne9 : r ≠ w8.heap.size := by have := unhide HS; omega
  have HQHX9 := HS
  have hbu10 := But.of (r := r) hbB9
  replace HR := hide ((unhide HR).keep hbB9)
  replace HB := hide ((unhide HB).trans hbu10)
  replace HZ := hide (zkeep (unhide HZ) hbu10 hrne)
  replace HX1 := hide (zkeep (unhide HX1) hbu10 ne1)
  replace HT8 := hide ((unhide HT8).keep (Stays.but hbu10 (by omega)) (Nat.le_refl _))
  replace HS := hide (Nat.lt_of_lt_of_le (unhide HS) hbu10.size)
  replace HQ1 := hide (Nat.lt_of_lt_of_le (unhide HQ1) hbu10.size)
  have HX9 := hide hhB9
  have HEB9 := hide eB9
  have HSB9 := hide hsB9
  clear eB9 hbB9 hhB9 hsB9
  have hone9 := one_ls (unhide HPT9) (unhide HEB9) (by have := unhide HPQ9; omega)
  have HO9 := hide hone9
  clear hone9 HPT9 HPQ9
  have st11_0 := (blk (unhide HX1)).2.1 2 _ rfl
  have sz11_0 := (blk (unhide HX1)).2.2 2
  rw [← unhide HEB9] at st11_0 sz11_0
  obtain ⟨V11, eV11⟩ : ∃ V, (B9.setCell ⟨w0.heap.size, 2, none⟩ (.slice (some ⟨w8.heap.size, 0, none⟩) 1 1)) = V := ⟨_, rfl⟩
  have eN11 : setN B9 w0.heap.size 2 [.slice (some ⟨w8.heap.size, 0, none⟩) 1 1] = V11 := eV11
  replace HB := hide (by rw [← eN11]; exact But.setN [.slice (some ⟨w8.heap.size, 0, none⟩) 1 1] B9 2 (unhide HB) (by omega) : But r w V11)
  replace HR := hide (by rw [← eN11]; exact (unhide HR).setN (by omega) 2 [.slice (some ⟨w8.heap.size, 0, none⟩) 1 1] : RD V11 r ts (q8) d)
  replace HZ := hide (by rw [← eN11]; exact (heap_setN (by omega) [.slice (some ⟨w8.heap.size, 0, none⟩) 1 1] B9 2).trans (unhide HZ) : V11.heap[w.heap.size]? = some (.cells #[.int .i64 0, .string ⟨#[]⟩, .slice none 0 0, .int .i64 0] 54))
  replace HX1 := hide (by rw [← eN11]; exact blk_setN [.slice (some ⟨w8.heap.size, 0, none⟩) 1 1] B9 2 [.int .i64 1, .string T3, .slice none 0 0, .int .i64 at0] (unhide HX1) (by simp) : V11.heap[w0.heap.size]? = some (.cells #[.int .i64 1, .string T3, .slice (some ⟨w8.heap.size, 0, none⟩) 1 1, .int .i64 at0] 54))
  replace HO9 := hide (eN11 ▸ (unhide HO9).keep (Stays.setN [.slice (some ⟨w8.heap.size, 0, none⟩) 1 1] B9 2 (Stays.of (Below.refl _ _)) (by omega)) (Nat.le_refl _))
  have hsz11 : V11.heap.size = B9.heap.size := by rw [← eN11]; exact size_setN [.slice (some ⟨w8.heap.size, 0, none⟩) 1 1] B9 2
  replace HS := hide (by rw [hsz11]; exact unhide HS : w.heap.size < V11.heap.size)
  replace HQ1 := hide (by rw [hsz11]; exact unhide HQ1 : w0.heap.size < V11.heap.size)
  have HEV11 := hide eV11
  replace hsz11 := hide hsz11
  clear eV11 eN11
  have HC12 := hide (must_any (unhide HR) (unhide HT) (s := ⟨#[125]⟩) (by decide))
  go_wp2_with fail
  rw [unhide HEB9, unhide HEV11]
  refine (unhide HC12).mono ?_
  intro e w12 h12
  rcases hX12 : mustR ts ⟨#[125]⟩ (q8) with er | ⟨t12, q12⟩
  · rw [hX12] at h12
    obtain ⟨ei, en⟩ := er
    have hYe : Y = .error (ei, en) := by have h := unhide HY; rw [hX12] at h; exact h.symm
    subst hYe
    obtain ⟨hb12, h12⟩ := h12
    obtain rfl : e = _ := h12
    have HP := hide ((unhide HB).trans hb12)
    clear hb12 HC12 hX12
    go_wp2
    exact ⟨rfl, unhide HP, rfl⟩
  rw [hX12] at h12
  obtain ⟨hb12, hle12, hR12, v12, rfl, hv12⟩ := h12
  have hY12 := unhide HY
  rw [hX12] at hY12
  simp only [thenR] at hY12
  replace HY := hide hY12
  clear hY12
  obtain rfl : v12 = _ := hv12
  replace HB := hide ((unhide HB).trans hb12)
  replace HZ := hide (zkeep (unhide HZ) hb12 hrne)
  replace HX1 := hide (zkeep (unhide HX1) hb12 ne1)
  replace HO9 := hide ((unhide HO9).keep (Stays.but hb12 (by omega)) (Nat.le_refl _))
  replace HS := hide (Nat.lt_of_lt_of_le (unhide HS) hb12.size)
  replace HQ1 := hide (Nat.lt_of_lt_of_le (unhide HQ1) hb12.size)
  replace HR := hide hR12
  replace HL := hide (And.intro (Nat.le_trans (unhide HL).1 hle12) (Nat.le_trans (unhide HL).2 hle12))
  clear hb12 hle12 hR12 HC12 hX12
  have x0 := (blk (unhide HX1)).2.1 0 _ rfl
  have x1 := (blk (unhide HX1)).2.1 1 _ rfl
  have x2 := (blk (unhide HX1)).2.1 2 _ rfl
  have x3 := (blk (unhide HX1)).2.1 3 _ rfl
  have HF0 : TyV w12 (w0.heap.size + 1) (.agg #[.int .i64 1, .string T3, .slice (some ⟨w8.heap.size, 0, none⟩) 1 1, .int .i64 at0]) (.mk 1 T3 [t8] at0) := ⟨_, _, _, rfl, unhide HO9⟩
  have HF := hide HF0
  clear HF0
  have y0 := (blk (unhide HZ)).2.1 0 _ rfl
  have z0 := (blk (unhide HZ)).2.2 0
  have y1 := (blk (unhide HZ)).2.1 1 _ rfl
  have z1 := (blk (unhide HZ)).2.2 1
  have y2 := (blk (unhide HZ)).2.1 2 _ rfl
  have z2 := (blk (unhide HZ)).2.2 2
  have y3 := (blk (unhide HZ)).2.1 3 _ rfl
  have z3 := (blk (unhide HZ)).2.2 3
  go_wp2
  exact ret_row (cs := [.int .i64 1, .string T3, .slice (some ⟨w8.heap.size, 0, none⟩) 1 1, .int .i64 at0]) (xs := [.int .i64 0, .string ⟨#[]⟩, .slice none 0 0, .int .i64 0]) TyV.keep rfl rfl rfl (unhide HB) hr (unhide HZ) rfl Tryz.underlying54 rfl (by kernel_rfl) (by have h := unhide HY; rw [unhide HN0] at h; exact h.symm) (unhide HL).1 (unhide HR) (lo := w0.heap.size + 1) (by omega) (unhide HF)
end Go.Proofs.YtfkfnbehdcmgeaaGreatDoor

/- Package parse: types. -/
namespace Go.Proofs.YtfkfnbehdcmgeaaGreatDoor
open Go Go.RowKit
set_option maxRecDepth 100000 in
set_option maxHeartbeats 8000000 in
theorem typeOf_of {r d lo : Nat} {ts : List (Int × ByteArray × Int)} (hT : TsOk ts) (hE : RuC 59 r ts d lo (exR ts)) {w : World} {p : Nat} (hlo : lo ≤ p) (hR : RD w r ts p d) : Calls Tryz.prog 91 #[.pointer (some ⟨r, 0, none⟩)] w (RP (fun w' v t => TyV w' w.heap.size v t) (typeR ts p) r ts p d w) := by
  obtain ⟨Y, hY⟩ : ∃ Y, typeR ts p = Y := ⟨_, rfl⟩
  rw [hY]
  unfold typeR at hY
  have hr := hR.rlt
  obtain ⟨A, eA, hbA, hsA, hzA⟩ := box_new w #[.int .i64 0, .string ⟨#[]⟩, .slice none 0 0, .int .i64 0] 54
  have HB := hide (But.of (r := r) hbA)
  have HR := hide (hR.keep hbA)
  have HZ := hide hzA
  have HS : Hid (w.heap.size < A.heap.size) := by show _ < _; omega
  have HL : Hid (p ≤ p ∧ lo ≤ p) := ⟨Nat.le_refl _, hlo⟩
  have HSA := hide hsA
  have HE := hide eA
  have HT := hide hT
  have HY := hide hY
  have hrne : r ≠ w.heap.size := by omega
  replace hE := hide hE
  clear hlo hR hbA hzA hsA eA hT hY
  go_enter Tryz.func91, Tryz.ntmps91
  have HC0 := hide (sees_any (unhide HR) (unhide HT) ⟨#[123]⟩)
  obtain ⟨bo0, hbo0⟩ : ∃ b, sees ts (p) ⟨#[123]⟩ = b := ⟨_, rfl⟩
  rw [hbo0] at HC0
  have hY0 := unhide HY
  rw [hbo0] at hY0
  replace HY := hide hY0
  have HO0 := hide hbo0
  clear hY0 hbo0
  go_wp2_with fail
  rw [unhide HE]
  refine (unhide HC0).mono ?_
  rintro e w0 ⟨rfl, hb0⟩
  have hbu1 := But.of (r := r) hb0
  replace HR := hide ((unhide HR).keep hb0)
  replace HB := hide ((unhide HB).trans hbu1)
  replace HZ := hide (zkeep (unhide HZ) hbu1 hrne)
  replace HS := hide (Nat.lt_of_lt_of_le (unhide HS) hbu1.size)
  clear hb0 HC0
  rcases bo0 with _ | _
  · have hY0 := unhide HY
    simp only [Bool.false_eq_true, if_false] at hY0
    replace HY := hide hY0
    clear hY0
    have HC2 := hide (next_any (unhide HR) (unhide HT))
    unfold tkV at HC2
    obtain ⟨⟨kk2, T2, at2⟩, hN2⟩ : ∃ X, nx ts p = X := ⟨_, rfl⟩
    rw [hN2] at HC2
    have HN2 := hide hN2
    clear hN2
    go_wp2_with fail
    refine (unhide HC2).mono ?_
    rintro e w2 ⟨rfl, hb2⟩
    have hbu3 := But.of (r := r) hb2
    replace HR := hide ((unhide HR).keep hb2)
    replace HB := hide ((unhide HB).trans hbu3)
    replace HZ := hide (zkeep (unhide HZ) hbu3 hrne)
    replace HS := hide (Nat.lt_of_lt_of_le (unhide HS) hbu3.size)
    clear hb2 HC2
    have hf1 := fld1 (.int .i64 kk2) (.string T2) (.int .i64 at2)
    have htx : txt ts p = T2 := by unfold txt; rw [unhide HN2]
    obtain ⟨o, ho⟩ : ∃ o, kindD T2 = o := ⟨_, rfl⟩
    have HK := kindOf_any T2 w2
    rw [ho] at HK
    replace HK := hide HK
    go_wp2_with fail
    refine (unhide HK).mono ?_
    rintro e w90 ⟨rfl, hb90⟩
    have hbu4 := But.of (r := r) hb90
    replace HR := hide ((unhide HR).keep hb90)
    replace HB := hide ((unhide HB).trans hbu4)
    replace HZ := hide (zkeep (unhide HZ) hbu4 hrne)
    replace HS := hide (Nat.lt_of_lt_of_le (unhide HS) hbu4.size)
    clear hb90 HK
    by_cases ho0 : o = 0
    · subst ho0
      have hY5 := unhide HY
      rw [if_pos (by rw [htx]; exact ho)] at hY5
      replace HY := hide hY5
      clear hY5
      clear htx ho
      have HC6 := hide (refused_any (unhide HR) (unhide HT) 150)
      go_wp2_with fail
      refine (unhide HC6).mono ?_
      rintro e w6 ⟨rfl, hb6⟩
      have hbu7 := But.of (r := r) hb6
      replace HR := hide ((unhide HR).keep hb6)
      replace HB := hide ((unhide HB).trans hbu7)
      replace HZ := hide (zkeep (unhide HZ) hbu7 hrne)
      replace HS := hide (Nat.lt_of_lt_of_le (unhide HS) hbu7.size)
      clear hb6 HC6
      go_wp2
      obtain rfl := unhide HY
      exact ⟨rfl, unhide HB, rfl⟩
    · have g0 : (o == 0) = false := by simpa using ho0
      have g1 : decide (o = 0) = false := by simpa using ho0
      have hp1 : p + 1 < ts.length := nx_txt (unhide HT) (unhide HR).lt (by rw [htx]; exact kindD_txt (by rw [ho]; exact ho0))
      have hY8 := unhide HY
      rw [if_neg (by rw [htx, ho]; exact ho0), htx, ho] at hY8
      replace HY := hide hY8
      clear hY8
      replace hp1 := hide hp1
      clear htx ho ho0
      have HC9 := hide (take_any (unhide HR) (unhide HT) (unhide hp1))
      unfold tkV at HC9
      obtain ⟨⟨kk9, T9, at9⟩, hN9⟩ : ∃ X, nx ts p = X := ⟨_, rfl⟩
      rw [hN9] at HC9
      have HN9 := hide hN9
      clear hN9
      go_wp2_with fail
      refine (unhide HC9).mono ?_
      rintro e w9 ⟨rfl, hb9, hR9⟩
      replace HB := hide ((unhide HB).trans hb9)
      replace HZ := hide (zkeep (unhide HZ) hb9 hrne)
      replace HS := hide (Nat.lt_of_lt_of_le (unhide HS) hb9.size)
      replace HR := hide hR9
      replace HL : Hid (p ≤ p + 1 ∧ lo + 1 ≤ p + 1) := And.intro (Nat.le_succ_of_le (unhide HL).1) (Nat.succ_le_succ (unhide HL).2)
      clear hb9 hR9 HC9
      have hf2 := fld2 (.int .i64 kk9) (.string T9) (.int .i64 at9)
      have HF9 : Hid (o = o) := rfl
      have HF0 : TyV w9 (w.heap.size + 1) (.agg #[.int .i64 o, .string ⟨#[]⟩, .slice none 0 0, .int .i64 at9]) (.mk o ⟨#[]⟩ [] at9) := ⟨none, 0, 0, rfl, lsn⟩
      have HF := hide HF0
      clear HF0
      have y0 := (blk (unhide HZ)).2.1 0 _ rfl
      have z0 := (blk (unhide HZ)).2.2 0
      have y1 := (blk (unhide HZ)).2.1 1 _ rfl
      have z1 := (blk (unhide HZ)).2.2 1
      have y2 := (blk (unhide HZ)).2.1 2 _ rfl
      have z2 := (blk (unhide HZ)).2.2 2
      have y3 := (blk (unhide HZ)).2.1 3 _ rfl
      have z3 := (blk (unhide HZ)).2.2 3
      go_wp2
      exact ret_row (cs := [.int .i64 o, .string ⟨#[]⟩, .slice none 0 0, .int .i64 at9]) (xs := [.int .i64 0, .string ⟨#[]⟩, .slice none 0 0, .int .i64 0]) TyV.keep rfl rfl rfl (unhide HB) hr (unhide HZ) rfl Tryz.underlying54 rfl (by kernel_rfl) (by have h := unhide HY; rw [unhide HN9] at h; exact h.symm) (unhide HL).1 (unhide HR) (lo := w.heap.size + 1) (by omega) (unhide HF)
  have hY0 := unhide HY
  simp only [if_true] at hY0
  replace HY := hide hY0
  clear hY0
  have hp1 : p + 1 < ts.length := nx_txt (unhide HT) (unhide HR).lt (by rw [sees_txt (unhide HO0)]; decide)
  replace hp1 := hide hp1
  have HC10 := hide (refinement_of (unhide HT) (unhide hE) (unhide HL).2 (unhide hp1) (unhide HR))
  go_wp2_with fail
  refine (unhide HC10).mono ?_
  intro e w10 h10
  rcases hX10 : refR ts (p) with er | ⟨t10, q10⟩
  · rw [hX10] at h10
    obtain ⟨ei, en⟩ := er
    have hYe : Y = .error (ei, en) := by have h := unhide HY; rw [hX10] at h; exact h.symm
    subst hYe
    obtain ⟨hb10, h10⟩ := h10
    obtain rfl : e = _ := h10
    have HP := hide ((unhide HB).trans hb10)
    clear hb10 HC10 hX10
    go_wp2
    exact ⟨rfl, unhide HP, rfl⟩
  rw [hX10] at h10
  obtain ⟨hb10, hle10, hR10, v10, rfl, hv10⟩ := h10
  have hY10 := unhide HY
  rw [hX10] at hY10
  replace HY := hide hY10
  clear hY10
  obtain ⟨a10, n10, c10, rfl, hv10⟩ := hv10
  have HT10 := hide (hv10.keep (lo' := w.heap.size + 1) (Stays.of (Below.refl _ _)) (unhide HS))
  replace HB := hide ((unhide HB).trans hb10)
  replace HZ := hide (zkeep (unhide HZ) hb10 hrne)
  replace HS := hide (Nat.lt_of_lt_of_le (unhide HS) hb10.size)
  replace HR := hide hR10
  replace HL := hide (And.intro (Nat.le_trans (unhide HL).1 hle10) (Nat.le_trans (unhide HL).2 hle10))
  clear hb10 hle10 hR10 hv10 HC10 hX10
  have HF0 : TyV w10 (w.heap.size + 1) (.agg #[.int .i64 t10.kind, .string t10.name, .slice a10 n10 c10, .int .i64 t10.at']) t10 := ⟨_, _, _, rfl, unhide HT10⟩
  have HF := hide HF0
  clear HF0
  have y0 := (blk (unhide HZ)).2.1 0 _ rfl
  have z0 := (blk (unhide HZ)).2.2 0
  have y1 := (blk (unhide HZ)).2.1 1 _ rfl
  have z1 := (blk (unhide HZ)).2.2 1
  have y2 := (blk (unhide HZ)).2.1 2 _ rfl
  have z2 := (blk (unhide HZ)).2.2 2
  have y3 := (blk (unhide HZ)).2.1 3 _ rfl
  have z3 := (blk (unhide HZ)).2.2 3
  go_wp2
  exact ret_row (cs := [.int .i64 t10.kind, .string t10.name, .slice a10 n10 c10, .int .i64 t10.at']) (xs := [.int .i64 0, .string ⟨#[]⟩, .slice none 0 0, .int .i64 0]) TyV.keep rfl rfl rfl (unhide HB) hr (unhide HZ) rfl Tryz.underlying54 rfl (by kernel_rfl) (by have h := unhide HY; exact h.symm) (unhide HL).1 (unhide HR) (lo := w.heap.size + 1) (by omega) (unhide HF)
end Go.Proofs.YtfkfnbehdcmgeaaGreatDoor

/- Package parse: a parameter's drawn region. -/
namespace Go.Proofs.YtfkfnbehdcmgeaaGreatDoor
open Go Go.RowKit
/-- A row of expressions in blocks of a kind. -/
def LsP (w : World) (P : Nat → Prop) (v : Value) (l : List Ex) : Prop := ∃ h a c, v = .slice a l.length c ∧ RowX w P a l.length c fun b o j => ∀ t, l[j]? = some t → ExAt w P h b o t
theorem LsP.keep {w w' : World} {P P' : Nat → Prop} {v : Value} {l : List Ex} (h : LsP w P v l) (hb : StaysP P w w') (hl : ∀ b, P b → P' b) : LsP w' P' v l := by
  obtain ⟨k, a, c, e, h2⟩ := h
  exact ⟨k, a, c, e, h2.mono hb.1 hl fun b o j hr hbl hj t ht => ExAt.keep hb hl k b o t hr hbl (hj t ht)⟩
theorem LsP.bnd {w : World} {P : Nat → Prop} {v : Value} {l : List Ex} (h : LsP w P v l) : LsP w (fun b => P b ∧ b < w.heap.size) v l := by
  obtain ⟨k, a, c, e, h1, h2, h3⟩ := h
  refine ⟨k, a, c, e, h1, h2, fun h0 => ?_⟩
  obtain ⟨b, off, e, hr, hb, hj⟩ := h3 h0
  exact ⟨b, off, e, ⟨hr, hb⟩, hb, fun j hjn t ht => ExAt.bnd k _ _ t (hj j hjn t ht)⟩
def TyP (w : World) (P : Nat → Prop) (v : Value) (t : Ty) : Prop := ∃ a n c, v = .agg #[.int .i64 t.kind, .string t.name, .slice a n c, .int .i64 t.at'] ∧ LsP w P (.slice a n c) t.r
theorem TyP.keep {w w' : World} {P P' : Nat → Prop} {v : Value} {t : Ty} (h : TyP w P v t) (hb : StaysP P w w') (hl : ∀ b, P b → P' b) : TyP w' P' v t := by
  obtain ⟨a, n, c, e, h⟩ := h
  exact ⟨a, n, c, e, h.keep hb hl⟩
theorem TyP.bnd {w : World} {P : Nat → Prop} {v : Value} {t : Ty} (h : TyP w P v t) : TyP w (fun b => P b ∧ b < w.heap.size) v t := by
  obtain ⟨a, n, c, e, h⟩ := h
  exact ⟨a, n, c, e, h.bnd⟩
theorem TyV.toP {w : World} {lo : Nat} {v : Value} {t : Ty} (h : TyV w lo v t) : TyP w (fun b => lo ≤ b) v t := h
section
variable {X : Exit → Act → World → Prop} {K : Act → World → Prop} {a0 : Act} {w : World} {dst : Option Tmp} {ty : TypeId} {pos : String} {af : Array Edge} {gd : Option (Nat × Bool)}
set_option maxRecDepth 100000 in
set_option maxHeartbeats 4000000 in
theorem op_bldP {k1 k2 k3 : Nat} {T n : ByteArray} {k i ai : Int} {a : Option Addr} {m c : Nat} (h1 : a0.tmps.getD k1 undef = .string T) (h2 : a0.tmps.getD k2 undef = .agg #[.int .i64 k, .string n, .slice a m c, .int .i64 i]) (h3 : a0.tmps.getD k3 undef = .int .i64 ai) (h : K (a0.put dst (.agg #[.string T, .int .i64 k, .string n, .slice a m c, .int .i64 i, .int .i64 ai])) w) : Oper.wp Tryz.prog ⟨dst, .build 81 #[(0, .tmp k1), (1, .tmp k2), (2, .tmp k3)], ty, pos, af, gd⟩ a0 w K X := by
  have e1 : a0.eval (.tmp k1) = .string T := h1
  have e2 : a0.eval (.tmp k2) = .agg #[.int .i64 k, .string n, .slice a m c, .int .i64 i] := h2
  have e3 : a0.eval (.tmp k3) = .int .i64 ai := h3
  unfold Oper.wp
  simp only [execOp, List.map_toArray, List.map_cons, List.map_nil, e1, e2, e3]
  go_simp
  exact h
set_option maxRecDepth 100000 in
set_option maxHeartbeats 4000000 in
theorem op_alP (h : K (a0.put dst (.pointer (some ⟨w.heap.size, 0, none⟩))) (w.alloc (.cells #[.string ⟨#[]⟩, .int .i64 0, .string ⟨#[]⟩, .slice none 0 0, .int .i64 0, .int .i64 0] 81))) : Oper.wp Tryz.prog ⟨dst, .alloc 81, ty, pos, af, gd⟩ a0 w K X := by
  unfold Oper.wp
  go_simp
  exact h
set_option maxRecDepth 100000 in
set_option maxHeartbeats 4000000 in
theorem op_stP {k1 k2 q : Nat} {T n : ByteArray} {k i ai : Int} {a : Option Addr} {m c : Nat} (h1 : a0.tmps.getD k1 undef = .pointer (some ⟨q, 0, none⟩)) (h2 : a0.tmps.getD k2 undef = .agg #[.string T, .int .i64 k, .string n, .slice a m c, .int .i64 i, .int .i64 ai]) (hz : w.heap[q]? = some (.cells #[.string ⟨#[]⟩, .int .i64 0, .string ⟨#[]⟩, .slice none 0 0, .int .i64 0, .int .i64 0] 81)) (h : K a0 (setN w q 0 [.string T, .int .i64 k, .string n, .slice a m c, .int .i64 i, .int .i64 ai])) : Oper.wp Tryz.prog ⟨none, .store 81 (.tmp k1) (.tmp k2), ty, pos, af, gd⟩ a0 w K X := by
  have e1 : a0.eval (.tmp k1) = .pointer (some ⟨q, 0, none⟩) := h1
  have e2 : a0.eval (.tmp k2) = .agg #[.string T, .int .i64 k, .string n, .slice a m c, .int .i64 i, .int .i64 ai] := h2
  have y0 := (blk hz).2.1 0 _ rfl
  have z0 := (blk hz).2.2 0
  have y1 := (blk hz).2.1 1 _ rfl
  have z1 := (blk hz).2.2 1
  have y2 := (blk hz).2.1 2 _ rfl
  have z2 := (blk hz).2.2 2
  have y3 := (blk hz).2.1 3 _ rfl
  have z3 := (blk hz).2.2 3
  have y4 := (blk hz).2.1 4 _ rfl
  have z4 := (blk hz).2.2 4
  have y5 := (blk hz).2.1 5 _ rfl
  have z5 := (blk hz).2.2 5
  have h9 : K a0 ((((((w.setCell ⟨q, 0, none⟩ (.string T)).setCell ⟨q, 1, none⟩ (.int .i64 k)).setCell ⟨q, 2, none⟩ (.string n)).setCell ⟨q, 3, none⟩ (.slice a m c)).setCell ⟨q, 4, none⟩ (.int .i64 i)).setCell ⟨q, 5, none⟩ (.int .i64 ai)) := h
  clear h
  unfold Oper.wp
  simp only [execOp, e1, e2]
  simp [go_sem, y0, y1, y2, y3, y4, y5, z0, z1, z2, z3, z4, z5]
  exact h9
end
/-- What typeOf has answered. -/
def cTy (W : World) (r : Nat) (ts : List (Int × ByteArray × Int)) (p d : Nat) (X : (Except (Int × Int) (Ty × Nat))) (P : Nat → Prop) (v : Value) (w : World) : Prop := ∃ t q, X = .ok (t, q) ∧ But r W w ∧ RD w r ts q d ∧ p ≤ q ∧ TyP w P v t
/-- How far the region has come. -/
def stP (W : World) (r : Nat) (ts : List (Int × ByteArray × Int)) (p d : Nat) (X : (Except (Int × Int) (Ty × Nat))) (T : ByteArray) (ai : Int) (L : Nat → Bool) (s : Nat → Value) (w : World) : Prop :=
  (L 6 = true → ∃ k n a m c i, s 3 = .agg #[.int .i64 k, .string n, .slice a m c, .int .i64 i] ∧ s 6 = .agg #[.string T, .int .i64 k, .string n, .slice a m c, .int .i64 i, .int .i64 ai]) ∧
  (L 8 = true → ∃ qb W2 k n a m c i, s 3 = .agg #[.int .i64 k, .string n, .slice a m c, .int .i64 i] ∧ s 7 = .pointer (some ⟨qb, 0, none⟩) ∧ W.heap.size ≤ qb ∧ W2.heap[qb]? = some (.cells #[.string ⟨#[]⟩, .int .i64 0, .string ⟨#[]⟩, .slice none 0 0, .int .i64 0, .int .i64 0] 81) ∧ cTy W r ts p d X (fun b => W.heap.size ≤ b ∧ b ≠ qb) (s 3) W2 ∧ w = setN W2 qb 0 [.string T, .int .i64 k, .string n, .slice a m c, .int .i64 i, .int .i64 ai]) ∧
  (L 8 = false → L 3 = false → L 7 = false → w = W.drew) ∧
  (L 8 = false → L 3 = false → L 7 = true → s 7 = .pointer (some ⟨W.heap.size, 0, none⟩) ∧ w = (W.drew.alloc (.cells #[.string ⟨#[]⟩, .int .i64 0, .string ⟨#[]⟩, .slice none 0 0, .int .i64 0, .int .i64 0] 81))) ∧
  (L 8 = false → L 3 = true → L 7 = false → cTy W r ts p d X (fun b => W.heap.size ≤ b) (s 3) w) ∧
  (L 8 = false → L 3 = true → L 7 = true → ∃ qb, s 7 = .pointer (some ⟨qb, 0, none⟩) ∧ W.heap.size ≤ qb ∧ w.heap[qb]? = some (.cells #[.string ⟨#[]⟩, .int .i64 0, .string ⟨#[]⟩, .slice none 0 0, .int .i64 0, .int .i64 0] 81) ∧ cTy W r ts p d X (fun b => W.heap.size ≤ b ∧ b ≠ qb) (s 3) w)
theorem cTy.at {W : World} {r : Nat} {ts : List (Int × ByteArray × Int)} {p d : Nat} {X : (Except (Int × Int) (Ty × Nat))} {P : Nat → Prop} {v : Value} {w : World} (h : cTy W r ts p d X P v w) {q : Nat} (hq : q < W.heap.size) (hr : r ≠ q) : w.heap[q]? = W.heap[q]? := by
  obtain ⟨t, z, -, hb, -⟩ := h
  exact hb.block q hq (Ne.symm hr)
theorem stP_at {W : World} {r : Nat} {ts : List (Int × ByteArray × Int)} {p d : Nat} {X : (Except (Int × Int) (Ty × Nat))} {T : ByteArray} {ai : Int} {L : Nat → Bool} {s : Nat → Value} {w : World} (h : stP W r ts p d X T ai L s w) {q : Nat} (hq : q < W.heap.size) (hr : r ≠ q) : w.heap[q]? = W.heap[q]? := by
  obtain ⟨-, h8, h1, h2, h3, h4⟩ := h
  have hA : Below W.heap.size W (W.drew.alloc (.cells #[.string ⟨#[]⟩, .int .i64 0, .string ⟨#[]⟩, .slice none 0 0, .int .i64 0, .int .i64 0] 81)) := ((Below.refl _ W).drew).alloc (Nat.le_refl _) _
  cases e8 : L 8 with
  | true =>
    obtain ⟨qb, W2, k, n, a, m, c, i, -, -, hqb, -, hc, rfl⟩ := h8 e8
    rw [heap_setN (by omega)]
    exact hc.at hq hr
  | false =>
    cases e3 : L 3 with
    | false =>
      cases e7 : L 7 with
      | false => rw [h1 e8 e3 e7]; rfl
      | true => rw [(h2 e8 e3 e7).2]; exact hA.block q hq
    | true =>
      cases e7 : L 7 with
      | false => exact (h3 e8 e3 e7).at hq hr
      | true =>
        obtain ⟨qb, -, -, -, hc⟩ := h4 e8 e3 e7
        exact hc.at hq hr
theorem enter_typeOf : Enters Tryz.prog 91 := ⟨fun xs w => by go_simp⟩
set_option maxRecDepth 100000 in
set_option maxHeartbeats 8000000 in
theorem param_r4 {Q : Exit → Act → World → Prop} {a0 : Act} {W : World} {r p d q3 : Nat} {ts : List (Int × ByteArray × Int)} {X : (Except (Int × Int) (Ty × Nat))} {kk ai : Int} {T : ByteArray} (hN : a0.tmps.size = 21) (h0 : a0.tmps[0]? = some (.pointer (some ⟨r, 0, none⟩))) (h3 : a0.tmps[3]? = some (.pointer (some ⟨q3, 0, none⟩)))
    (b3 : W.heap[q3]? = some (.cells #[.int .i64 kk, .string T, .int .i64 ai] 74)) (n1 : r ≠ q3) (hr : r < W.heap.size) (hC : ∀ W', Below W.heap.size W W' → Calls Tryz.prog 91 #[.pointer (some ⟨r, 0, none⟩)] W' (RP (fun w' v t => TyV w' W'.heap.size v t) X r ts p d W'))
    (herr : ∀ (a : Act) (w : World) (ei en : Int), X = .error (ei, en) → a.defers = a0.defers → But r W w → Q (.panic [{ v := .iface 89 (.agg #[.int .i64 ei, .int .i64 en]), recovered := false }]) a w)
    (hend : ∀ (a : Act) (W2 : World) (t : Ty) (q qb : Nat) (k : Int) (n : ByteArray) (ad : Option Addr) (m c : Nat) (i : Int), X = .ok (t, q) → a.defers = a0.defers → (∀ k, k ∈ ((List.range 21).filter fun i => !([11, 12, 13, 14, 15, 16, 17, 4].contains i)) → a.tmps[k]? = a0.tmps[k]?) → a.tmps[4]? = some (.pointer (some ⟨qb, 0, none⟩)) → a.tmps.size = 21 → W.heap.size ≤ qb → W2.heap[qb]? = some (.cells #[.string ⟨#[]⟩, .int .i64 0, .string ⟨#[]⟩, .slice none 0 0, .int .i64 0, .int .i64 0] 81) → But r W W2 → RD W2 r ts q d → p ≤ q → TyP W2 (fun b => W.heap.size ≤ b ∧ b ≠ qb) (.agg #[.int .i64 k, .string n, .slice ad m c, .int .i64 i]) t → Q .normal a (setN W2 qb 0 [.string T, .int .i64 k, .string n, .slice ad m c, .int .i64 i, .int .i64 ai])) :
    (Code.region 4 (regionOf Tryz.f105 4).toArray true).wp Tryz.prog Q a0 W := by
  have hl : (regionOf Tryz.f105 4).length = 9 := by kernel_rfl
  have hds : ((List.range 8).all fun i => ((regionOf Tryz.f105 4).getD i default).dst.isSome) = true := by kernel_rfl
  have hk3 : 3 ∈ ((List.range 21).filter fun i => !([11, 12, 13, 14, 15, 16, 17, 4].contains i)) := by decide
  have hk0 : 0 ∈ ((List.range 21).filter fun i => !([11, 12, 13, 14, 15, 16, 17, 4].contains i)) := by decide
  refine wp_region_any (by kernel_rfl) ?_
  refine seqP (l := (regionOf Tryz.f105 4)) 21 ((List.range 21).filter fun i => !([11, 12, 13, 14, 15, 16, 17, 4].contains i)) (fun j v => (j = 0 → v = .pointer (some ⟨q3, 1, none⟩)) ∧ (j = 1 → v = .string T) ∧ (j = 2 → v = .pointer (some ⟨r, 0, none⟩)) ∧ (j = 4 → v = .pointer (some ⟨q3, 2, none⟩)) ∧ (j = 5 → v = .int .i64 ai)) (fun j => j == 3 || j == 6 || j == 7 || j == 8) (stP W r ts p d X T ai) (by kernel_rfl) hN ?_ ?_ ?_ ?_ ?_ ?_ ?_
  · intro i hi
    rw [hl]
    simp at hi
    omega
  · refine ⟨fun h => ?_, fun h => ?_, fun _ _ _ => ?_, fun _ _ h => ?_, fun _ h => ?_, fun _ h => ?_⟩
    · cases h
    · cases h
    · rfl
    · cases h
    · cases h
    · cases h
  · intro L L' s s' w h hs
    have l3 := (h 3 (by decide)).1
    have l6 := (h 6 (by decide)).1
    have l7 := (h 7 (by decide)).1
    have l8 := (h 8 (by decide)).1
    have s3 := (h 3 (by decide)).2 (by kernel_rfl)
    have s6 := (h 6 (by decide)).2 (by kernel_rfl)
    have s7 := (h 7 (by decide)).2 (by kernel_rfl)
    unfold stP at hs ⊢
    rw [← l3, ← l6, ← l7, ← l8, ← s3, ← s6, ← s7]
    exact hs
  · intro i o ho hd
    have hi : i < 9 := by rw [← hl]; exact (List.getElem?_eq_some_iff.1 ho).1
    have he : (regionOf Tryz.f105 4).getD i default = o := by simp [List.getD, ho]
    rcases Nat.lt_or_ge i 8 with h | h
    · have := List.all_eq_true.1 hds i (List.mem_range.2 h)
      rw [he, hd] at this
      cases this
    · obtain rfl : i = 8 := by omega
      exact ⟨by decide, fun v => ⟨(fun h => absurd h (by decide)), (fun h => absurd h (by decide)), (fun h => absurd h (by decide)), (fun h => absurd h (by decide)), (fun h => absurd h (by decide))⟩⟩
  · intro i hi hni a w L hd hsz hk hp hs
    rw [hl] at hi
    have hii : i = 0 ∨ i = 1 ∨ i = 2 ∨ i = 4 ∨ i = 5 := by simp at hni; omega
    have ke3 : a.eval (.tmp 3) = .pointer (some ⟨q3, 0, none⟩) := getD_of ((hk 3 hk3).trans h3)
    have ke0 : a.eval (.tmp 0) = .pointer (some ⟨r, 0, none⟩) := getD_of ((hk 0 hk0).trans h0)
    have cc := (stP_at hs (blk b3).1 n1).trans b3
    rcases hii with rfl | rfl | rfl | rfl | rfl
    · exact st_want (wnone rfl) (op_fieldAddr ke3 (fa_tok q3 1 w (by omega)) ⟨_, rfl, rfl, ⟨fun _ => rfl, (fun h => absurd h (by decide)), (fun h => absurd h (by decide)), (fun h => absurd h (by decide)), (fun h => absurd h (by decide))⟩⟩)
    · have e1 : a.eval (.tmp 11) = .pointer (some ⟨q3, 1, none⟩) := (hp 0 (by kernel_rfl)).1 rfl
      exact st_want (wnone rfl) (op_load e1 (ld_str ((blk cc).2.1 1 _ rfl)) ⟨_, rfl, rfl, ⟨(fun h => absurd h (by decide)), fun _ => rfl, (fun h => absurd h (by decide)), (fun h => absurd h (by decide)), (fun h => absurd h (by decide))⟩⟩)
    · exact st_want (wnone rfl) (op_move ⟨_, rfl, rfl, ⟨(fun h => absurd h (by decide)), (fun h => absurd h (by decide)), fun _ => ke0, (fun h => absurd h (by decide)), (fun h => absurd h (by decide))⟩⟩)
    · exact st_want (wnone rfl) (op_fieldAddr ke3 (fa_tok q3 2 w (by omega)) ⟨_, rfl, rfl, ⟨(fun h => absurd h (by decide)), (fun h => absurd h (by decide)), (fun h => absurd h (by decide)), fun _ => rfl, (fun h => absurd h (by decide))⟩⟩)
    · have e1 : a.eval (.tmp 15) = .pointer (some ⟨q3, 2, none⟩) := (hp 4 (by kernel_rfl)).2.2.2.1 rfl
      exact st_want (wnone rfl) (op_load e1 (ld_int ((blk cc).2.1 2 _ rfl)) ⟨_, rfl, rfl, ⟨(fun h => absurd h (by decide)), (fun h => absurd h (by decide)), (fun h => absurd h (by decide)), (fun h => absurd h (by decide)), fun _ => rfl⟩⟩)
  · intro i hi a w L hd hsz hk hp hLi hdown hs
    have hi4 : i = 3 ∨ i = 6 ∨ i = 7 ∨ i = 8 := by simp at hi; omega
    obtain ⟨g6, g8, g1, g2, g3, g4⟩ := hs
    have dn : ∀ j k, j < 9 → L j = true → (preds ((regionOf Tryz.f105 4).getD j default)).contains k = true → L k = true := fun j k hj h1 h2 => hdown j (by rw [hl]; exact hj) h1 k h2
    rcases hi4 with rfl | rfl | rfl | rfl
    · have h8 : L 8 = false := by
        cases e : L 8 with
        | false => rfl
        | true => have := dn 8 3 (by omega) e (by kernel_rfl); rw [hLi] at this; cases this
      have h6 : L 6 = false := by
        cases e : L 6 with
        | false => rfl
        | true => have := dn 6 3 (by omega) e (by kernel_rfl); rw [hLi] at this; cases this
      have e1 : a.tmps.getD 13 undef = .pointer (some ⟨r, 0, none⟩) := (hp 2 (by kernel_rfl)).2.2.2.1 rfl
      have hargs : (#[Operand.tmp 13]).map a.eval = #[.pointer (some ⟨r, 0, none⟩)] := by
        simp only [List.map_toArray, List.map_cons, List.map_nil, Act.eval]
        rw [e1]
      have hB : Below W.heap.size W w := by
        cases e7 : L 7 with
        | false => rw [g1 h8 hLi e7]; exact (Below.refl _ W).drew
        | true => rw [(g2 h8 hLi e7).2]; exact ((Below.refl _ W).drew).alloc (Nat.le_refl _) _
      refine st_want (wnone rfl) (op_callP enter_typeOf ?_)
      rw [hargs]
      refine (hC w hB).mono ?_
      intro e w' h'
      rcases hX : X with er | ⟨t, q⟩
      · rw [hX] at h'
        obtain ⟨ei, en⟩ := er
        obtain ⟨hb, h'⟩ := h'
        obtain rfl : e = _ := h'
        exact .inr ⟨_, rfl, herr a w' ei en hX hd ((But.of hB).trans hb)⟩
      · rw [hX] at h'
        obtain ⟨hb, hle, hR, v, rfl, hv⟩ := h'
        refine .inl ⟨v, rfl, v, rfl, (fun _ => ⟨(fun h => absurd h (by decide)), (fun h => absurd h (by decide)), (fun h => absurd h (by decide)), (fun h => absurd h (by decide)), (fun h => absurd h (by decide))⟩), ?_⟩
        have hu : ∀ j, j ≠ 3 → upL L 3 j = L j := fun j h => upL_other h
        refine ⟨fun h => ?_, fun h => ?_, fun _ h => ?_, fun _ h => ?_, fun _ _ h => ?_, fun _ _ h => ?_⟩
        · rw [hu 6 (by decide), h6] at h; cases h
        · rw [hu 8 (by decide), h8] at h; cases h
        · rw [upL_same] at h; cases h
        · rw [upL_same] at h; cases h
        · rw [upS_same]
          exact ⟨t, q, by first | rfl | exact hX, (But.of hB).trans hb, hR, hle, hv.toP.keep ⟨Nat.le_refl _, fun _ _ _ => rfl⟩ fun b h => Nat.le_trans hB.size h⟩
        · rw [hu 7 (by decide)] at h
          obtain ⟨h1, h2⟩ := g2 h8 hLi h
          have hsz2 : w.heap.size = W.heap.size + 1 := by rw [h2]; simp
          refine ⟨W.heap.size, by rw [upS_other (by decide)]; exact h1, Nat.le_refl _, ?_, ?_⟩
          · refine (hb.block _ (by omega) (by omega)).trans ?_
            rw [h2]
            exact (MapKept.heap_alloc W.drew _).1
          · rw [upS_same]
            exact ⟨t, q, by first | rfl | exact hX, (But.of hB).trans hb, hR, hle, hv.toP.keep ⟨Nat.le_refl _, fun _ _ _ => rfl⟩ fun b h => ⟨by omega, by omega⟩⟩
    · have h3' := (hp 3 (by kernel_rfl)).1
      have h8 : L 8 = false := by
        cases e : L 8 with
        | false => rfl
        | true => have := dn 8 6 (by omega) e (by kernel_rfl); rw [hLi] at this; cases this
      have e1 : a.tmps.getD 12 undef = .string T := (hp 1 (by kernel_rfl)).2.2.1 rfl
      have e3 : a.tmps.getD 16 undef = .int .i64 ai := (hp 5 (by kernel_rfl)).2.2.2.2.2 rfl
      have hty : ∃ k n ad m c i, slotOf (regionOf Tryz.f105 4).toArray a 3 = .agg #[.int .i64 k, .string n, .slice ad m c, .int .i64 i] := by
        cases e7 : L 7 with
        | false =>
          obtain ⟨t, q, -, -, -, -, ad, m, c, e, -⟩ := g3 h8 h3' e7
          exact ⟨_, _, _, _, _, _, e⟩
        | true =>
          obtain ⟨qb, -, -, -, t, q, -, -, -, -, ad, m, c, e, -⟩ := g4 h8 h3' e7
          exact ⟨_, _, _, _, _, _, e⟩
      obtain ⟨k, n, ad, m, c, i, e2⟩ := hty
      have e2' : a.tmps.getD 14 undef = .agg #[.int .i64 k, .string n, .slice ad m c, .int .i64 i] := e2
      refine st_want (wnone rfl) (op_bldP e1 e2' e3 ⟨_, rfl, (fun _ => ⟨(fun h => absurd h (by decide)), (fun h => absurd h (by decide)), (fun h => absurd h (by decide)), (fun h => absurd h (by decide)), (fun h => absurd h (by decide))⟩), ?_⟩)
      have hu : ∀ j, j ≠ 6 → upL L 6 j = L j := fun j h => upL_other h
      refine ⟨fun _ => ⟨k, n, ad, m, c, i, by rw [upS_other (by decide)]; exact e2, upS_same _ _ _⟩, ?_⟩
      rw [hu 8 (by decide), hu 3 (by decide), hu 7 (by decide), upS_other (by decide), upS_other (by decide)]
      exact ⟨g8, g1, g2, g3, g4⟩
    · have h8 : L 8 = false := by
        cases e : L 8 with
        | false => rfl
        | true => have := dn 8 7 (by omega) e (by kernel_rfl); rw [hLi] at this; cases this
      refine st_want (wnone rfl) (op_alP ⟨_, rfl, (fun _ => ⟨(fun h => absurd h (by decide)), (fun h => absurd h (by decide)), (fun h => absurd h (by decide)), (fun h => absurd h (by decide)), (fun h => absurd h (by decide))⟩), ?_⟩)
      have hu : ∀ j, j ≠ 7 → upL L 7 j = L j := fun j h => upL_other h
      refine ⟨fun h => ?_, fun h => ?_, fun _ _ h => ?_, fun _ h _ => ?_, fun _ _ h => ?_, fun _ h _ => ?_⟩
      · rw [hu 6 (by decide)] at h
        rw [upS_other (by decide), upS_other (by decide)]
        exact g6 h
      · rw [hu 8 (by decide), h8] at h; cases h
      · rw [upL_same] at h; cases h
      · rw [hu 3 (by decide)] at h
        have hw := g1 h8 h hLi
        rw [upS_same, hw]
        exact ⟨rfl, rfl⟩
      · rw [upL_same] at h; cases h
      · rw [hu 3 (by decide)] at h
        obtain ⟨t, q, hX, hb, hR, hle, hv⟩ := g3 h8 h hLi
        have hB : Below w.heap.size w (w.alloc (.cells #[.string ⟨#[]⟩, .int .i64 0, .string ⟨#[]⟩, .slice none 0 0, .int .i64 0, .int .i64 0] 81)) := (Below.refl _ w).alloc (Nat.le_refl _) _
        rw [upS_same, upS_other (by decide)]
        exact ⟨w.heap.size, rfl, hb.size, (MapKept.heap_alloc w _).1, t, q, hX, hb.trans (But.of hB), hR.keep hB, hle, hv.bnd.keep ⟨hB.size, fun k hk hs => hB.block k hs⟩ fun b h => ⟨h.1, by have := h.2; omega⟩⟩
    · have h3' := (hp 3 (by kernel_rfl)).1
      have h7' := (hp 7 (by kernel_rfl)).1
      have h6' := (hp 6 (by kernel_rfl)).1
      obtain ⟨k, n, ad, m, c, i, e2, e6⟩ := g6 h6'
      obtain ⟨qb, e7, hqb, hz, hc⟩ := g4 hLi h3' h7'
      have e7' : a.tmps.getD 4 undef = .pointer (some ⟨qb, 0, none⟩) := e7
      have e6' : a.tmps.getD 17 undef = .agg #[.string T, .int .i64 k, .string n, .slice ad m c, .int .i64 i, .int .i64 ai] := e6
      refine st_want (wnone rfl) (op_stP e7' e6' hz ⟨undef, rfl, (fun h => absurd (show false = true from h) (by decide)), ?_⟩)
      have hu : ∀ j, j ≠ 8 → upL L 8 j = L j := fun j h => upL_other h
      refine ⟨fun _ => ?_, fun _ => ?_, fun h => ?_, fun h => ?_, fun h => ?_, fun h => ?_⟩
      · rw [upS_other (by decide), upS_other (by decide)]
        exact ⟨k, n, ad, m, c, i, e2, e6⟩
      · rw [upS_other (by decide), upS_other (by decide)]
        exact ⟨qb, w, k, n, ad, m, c, i, e2, e7, hqb, hz, hc, rfl⟩
      · rw [upL_same] at h; cases h
      · rw [upL_same] at h; cases h
      · rw [upL_same] at h; cases h
      · rw [upL_same] at h; cases h
  · intro a w hd hsz hk hp hs
    obtain ⟨qb, W2, k, n, ad, m, c, i, e2, e7, hqb, hz, ⟨t, q, hX, hb, hR, hle, hv⟩, rfl⟩ := hs.2.1 rfl
    have e7' : a.tmps.getD 4 undef = .pointer (some ⟨qb, 0, none⟩) := e7
    have hk4 : a.tmps[4]? = some (.pointer (some ⟨qb, 0, none⟩)) := by
      have h1 : 4 < a.tmps.size := by omega
      rw [Array.getD_eq_getD_getElem?, Array.getElem?_eq_getElem h1] at e7'
      rw [Array.getElem?_eq_getElem h1]
      exact congrArg some e7'
    rw [e2] at hv
    exact hend a W2 t q qb k n ad m c i hX hd hk hk4 hsz hqb hz hb hR hle hv
end Go.Proofs.YtfkfnbehdcmgeaaGreatDoor

namespace Go.Proofs.YtfkfnbehdcmgeaaGreatDoor
open Go Go.RowKit
theorem keep0h (w : World) : Below w.heap.size w w.drew := (Below.refl _ w).drew
theorem keepCh {W v v1 : World} {X : Prop} (h : Below W.heap.size W v ∧ X) (h1 : Below v.heap.size v v1) : Below W.heap.size W v1 := h.1.trans (h1.mono h.1.size)
set_option maxRecDepth 100000 in
set_option maxHeartbeats 8000000 in
theorem sml_nil (w : World) (a1 a2 : Option Addr) (c1 c2 : Nat) : Calls Tryz.prog 34 #[.slice a1 0 c1, .slice a2 0 c2] w (VP (.bool true) w) := by
  unfold VP
  go_enter Tryz.func34, Tryz.ntmps34
  go_wp2_with fail
  go_loopw [5] (fun iv wr => iv = .int .i64 (0 : Nat) ∧ Below w.heap.size w wr) (fun iv _ => 0)
  case atStart => exact ⟨rfl, Below.refl _ _⟩
  case round =>
    obtain ⟨rfl, hb⟩ := hrel
    have HB := hide hb
    clear hb
    go_wp2
    go_ret
    exact ⟨rfl, unhide HB⟩
set_option maxRecDepth 100000 in
set_option maxHeartbeats 8000000 in
theorem sml_of {h : Nat} (hE : SmE h) : SmL (h + 1) := by
  intro w va vb l P P' ha hb
  obtain ⟨a1, c1, rfl, hra⟩ := ha
  obtain ⟨a2, c2, rfl, hrb⟩ := hb
  have hla : LsV w P (h + 1) (.slice a1 l.length c1) l := ⟨a1, c1, rfl, hra⟩
  have hlb : LsV w P' (h + 1) (.slice a2 l.length c2) l := ⟨a2, c2, rfl, hrb⟩
  have hlen := hra.2.1
  obtain ⟨n, hn⟩ : ∃ n, l.length = n := ⟨_, rfl⟩
  rw [hn] at hla hlb hlen ⊢
  by_cases h0 : n = 0
  · subst h0
    exact sml_nil w a1 a2 c1 c2
  obtain ⟨t0, ht0⟩ : ∃ t, l[0]? = some t := ⟨_, List.getElem?_eq_getElem (by omega)⟩
  obtain ⟨-, hc1, b1, o1, -, rfl, hb1, -, -⟩ := hla.at ht0
  obtain ⟨-, hc2, b2, o2, -, rfl, hb2, -, -⟩ := hlb.at ht0
  have g4 : (n : Int) ≤ 281474976710656 := by omega
  have HL := hide (And.intro hla (And.intro hlb (And.intro hE (And.intro hb1 hb2))))
  have HN := hide hn
  unfold VP
  clear hra hrb hla hlb hlen h0 ht0 hE hn hb1 hb2
  go_enter Tryz.func34, Tryz.ntmps34
  go_wp2_with fail
  go_loopw [5] (fun iv wr => ∃ j : Nat, j ≤ n ∧ iv = .int .i64 j ∧ Hid (Below w.heap.size w wr)) (fun iv _ => n - (intOf iv).toNat)
  case atStart => exact ⟨0, Nat.zero_le _, rfl, Below.refl _ _⟩
  case round =>
    obtain ⟨j, hj, rfl, HB⟩ := hrel
    by_cases hjn : j < n
    · obtain ⟨t, ht⟩ : ∃ t, l[j]? = some t := ⟨_, List.getElem?_eq_getElem (by rw [unhide HN]; exact hjn)⟩
      obtain ⟨hla, hlb, hE, hb1, hb2⟩ := unhide HL
      obtain ⟨-, -, b1', o1', x4, e1, -, hr1, he1⟩ := hla.at ht
      obtain ⟨-, -, b2', o2', x5, e2, -, hr2, he2⟩ := hlb.at ht
      obtain ⟨rfl, rfl⟩ : b1 = b1' ∧ o1 = o1' := by simpa using e1
      obtain ⟨rfl, rfl⟩ : b2 = b2' ∧ o2 = o2' := by simpa using e2
      have hbw := unhide HB
      have hw1 : b1 < wr.heap.size := Nat.lt_of_lt_of_le hb1 hbw.size
      have hw2 : b2 < wr.heap.size := Nat.lt_of_lt_of_le hb2 hbw.size
      have hq1 := range_same hr1 (hbw.block _ hb1)
      have hq2 := range_same hr2 (hbw.block _ hb2)
      have HCa : Hid (∀ W, Below wr.heap.size wr W → Calls Tryz.prog 19 #[.agg #[.int .i64 t.op, .string t.name, .string t.num, .bool t.b, x4, .int .i64 0, .int .i64 t.at'], .agg #[.int .i64 t.op, .string t.name, .string t.num, .bool t.b, x5, .int .i64 0, .int .i64 t.at']] W (VP (.bool true) W)) := fun W hW => hE W _ _ t P P' (he1.keep (hbw.trans (hW.mono hbw.size))) (he2.keep (hbw.trans (hW.mono hbw.size)))
      obtain ⟨a4, n4, c4, rfl⟩ : ∃ a n c, x4 = .slice a n c := by
        obtain ⟨y, e, a, c, rfl, -⟩ := he1.ls
        exact ⟨a, _, c, by simpa using e⟩
      obtain ⟨a5, n5, c5, rfl⟩ : ∃ a n c, x5 = .slice a n c := by
        obtain ⟨y, e, a, c, rfl, -⟩ := he2.ls
        exact ⟨a, _, c, by simpa using e⟩
      have HSS : Hid (∀ w', Below wr.heap.size wr w' → (Below wr.heap.size wr w' ∧ (w'.cell? ⟨b1, o1 + j * 7, none⟩ = some (.int .i64 t.op) ∧ w'.cell? ⟨b1, o1 + j * 7 + 1, none⟩ = some (.string t.name) ∧ w'.cell? ⟨b1, o1 + j * 7 + 2, none⟩ = some (.string t.num) ∧ w'.cell? ⟨b1, o1 + j * 7 + 3, none⟩ = some (.bool t.b) ∧ w'.cell? ⟨b1, o1 + j * 7 + 4, none⟩ = some (.slice a4 n4 c4) ∧ w'.cell? ⟨b1, o1 + j * 7 + 5, none⟩ = some (.int .i64 0) ∧ w'.cell? ⟨b1, o1 + j * 7 + 6, none⟩ = some (.int .i64 t.at')) ∧ (w'.cell? ⟨b2, o2 + j * 7, none⟩ = some (.int .i64 t.op) ∧ w'.cell? ⟨b2, o2 + j * 7 + 1, none⟩ = some (.string t.name) ∧ w'.cell? ⟨b2, o2 + j * 7 + 2, none⟩ = some (.string t.num) ∧ w'.cell? ⟨b2, o2 + j * 7 + 3, none⟩ = some (.bool t.b) ∧ w'.cell? ⟨b2, o2 + j * 7 + 4, none⟩ = some (.slice a5 n5 c5) ∧ w'.cell? ⟨b2, o2 + j * 7 + 5, none⟩ = some (.int .i64 0) ∧ w'.cell? ⟨b2, o2 + j * 7 + 6, none⟩ = some (.int .i64 t.at')))) := fun w' hW => ⟨hW, ⟨(hW.cell (p := ⟨b1, o1 + j * 7, none⟩) hw1).trans (hq1 0 _ rfl), (hW.cell (p := ⟨b1, o1 + j * 7 + 1, none⟩) hw1).trans (hq1 1 _ rfl), (hW.cell (p := ⟨b1, o1 + j * 7 + 2, none⟩) hw1).trans (hq1 2 _ rfl), (hW.cell (p := ⟨b1, o1 + j * 7 + 3, none⟩) hw1).trans (hq1 3 _ rfl), (hW.cell (p := ⟨b1, o1 + j * 7 + 4, none⟩) hw1).trans (hq1 4 _ rfl), (hW.cell (p := ⟨b1, o1 + j * 7 + 5, none⟩) hw1).trans (hq1 5 _ rfl), (hW.cell (p := ⟨b1, o1 + j * 7 + 6, none⟩) hw1).trans (hq1 6 _ rfl)⟩, (hW.cell (p := ⟨b2, o2 + j * 7, none⟩) hw2).trans (hq2 0 _ rfl), (hW.cell (p := ⟨b2, o2 + j * 7 + 1, none⟩) hw2).trans (hq2 1 _ rfl), (hW.cell (p := ⟨b2, o2 + j * 7 + 2, none⟩) hw2).trans (hq2 2 _ rfl), (hW.cell (p := ⟨b2, o2 + j * 7 + 3, none⟩) hw2).trans (hq2 3 _ rfl), (hW.cell (p := ⟨b2, o2 + j * 7 + 4, none⟩) hw2).trans (hq2 4 _ rfl), (hW.cell (p := ⟨b2, o2 + j * 7 + 5, none⟩) hw2).trans (hq2 5 _ rfl), (hW.cell (p := ⟨b2, o2 + j * 7 + 6, none⟩) hw2).trans (hq2 6 _ rfl)⟩
      have g1 : (j : Int) < (n : Int) := by omega
      have g3 : (0 : Int) ≤ (j : Int) := by omega
      have hst := unhide HSS wr (Below.refl _ _)
      unfold VP at HCa
      clear hla hlb hE hb1 hb2 e1 e2 hr1 hr2 he1 he2 hbw hw1 hw2 hq1 hq2 ht
      go_wp2_with fail
      go_region_held3 (fun w' => Below wr.heap.size wr w' ∧ (w'.cell? ⟨b1, o1 + j * 7, none⟩ = some (.int .i64 t.op) ∧ w'.cell? ⟨b1, o1 + j * 7 + 1, none⟩ = some (.string t.name) ∧ w'.cell? ⟨b1, o1 + j * 7 + 2, none⟩ = some (.string t.num) ∧ w'.cell? ⟨b1, o1 + j * 7 + 3, none⟩ = some (.bool t.b) ∧ w'.cell? ⟨b1, o1 + j * 7 + 4, none⟩ = some (.slice a4 n4 c4) ∧ w'.cell? ⟨b1, o1 + j * 7 + 5, none⟩ = some (.int .i64 0) ∧ w'.cell? ⟨b1, o1 + j * 7 + 6, none⟩ = some (.int .i64 t.at')) ∧ (w'.cell? ⟨b2, o2 + j * 7, none⟩ = some (.int .i64 t.op) ∧ w'.cell? ⟨b2, o2 + j * 7 + 1, none⟩ = some (.string t.name) ∧ w'.cell? ⟨b2, o2 + j * 7 + 2, none⟩ = some (.string t.num) ∧ w'.cell? ⟨b2, o2 + j * 7 + 3, none⟩ = some (.bool t.b) ∧ w'.cell? ⟨b2, o2 + j * 7 + 4, none⟩ = some (.slice a5 n5 c5) ∧ w'.cell? ⟨b2, o2 + j * 7 + 5, none⟩ = some (.int .i64 0) ∧ w'.cell? ⟨b2, o2 + j * 7 + 6, none⟩ = some (.int .i64 t.at'))) (first | assumption | exact unhide HSS _ hT1 | exact unhide HSS _ (by assumption) | exact unhide HSS _ (keep0h _) | exact unhide HSS _ (keepCh (by assumption) (by assumption))) (first
        | (go_at_call 19; refine (unhide HCa _ (And.left (by assumption))).mono ?_; rintro e v1 ⟨rfl, hv1⟩; have hT1 : Below wr.heap.size wr v1 := keepCh (by assumption) hv1)
        | (go_at_call 19; refine (unhide HCa _ (keep0h _)).mono ?_; rintro e v1 ⟨rfl, hv1⟩; have hT1 : Below wr.heap.size wr v1 := (keep0h _).trans (hv1.mono (keep0h _).size)))
      all_goals
        have HT1 := hide hT1
        clear hT1
        go_wp2
        exact ⟨⟨j + 1, by omega, by simp, (unhide HB).trans ((unhide HT1).mono (unhide HB).size)⟩, by simp [intOf]; omega⟩
    · have gi : decide ((j : Int) < (n : Int)) = false := by simp; omega
      have g1 : ¬ ((j : Int) < (n : Int)) := by omega
      obtain rfl : j = n := by omega
      clear hj hjn
      go_wp2
      go_ret
      exact ⟨rfl, unhide HB⟩
theorem sm_all : ∀ h, SmL h
  | 0 => fun w va vb l P P' ha hb => by
    obtain rfl := ha.nil
    obtain ⟨a1, c1, rfl, -⟩ := ha
    obtain ⟨a2, c2, rfl, -⟩ := hb
    exact sml_nil w a1 a2 c1 c2
  | h + 1 => sml_of (sme_of (sm_all h))
/-- Two values of one tree. -/
theorem help_same {w : World} {va vb : Value} {t : Ex} {P P' : Nat → Prop} (ha : IsEP w P va t) (hb : IsEP w P' vb t) : Calls Tryz.prog 19 #[va, vb] w (VP (.bool true) w) := by
  obtain ⟨h, ha⟩ := ha.exv
  obtain ⟨k, hb⟩ := hb.exv
  exact sme_of (sm_all (max h k)) w va vb t P P' (ha.up (Nat.le_max_left _ _)) (hb.up (Nat.le_max_right _ _))
end Go.Proofs.YtfkfnbehdcmgeaaGreatDoor
