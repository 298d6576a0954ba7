/- A drawn region whose world-changing operations come one behind the other, stage by stage. -/
import Derived.Test.YtfkfnbehdcmgeaaGreatDoorZAE
set_option linter.unusedVariables false
set_option linter.unusedSimpArgs false

/- Package parse: a sequence. -/
namespace Go.Proofs.YtfkfnbehdcmgeaaGreatDoor
open Go Go.RowKit
set_option maxRecDepth 100000 in
set_option maxHeartbeats 8000000 in
theorem sequence_of {r d lo : Nat} {ts : List (Int × ByteArray × Int)} {g : Ru → Nat → Nat → (Except (Int × Int) (Ex × Nat))} (hT : TsOk ts) (hP : RuC 112 r ts d lo (partR ts g d)) (hE : RuC 59 r ts d (lo + 1) (g .rE d)) {w : World} {p : Nat} (hlo : lo ≤ p) (hR : RD w r ts p d) : Calls Tryz.prog 98 #[.pointer (some ⟨r, 0, none⟩)] w (PE (seqR ts g d p) r ts p d w) := by
  obtain ⟨Y, hY⟩ : ∃ Y, seqR ts g d p = Y := ⟨_, rfl⟩
  rw [hY]
  unfold seqR at hY
  have hr := hR.rlt
  obtain ⟨A, eA, hbA, hzA, hsA⟩ := zb_new w
  have HB := hide (But.of (r := r) hbA)
  have HR := hide (hR.keep hbA)
  have HZ := hide hzA
  have HS : Hid (w.heap.size < A.heap.size) := by show _ < _; omega
  have HL : Hid (p ≤ p ∧ lo ≤ p) := ⟨Nat.le_refl _, hlo⟩
  have HSA := hide hsA
  have HE := hide eA
  have HT := hide hT
  have HY := hide hY
  have hrne : r ≠ w.heap.size := by omega
  have hmf : ∀ (fn : Fn) (first cap : Array Value) (w : World), (Instr.makeFunc fn first cap).run Tryz.prog w = .ok (.func fn first cap) w := fun _ _ _ _ => rfl
  replace hP := hide hP
  replace hE := hide hE
  clear hlo hR hbA hzA hsA eA hT hY
  go_enter Tryz.func98, Tryz.ntmps98
  have HC0 := hide (unhide hP A (p) (unhide HL).2 (unhide HR))
  go_wp2_with fail
  rw [unhide HE]
  refine (unhide HC0).mono ?_
  intro e w0 h0
  rcases hX0 : partR ts g d (p) with er | ⟨t0, q0⟩
  · rw [hX0] at h0
    obtain ⟨ei, en⟩ := er
    have hYe : Y = .error (ei, en) := by have h := unhide HY; rw [hX0] at h; exact h.symm
    subst hYe
    obtain ⟨hb0, h0⟩ := h0
    obtain rfl : e = _ := h0
    have HP := hide ((unhide HB).trans hb0)
    clear hb0 HC0 hX0
    go_wp2
    exact ⟨rfl, unhide HP, rfl⟩
  rw [hX0] at h0
  obtain ⟨hb0, hle0, hR0, v0, rfl, hv0⟩ := h0
  have hY0 := unhide HY
  rw [hX0] at hY0
  simp only [thenR] at hY0
  replace HY := hide hY0
  clear hY0
  obtain ⟨i0, j0, s0, m0, b0, a0, n0, c0, rfl⟩ := hv0.form
  have HT0 := hide (hv0.keep (lo' := w.heap.size + 1) (Stays.of (Below.refl _ _)) (unhide HS))
  replace HB := hide ((unhide HB).trans hb0)
  replace HZ := hide ((unhide HZ).but hb0 hrne)
  replace HS := hide (Nat.lt_of_lt_of_le (unhide HS) hb0.size)
  replace HR := hide hR0
  replace HL := hide (And.intro (Nat.le_trans (unhide HL).1 hle0) (Nat.le_trans (unhide HL).2 hle0))
  clear hb0 hle0 hR0 hv0 HC0 hX0
  obtain ⟨B1, eB1, hbB1, hsB1, hhB1⟩ := box_new w0 #[.int .i64 i0, .string s0, .string m0, .bool b0, .slice a0 n0 c0, .int .i64 0, .int .i64 j0] 36
  have ne1 : r ≠ w0.heap.size := by have := unhide HS; omega
  have HQHX1 := HS
  have hbu2 := But.of (r := r) hbB1
  replace HR := hide ((unhide HR).keep hbB1)
  replace HB := hide ((unhide HB).trans hbu2)
  replace HZ := hide ((unhide HZ).but hbu2 hrne)
  replace HT0 := hide ((unhide HT0).keep (Stays.but hbu2 (Nat.lt_succ_of_lt hr)) (Nat.le_refl _))
  replace HS := hide (Nat.lt_of_lt_of_le (unhide HS) hbu2.size)
  have HX1 := hide hhB1
  have HEB1 := hide eB1
  have HSB1 := hide hsB1
  clear eB1 hbB1 hhB1 hsB1
  have HC3 := hide (sees_any (unhide HR) (unhide HT) ⟨#[59]⟩)
  obtain ⟨bo3, hbo3⟩ : ∃ b, sees ts (q0) ⟨#[59]⟩ = b := ⟨_, rfl⟩
  rw [hbo3] at HC3
  have hY3 := unhide HY
  rw [hbo3] at hY3
  replace HY := hide hY3
  have HO3 := hide hbo3
  clear hY3 hbo3
  go_wp2_with fail
  rw [unhide HEB1]
  refine (unhide HC3).mono ?_
  rintro e w3 ⟨rfl, hb3⟩
  have hbu4 := But.of (r := r) hb3
  replace HR := hide ((unhide HR).keep hb3)
  replace HB := hide ((unhide HB).trans hbu4)
  replace HZ := hide ((unhide HZ).but hbu4 hrne)
  replace HX1 := hide ((hbu4.block _ (blk (unhide HX1)).1 (Ne.symm ne1)).trans (unhide HX1))
  replace HT0 := hide ((unhide HT0).keep (Stays.but hbu4 (Nat.lt_succ_of_lt hr)) (Nat.le_refl _))
  replace HS := hide (Nat.lt_of_lt_of_le (unhide HS) hbu4.size)
  clear hb3 HC3
  rcases bo3 with _ | _
  · have hY3 := unhide HY
    simp only [Bool.false_eq_true, if_false] at hY3
    replace HY := hide hY3
    clear hY3
    obtain ⟨y01, y11, y21, y31, y41, y51, y61⟩ := blk7 (unhide HX1)
    obtain ⟨y0, y1, y2, y3, y4, y5, y6⟩ := blk7 (unhide HZ)
    obtain ⟨z0, z1, z2, z3, z4, z5, z6⟩ := frz7 (unhide HZ)
    have HNode := hide (unhide HT0)
    go_wp2
    exact ret_put rfl rfl rfl (unhide HB) hr (unhide HZ) (by have h := unhide HY; exact h.symm) (unhide HL).1 (unhide HR) (Nat.lt_succ_self _) (unhide HNode)
  have hY3 := unhide HY
  simp only [if_true] at hY3
  replace HY := hide hY3
  clear hY3
  have HC5 := hide (take_any (unhide HR) (unhide HT) (nx_txt (unhide HT) (unhide HR).lt (by rw [sees_txt (unhide HO3)]; decide)))
  unfold tkV at HC5
  obtain ⟨⟨kk5, T5, at5⟩, hN5⟩ : ∃ X, nx ts q0 = X := ⟨_, rfl⟩
  rw [hN5] at HC5
  have HN5 := hide hN5
  clear hN5
  go_wp2_with fail
  refine (unhide HC5).mono ?_
  rintro e w5 ⟨rfl, hb5, hR5⟩
  replace HB := hide ((unhide HB).trans hb5)
  replace HZ := hide ((unhide HZ).but hb5 hrne)
  replace HX1 := hide ((hb5.block _ (blk (unhide HX1)).1 (Ne.symm ne1)).trans (unhide HX1))
  replace HT0 := hide ((unhide HT0).keep (Stays.but hb5 (Nat.lt_succ_of_lt hr)) (Nat.le_refl _))
  replace HS := hide (Nat.lt_of_lt_of_le (unhide HS) hb5.size)
  replace HR := hide hR5
  replace HL : Hid (p ≤ q0 + 1 ∧ lo + 1 ≤ q0 + 1) := And.intro (Nat.le_succ_of_le (unhide HL).1) (Nat.succ_le_succ (unhide HL).2)
  clear hb5 hR5 HC5
  obtain ⟨B6, eB6, hbB6, hsB6, hhB6⟩ := box_new w5 #[.int .i64 kk5, .string T5, .int .i64 at5] 74
  have ne6 : r ≠ w5.heap.size := by have := unhide HS; omega
  have HQHX6 := HS
  have hbu7 := But.of (r := r) hbB6
  replace HR := hide ((unhide HR).keep hbB6)
  replace HB := hide ((unhide HB).trans hbu7)
  replace HZ := hide ((unhide HZ).but hbu7 hrne)
  replace HX1 := hide ((hbu7.block _ (blk (unhide HX1)).1 (Ne.symm ne1)).trans (unhide HX1))
  replace HT0 := hide ((unhide HT0).keep (Stays.but hbu7 (Nat.lt_succ_of_lt hr)) (Nat.le_refl _))
  replace HS := hide (Nat.lt_of_lt_of_le (unhide HS) hbu7.size)
  have HX6 := hide hhB6
  have HEB6 := hide eB6
  have HSB6 := hide hsB6
  clear eB6 hbB6 hhB6 hsB6
  have HC8 := hide (unhide hE B6 (q0 + 1) (unhide HL).2 (unhide HR))
  go_wp2_with fail
  rw [unhide HEB6]
  refine (unhide HC8).mono ?_
  intro e w8 h8
  rcases hX8 : g .rE d (q0 + 1) with er | ⟨t8, q8⟩
  · rw [hX8] at h8
    obtain ⟨ei, en⟩ := er
    have hYe : Y = .error (ei, en) := by have h := unhide HY; rw [hX8] at h; exact h.symm
    subst hYe
    obtain ⟨hb8, h8⟩ := h8
    obtain rfl : e = _ := h8
    have HP := hide ((unhide HB).trans hb8)
    clear hb8 HC8 hX8
    go_wp2
    exact ⟨rfl, unhide HP, rfl⟩
  rw [hX8] at h8
  obtain ⟨hb8, hle8, hR8, v8, rfl, hv8⟩ := h8
  have hY8 := unhide HY
  rw [hX8] at hY8
  simp only [thenR] at hY8
  replace HY := hide hY8
  clear hY8
  obtain ⟨i8, j8, s8, m8, b8, a8, n8, c8, rfl⟩ := hv8.form
  have HT8 := hide (hv8.keep (lo' := w.heap.size + 1) (Stays.of (Below.refl _ _)) (unhide HS))
  replace HB := hide ((unhide HB).trans hb8)
  replace HZ := hide ((unhide HZ).but hb8 hrne)
  replace HX1 := hide ((hb8.block _ (blk (unhide HX1)).1 (Ne.symm ne1)).trans (unhide HX1))
  replace HX6 := hide ((hb8.block _ (blk (unhide HX6)).1 (Ne.symm ne6)).trans (unhide HX6))
  replace HT0 := hide ((unhide HT0).keep (Stays.but hb8 (Nat.lt_succ_of_lt hr)) (Nat.le_refl _))
  replace HS := hide (Nat.lt_of_lt_of_le (unhide HS) hb8.size)
  replace HR := hide hR8
  replace HL := hide (And.intro (Nat.le_trans (unhide HL).1 hle8) (Nat.le_trans (unhide HL).2 hle8))
  clear hb8 hle8 hR8 hv8 HC8 hX8
  obtain ⟨B9, eB9, hbB9, hsB9, hhB9⟩ := box_new w8 #[.int .i64 i8, .string s8, .string m8, .bool b8, .slice a8 n8 c8, .int .i64 0, .int .i64 j8] 36
  have ne9 : r ≠ w8.heap.size := by have := unhide HS; omega
  have HQHX9 := HS
  have hbu10 := But.of (r := r) hbB9
  replace HR := hide ((unhide HR).keep hbB9)
  replace HB := hide ((unhide HB).trans hbu10)
  replace HZ := hide ((unhide HZ).but hbu10 hrne)
  replace HX1 := hide ((hbu10.block _ (blk (unhide HX1)).1 (Ne.symm ne1)).trans (unhide HX1))
  replace HX6 := hide ((hbu10.block _ (blk (unhide HX6)).1 (Ne.symm ne6)).trans (unhide HX6))
  replace HT0 := hide ((unhide HT0).keep (Stays.but hbu10 (Nat.lt_succ_of_lt hr)) (Nat.le_refl _))
  replace HT8 := hide ((unhide HT8).keep (Stays.but hbu10 (Nat.lt_succ_of_lt hr)) (Nat.le_refl _))
  replace HS := hide (Nat.lt_of_lt_of_le (unhide HS) hbu10.size)
  have HX9 := hide hhB9
  have HEB9 := hide eB9
  have HSB9 := hide hsB9
  clear eB9 hbB9 hhB9 hsB9
  have u06 := (blk (unhide HX6)).2.1 0 _ rfl
  have u16 := (blk (unhide HX6)).2.1 1 _ rfl
  have u26 := (blk (unhide HX6)).2.1 2 _ rfl
  obtain ⟨y01, y11, y21, y31, y41, y51, y61⟩ := blk7 (unhide HX1)
  obtain ⟨y09, y19, y29, y39, y49, y59, y69⟩ := blk7 (unhide HX9)
  rw [← unhide HEB9] at u06 u16 u26 y01 y11 y21 y31 y41 y51 y61 y09 y19 y29 y39 y49 y59 y69
  go_wp2_with fail
  rw [unhide HEB9]
  clear u06 u16 u26 y01 y11 y21 y31 y41 y51 y61 y09 y19 y29 y39 y49 y59 y69
  refine (made_any _ _ _ _ _ _ _ _).mono ?_
  rintro e w11 ⟨rfl, hb11⟩
  obtain ⟨C11, eC11, hbC11, hsC11, hhC11⟩ := box_new B9 #[.int .i64 i0, .string s0, .string m0, .bool b0, .slice a0 n0 c0, .int .i64 0, .int .i64 j0, .int .i64 i8, .string s8, .string m8, .bool b8, .slice a8 n8 c8, .int .i64 0, .int .i64 j8] 36
  rw [eC11] at hb11
  have hnode := node (l := [t0, t8]) (vs := [[.int .i64 i0, .string s0, .string m0, .bool b0, .slice a0 n0 c0, .int .i64 0, .int .i64 j0], [.int .i64 i8, .string s8, .string m8, .bool b8, .slice a8 n8 c8, .int .i64 0, .int .i64 j8]]) 24 at5 ⟨#[]⟩ ⟨#[]⟩ false eC11 rfl (by simp) rfl (by simp) (unhide HS) (fun j v t hv ht => by
    rcases j with _ | _ | j
    · obtain rfl := Option.some.inj hv
      obtain rfl := Option.some.inj ht
      exact unhide HT0
    · obtain rfl := Option.some.inj hv
      obtain rfl := Option.some.inj ht
      exact unhide HT8
    · simp at hv)
  rw [unhide HSB9] at hnode
  have hbCb := hbC11.trans (hb11.mono hbC11.size)
  replace hnode := hnode.keep (Stays.of hb11) (Nat.le_refl _)
  have hbu12 := But.of (r := r) hbCb
  replace HR := hide ((unhide HR).keep hbCb)
  replace HB := hide ((unhide HB).trans hbu12)
  replace HZ := hide ((unhide HZ).but hbu12 hrne)
  replace HX1 := hide ((hbu12.block _ (blk (unhide HX1)).1 (Ne.symm ne1)).trans (unhide HX1))
  replace HX6 := hide ((hbu12.block _ (blk (unhide HX6)).1 (Ne.symm ne6)).trans (unhide HX6))
  replace HX9 := hide ((hbu12.block _ (blk (unhide HX9)).1 (Ne.symm ne9)).trans (unhide HX9))
  replace HS := hide (Nat.lt_of_lt_of_le (unhide HS) hbu12.size)
  obtain ⟨y0, y1, y2, y3, y4, y5, y6⟩ := blk7 (unhide HZ)
  obtain ⟨z0, z1, z2, z3, z4, z5, z6⟩ := frz7 (unhide HZ)
  have HNode := hide hnode
  go_wp2
  exact ret_put rfl rfl rfl (unhide HB) hr (unhide HZ) (by have h := unhide HY; rw [unhide HN5] at h; exact h.symm) (unhide HL).1 (unhide HR) (Nat.lt_succ_self _) (unhide HNode)
end Go.Proofs.YtfkfnbehdcmgeaaGreatDoor

/- Package parse: an implication. -/
namespace Go.Proofs.YtfkfnbehdcmgeaaGreatDoor
open Go Go.RowKit
set_option maxRecDepth 100000 in
set_option maxHeartbeats 8000000 in
theorem imp_of {r d lo : Nat} {ts : List (Int × ByteArray × Int)} {g : Ru → Nat → Nat → (Except (Int × Int) (Ex × Nat))} (hT : TsOk ts) (hO : RuC 117 r ts d lo (orR ts g d)) (hI : ∀ (w : World) (p : Nat), lo + 1 ≤ p → RD w r ts p d → Calls Tryz.prog 73 #[.pointer (some ⟨r, 0, none⟩), .bool (begU ts p), .func (.func 115) #[.pointer (some ⟨r, 0, none⟩)] #[]] w (PE (g .rI d p) r ts p d w)) {w : World} {p : Nat} (hlo : lo ≤ p) (hR : RD w r ts p d) : Calls Tryz.prog 115 #[.pointer (some ⟨r, 0, none⟩)] w (PE (impR ts g d p) r ts p d w) := by
  obtain ⟨Y, hY⟩ : ∃ Y, impR ts g d p = Y := ⟨_, rfl⟩
  rw [hY]
  unfold impR at hY
  have hr := hR.rlt
  obtain ⟨A, eA, hbA, hzA, hsA⟩ := zb_new w
  have HB := hide (But.of (r := r) hbA)
  have HR := hide (hR.keep hbA)
  have HZ := hide hzA
  have HS : Hid (w.heap.size < A.heap.size) := by show _ < _; omega
  have HL : Hid (p ≤ p ∧ lo ≤ p) := ⟨Nat.le_refl _, hlo⟩
  have HE := hide eA
  have HT := hide hT
  have HY := hide hY
  have hrne : r ≠ w.heap.size := by omega
  have hmf : ∀ (fn : Fn) (first cap : Array Value) (w : World), (Instr.makeFunc fn first cap).run Tryz.prog w = .ok (.func fn first cap) w := fun _ _ _ _ => rfl
  replace hO := hide hO
  replace hI := hide hI
  clear hlo hR hbA hzA hsA eA hT hY
  go_enter Tryz.func115, Tryz.ntmps115
  have HC0 := hide (unhide hO A (p) (unhide HL).2 (unhide HR))
  go_wp2_with fail
  rw [unhide HE]
  refine (unhide HC0).mono ?_
  intro e w0 h0
  rcases hX0 : orR ts g d (p) with er | ⟨t0, q0⟩
  · rw [hX0] at h0
    obtain ⟨ei, en⟩ := er
    have hYe : Y = .error (ei, en) := by have h := unhide HY; rw [hX0] at h; exact h.symm
    subst hYe
    obtain ⟨hb0, h0⟩ := h0
    obtain rfl : e = _ := h0
    have HP := hide ((unhide HB).trans hb0)
    clear hb0 HC0 hX0
    go_wp2
    exact ⟨rfl, unhide HP, rfl⟩
  rw [hX0] at h0
  obtain ⟨hb0, hle0, hR0, v0, rfl, hv0⟩ := h0
  have hY0 := unhide HY
  rw [hX0] at hY0
  simp only [thenR] at hY0
  replace HY := hide hY0
  clear hY0
  obtain ⟨i0, j0, s0, m0, b0, a0, n0, c0, rfl⟩ := hv0.form
  have HT0 := hide (hv0.keep (lo' := w.heap.size + 1) (Stays.of (Below.refl _ _)) (unhide HS))
  replace HB := hide ((unhide HB).trans hb0)
  replace HZ := hide ((unhide HZ).but hb0 hrne)
  replace HS := hide (Nat.lt_of_lt_of_le (unhide HS) hb0.size)
  replace HR := hide hR0
  replace HL := hide (And.intro (Nat.le_trans (unhide HL).1 hle0) (Nat.le_trans (unhide HL).2 hle0))
  clear hb0 hle0 hR0 hv0 HC0 hX0
  obtain ⟨B1, eB1, hbB1, hsB1, hhB1⟩ := box_new w0 #[.int .i64 i0, .string s0, .string m0, .bool b0, .slice a0 n0 c0, .int .i64 0, .int .i64 j0] 36
  have ne1 : r ≠ w0.heap.size := by have := unhide HS; omega
  have hbu2 := But.of (r := r) hbB1
  replace HR := hide ((unhide HR).keep hbB1)
  replace HB := hide ((unhide HB).trans hbu2)
  replace HZ := hide ((unhide HZ).but hbu2 hrne)
  replace HT0 := hide ((unhide HT0).keep (Stays.but hbu2 (Nat.lt_succ_of_lt hr)) (Nat.le_refl _))
  replace HS := hide (Nat.lt_of_lt_of_le (unhide HS) hbu2.size)
  have HX1 := hide hhB1
  have HEB1 := hide eB1
  have HSB1 := hide hsB1
  clear eB1 hbB1 hhB1 hsB1
  have HC3 := hide (sees_any (unhide HR) (unhide HT) ⟨#[61, 61, 62]⟩)
  obtain ⟨bo3, hbo3⟩ : ∃ b, sees ts (q0) ⟨#[61, 61, 62]⟩ = b := ⟨_, rfl⟩
  rw [hbo3] at HC3
  have hY3 := unhide HY
  rw [hbo3] at hY3
  replace HY := hide hY3
  have HO3 := hide hbo3
  clear hY3 hbo3
  go_wp2_with fail
  rw [unhide HEB1]
  refine (unhide HC3).mono ?_
  rintro e w3 ⟨rfl, hb3⟩
  have hbu4 := But.of (r := r) hb3
  replace HR := hide ((unhide HR).keep hb3)
  replace HB := hide ((unhide HB).trans hbu4)
  replace HZ := hide ((unhide HZ).but hbu4 hrne)
  replace HX1 := hide ((hbu4.block _ (blk (unhide HX1)).1 (Ne.symm ne1)).trans (unhide HX1))
  replace HT0 := hide ((unhide HT0).keep (Stays.but hbu4 (Nat.lt_succ_of_lt hr)) (Nat.le_refl _))
  replace HS := hide (Nat.lt_of_lt_of_le (unhide HS) hbu4.size)
  clear hb3 HC3
  rcases bo3 with _ | _
  · have hY3 := unhide HY
    simp only [Bool.false_eq_true, if_false] at hY3
    replace HY := hide hY3
    clear hY3
    obtain ⟨y01, y11, y21, y31, y41, y51, y61⟩ := blk7 (unhide HX1)
    obtain ⟨y0, y1, y2, y3, y4, y5, y6⟩ := blk7 (unhide HZ)
    obtain ⟨z0, z1, z2, z3, z4, z5, z6⟩ := frz7 (unhide HZ)
    have HNode := hide (unhide HT0)
    go_wp2
    exact ret_put rfl rfl rfl (unhide HB) hr (unhide HZ) (by have h := unhide HY; exact h.symm) (unhide HL).1 (unhide HR) (Nat.lt_succ_self _) (unhide HNode)
  have hY3 := unhide HY
  simp only [if_true] at hY3
  replace HY := hide hY3
  clear hY3
  have HC5 := hide (take_any (unhide HR) (unhide HT) (nx_txt (unhide HT) (unhide HR).lt (by rw [sees_txt (unhide HO3)]; decide)))
  unfold tkV at HC5
  obtain ⟨⟨kk5, T5, at5⟩, hN5⟩ : ∃ X, nx ts q0 = X := ⟨_, rfl⟩
  rw [hN5] at HC5
  have HN5 := hide hN5
  clear hN5
  go_wp2_with fail
  refine (unhide HC5).mono ?_
  rintro e w5 ⟨rfl, hb5, hR5⟩
  replace HB := hide ((unhide HB).trans hb5)
  replace HZ := hide ((unhide HZ).but hb5 hrne)
  replace HX1 := hide ((hb5.block _ (blk (unhide HX1)).1 (Ne.symm ne1)).trans (unhide HX1))
  replace HT0 := hide ((unhide HT0).keep (Stays.but hb5 (Nat.lt_succ_of_lt hr)) (Nat.le_refl _))
  replace HS := hide (Nat.lt_of_lt_of_le (unhide HS) hb5.size)
  replace HR := hide hR5
  replace HL : Hid (p ≤ q0 + 1 ∧ lo + 1 ≤ q0 + 1) := And.intro (Nat.le_succ_of_le (unhide HL).1) (Nat.succ_le_succ (unhide HL).2)
  clear hb5 hR5 HC5
  obtain ⟨B6, eB6, hbB6, hsB6, hhB6⟩ := box_new w5 #[.int .i64 kk5, .string T5, .int .i64 at5] 74
  have ne6 : r ≠ w5.heap.size := by have := unhide HS; omega
  have hbu7 := But.of (r := r) hbB6
  replace HR := hide ((unhide HR).keep hbB6)
  replace HB := hide ((unhide HB).trans hbu7)
  replace HZ := hide ((unhide HZ).but hbu7 hrne)
  replace HX1 := hide ((hbu7.block _ (blk (unhide HX1)).1 (Ne.symm ne1)).trans (unhide HX1))
  replace HT0 := hide ((unhide HT0).keep (Stays.but hbu7 (Nat.lt_succ_of_lt hr)) (Nat.le_refl _))
  replace HS := hide (Nat.lt_of_lt_of_le (unhide HS) hbu7.size)
  have HX6 := hide hhB6
  have HEB6 := hide eB6
  have HSB6 := hide hsB6
  clear eB6 hbB6 hhB6 hsB6
  have HC8 := hide (begU_any (unhide HR) (unhide HT))
  go_wp2_with fail
  rw [unhide HEB6]
  refine (unhide HC8).mono ?_
  rintro e w8 ⟨rfl, hb8⟩
  have hbu9 := But.of (r := r) hb8
  replace HR := hide ((unhide HR).keep hb8)
  replace HB := hide ((unhide HB).trans hbu9)
  replace HZ := hide ((unhide HZ).but hbu9 hrne)
  replace HX1 := hide ((hbu9.block _ (blk (unhide HX1)).1 (Ne.symm ne1)).trans (unhide HX1))
  replace HX6 := hide ((hbu9.block _ (blk (unhide HX6)).1 (Ne.symm ne6)).trans (unhide HX6))
  replace HT0 := hide ((unhide HT0).keep (Stays.but hbu9 (Nat.lt_succ_of_lt hr)) (Nat.le_refl _))
  replace HS := hide (Nat.lt_of_lt_of_le (unhide HS) hbu9.size)
  clear hb8 HC8
  have HC10 := hide (unhide hI w8 (q0 + 1) (unhide HL).2 (unhide HR))
  go_wp2_with fail
  refine (unhide HC10).mono ?_
  intro e w10 h10
  rcases hX10 : g .rI d (q0 + 1) with er | ⟨t10, q10⟩
  · rw [hX10] at h10
    obtain ⟨ei, en⟩ := er
    have hYe : Y = .error (ei, en) := by have h := unhide HY; rw [hX10] at h; exact h.symm
    subst hYe
    obtain ⟨hb10, h10⟩ := h10
    obtain rfl : e = _ := h10
    have HP := hide ((unhide HB).trans hb10)
    clear hb10 HC10 hX10
    go_wp2
    exact ⟨rfl, unhide HP, rfl⟩
  rw [hX10] at h10
  obtain ⟨hb10, hle10, hR10, v10, rfl, hv10⟩ := h10
  have hY10 := unhide HY
  rw [hX10] at hY10
  simp only [thenR] at hY10
  replace HY := hide hY10
  clear hY10
  obtain ⟨i10, j10, s10, m10, b10, a10, n10, c10, rfl⟩ := hv10.form
  have HT10 := hide (hv10.keep (lo' := w.heap.size + 1) (Stays.of (Below.refl _ _)) (unhide HS))
  replace HB := hide ((unhide HB).trans hb10)
  replace HZ := hide ((unhide HZ).but hb10 hrne)
  replace HX1 := hide ((hb10.block _ (blk (unhide HX1)).1 (Ne.symm ne1)).trans (unhide HX1))
  replace HX6 := hide ((hb10.block _ (blk (unhide HX6)).1 (Ne.symm ne6)).trans (unhide HX6))
  replace HT0 := hide ((unhide HT0).keep (Stays.but hb10 (Nat.lt_succ_of_lt hr)) (Nat.le_refl _))
  replace HS := hide (Nat.lt_of_lt_of_le (unhide HS) hb10.size)
  replace HR := hide hR10
  replace HL := hide (And.intro (Nat.le_trans (unhide HL).1 hle10) (Nat.le_trans (unhide HL).2 hle10))
  clear hb10 hle10 hR10 hv10 HC10 hX10
  obtain ⟨B11, eB11, hbB11, hsB11, hhB11⟩ := box_new w10 #[.int .i64 i10, .string s10, .string m10, .bool b10, .slice a10 n10 c10, .int .i64 0, .int .i64 j10] 36
  have ne11 : r ≠ w10.heap.size := by have := unhide HS; omega
  have hbu12 := But.of (r := r) hbB11
  replace HR := hide ((unhide HR).keep hbB11)
  replace HB := hide ((unhide HB).trans hbu12)
  replace HZ := hide ((unhide HZ).but hbu12 hrne)
  replace HX1 := hide ((hbu12.block _ (blk (unhide HX1)).1 (Ne.symm ne1)).trans (unhide HX1))
  replace HX6 := hide ((hbu12.block _ (blk (unhide HX6)).1 (Ne.symm ne6)).trans (unhide HX6))
  replace HT0 := hide ((unhide HT0).keep (Stays.but hbu12 (Nat.lt_succ_of_lt hr)) (Nat.le_refl _))
  replace HT10 := hide ((unhide HT10).keep (Stays.but hbu12 (Nat.lt_succ_of_lt hr)) (Nat.le_refl _))
  replace HS := hide (Nat.lt_of_lt_of_le (unhide HS) hbu12.size)
  have HX11 := hide hhB11
  have HEB11 := hide eB11
  have HSB11 := hide hsB11
  clear eB11 hbB11 hhB11 hsB11
  have u06 := (blk (unhide HX6)).2.1 0 _ rfl
  have u16 := (blk (unhide HX6)).2.1 1 _ rfl
  have u26 := (blk (unhide HX6)).2.1 2 _ rfl
  obtain ⟨y01, y11, y21, y31, y41, y51, y61⟩ := blk7 (unhide HX1)
  obtain ⟨y011, y111, y211, y311, y411, y511, y611⟩ := blk7 (unhide HX11)
  rw [← unhide HEB11] at u06 u16 u26 y01 y11 y21 y31 y41 y51 y61 y011 y111 y211 y311 y411 y511 y611
  go_wp2_with fail
  rw [unhide HEB11]
  clear u06 u16 u26 y01 y11 y21 y31 y41 y51 y61 y011 y111 y211 y311 y411 y511 y611
  refine (made_any _ _ _ _ _ _ _ _).mono ?_
  rintro e w13 ⟨rfl, hb13⟩
  obtain ⟨C13, eC13, hbC13, hsC13, hhC13⟩ := box_new B11 #[.int .i64 i0, .string s0, .string m0, .bool b0, .slice a0 n0 c0, .int .i64 0, .int .i64 j0, .int .i64 i10, .string s10, .string m10, .bool b10, .slice a10 n10 c10, .int .i64 0, .int .i64 j10] 36
  rw [eC13] at hb13
  have hnode := node (l := [t0, t10]) (vs := [[.int .i64 i0, .string s0, .string m0, .bool b0, .slice a0 n0 c0, .int .i64 0, .int .i64 j0], [.int .i64 i10, .string s10, .string m10, .bool b10, .slice a10 n10 c10, .int .i64 0, .int .i64 j10]]) 20 at5 ⟨#[]⟩ ⟨#[]⟩ false eC13 rfl (by simp) rfl (by simp) (unhide HS) (fun j v t hv ht => by
    rcases j with _ | _ | j
    · obtain rfl := Option.some.inj hv
      obtain rfl := Option.some.inj ht
      exact unhide HT0
    · obtain rfl := Option.some.inj hv
      obtain rfl := Option.some.inj ht
      exact unhide HT10
    · simp at hv)
  rw [unhide HSB11] at hnode
  have hbCb := hbC13.trans (hb13.mono hbC13.size)
  replace hnode := hnode.keep (Stays.of hb13) (Nat.le_refl _)
  have hbu14 := But.of (r := r) hbCb
  replace HR := hide ((unhide HR).keep hbCb)
  replace HB := hide ((unhide HB).trans hbu14)
  replace HZ := hide ((unhide HZ).but hbu14 hrne)
  replace HX1 := hide ((hbu14.block _ (blk (unhide HX1)).1 (Ne.symm ne1)).trans (unhide HX1))
  replace HX6 := hide ((hbu14.block _ (blk (unhide HX6)).1 (Ne.symm ne6)).trans (unhide HX6))
  replace HX11 := hide ((hbu14.block _ (blk (unhide HX11)).1 (Ne.symm ne11)).trans (unhide HX11))
  replace HS := hide (Nat.lt_of_lt_of_le (unhide HS) hbu14.size)
  obtain ⟨y0, y1, y2, y3, y4, y5, y6⟩ := blk7 (unhide HZ)
  obtain ⟨z0, z1, z2, z3, z4, z5, z6⟩ := frz7 (unhide HZ)
  have HNode := hide hnode
  go_wp2
  exact ret_put rfl rfl rfl (unhide HB) hr (unhide HZ) (by have h := unhide HY; rw [unhide HN5] at h; exact h.symm) (unhide HL).1 (unhide HR) (Nat.lt_succ_self _) (unhide HNode)
end Go.Proofs.YtfkfnbehdcmgeaaGreatDoor

/- Package parse: an expression. -/
namespace Go.Proofs.YtfkfnbehdcmgeaaGreatDoor
open Go Go.RowKit
/-- A rule's contract, where the next token is not the end. -/
def RuC1 (f : Nat) (r : Nat) (ts : List (Int × ByteArray × Int)) (d lo : Nat) (X : Nat → (Except (Int × Int) (Ex × Nat))) : Prop := ∀ (w : World) (p : Nat), lo ≤ p → p + 1 < ts.length → RD w r ts p d → Calls Tryz.prog f #[.pointer (some ⟨r, 0, none⟩)] w (PE (X p) r ts p d w)
set_option maxRecDepth 100000 in
set_option maxHeartbeats 8000000 in
theorem within_of {r d lo : Nat} {ts : List (Int × ByteArray × Int)} {g : Ru → Nat → Nat → (Except (Int × Int) (Ex × Nat))} (hT : TsOk ts) (hBr : RuC1 95 r ts d lo (branchR ts g d)) (hBi : RuC1 96 r ts d lo (bindR ts g d)) (hHa : RuC1 97 r ts d lo (tryR ts g d)) (hSe : RuC 98 r ts d lo (seqR ts g d)) {w : World} {p : Nat} (hlo : lo ≤ p) (hR : RD w r ts p d) : Calls Tryz.prog 75 #[.pointer (some ⟨r, 0, none⟩)] w (PE (withinR ts g d p) r ts p d w) := by
  obtain ⟨Y, hY⟩ : ∃ Y, withinR ts g d p = Y := ⟨_, rfl⟩
  rw [hY]
  unfold withinR at hY
  have hr := hR.rlt
  obtain ⟨A, eA, hbA, hzA, hsA⟩ := zb_new w
  have HB := hide (But.of (r := r) hbA)
  have HR := hide (hR.keep hbA)
  have HZ := hide hzA
  have HS : Hid (w.heap.size < A.heap.size) := by show _ < _; omega
  have HL : Hid (p ≤ p ∧ lo ≤ p) := ⟨Nat.le_refl _, hlo⟩
  have HE := hide eA
  have HT := hide hT
  have HY := hide hY
  have hrne : r ≠ w.heap.size := by omega
  have hmf : ∀ (fn : Fn) (first cap : Array Value) (w : World), (Instr.makeFunc fn first cap).run Tryz.prog w = .ok (.func fn first cap) w := fun _ _ _ _ => rfl
  replace hBr := hide hBr
  replace hBi := hide hBi
  replace hHa := hide hHa
  replace hSe := hide hSe
  clear hlo hR hbA hzA hsA eA hT hY
  go_enter Tryz.func75, Tryz.ntmps75
  have HC0 := hide (next_any (unhide HR) (unhide HT))
  unfold tkV at HC0
  obtain ⟨⟨kk0, T0, at0⟩, hN0⟩ : ∃ X, nx ts p = X := ⟨_, rfl⟩
  rw [hN0] at HC0
  have HN0 := hide hN0
  clear hN0
  go_wp2_with fail
  rw [unhide HE]
  refine (unhide HC0).mono ?_
  rintro e w0 ⟨rfl, hb0⟩
  have hbu1 := But.of (r := r) hb0
  replace HR := hide ((unhide HR).keep hb0)
  replace HB := hide ((unhide HB).trans hbu1)
  replace HZ := hide ((unhide HZ).but hbu1 hrne)
  replace HS := hide (Nat.lt_of_lt_of_le (unhide HS) hbu1.size)
  clear hb0 HC0
  have hf1 := fld1 (.int .i64 kk0) (.string T0) (.int .i64 at0)
  have hx2 : txt ts (p) = T0 := by unfold txt; rw [unhide HN0]
  by_cases hT2 : T0 = ⟨#[105, 102]⟩
  · have e2 : (T0.toList == [105, 102]) = true := (eqb T0 ⟨#[105, 102]⟩ [105, 102] rfl).mp hT2
    have hp1 := nx_txt (unhide HT) (unhide HR).lt (by rw [hx2, hT2]; decide)
    have hY2 := unhide HY
    rw [if_pos (hx2.trans hT2)] at hY2
    replace HY := hide hY2
    replace hp1 := hide hp1
    clear hY2 hx2 hT2
    have HC3 := hide (unhide hBr w0 (p) (unhide HL).2 (unhide hp1) (unhide HR))
    go_wp2_with fail
    refine (unhide HC3).mono ?_
    intro e w3 h3
    rcases hX3 : branchR ts g d (p) with er | ⟨t3, q3⟩
    · rw [hX3] at h3
      obtain ⟨ei, en⟩ := er
      have hYe : Y = .error (ei, en) := by have h := unhide HY; rw [hX3] at h; exact h.symm
      subst hYe
      obtain ⟨hb3, h3⟩ := h3
      obtain rfl : e = _ := h3
      have HP := hide ((unhide HB).trans hb3)
      clear hb3 HC3 hX3
      go_wp2
      exact ⟨rfl, unhide HP, rfl⟩
    rw [hX3] at h3
    obtain ⟨hb3, hle3, hR3, v3, rfl, hv3⟩ := h3
    have hY3 := unhide HY
    rw [hX3] at hY3
    replace HY := hide hY3
    clear hY3
    obtain ⟨i3, j3, s3, m3, b3, a3, n3, c3, rfl⟩ := hv3.form
    have HT3 := hide (hv3.keep (lo' := w.heap.size + 1) (Stays.of (Below.refl _ _)) (unhide HS))
    replace HB := hide ((unhide HB).trans hb3)
    replace HZ := hide ((unhide HZ).but hb3 hrne)
    replace HS := hide (Nat.lt_of_lt_of_le (unhide HS) hb3.size)
    replace HR := hide hR3
    replace HL := hide (And.intro (Nat.le_trans (unhide HL).1 hle3) (Nat.le_trans (unhide HL).2 hle3))
    clear hb3 hle3 hR3 hv3 HC3 hX3
    obtain ⟨y0, y1, y2, y3, y4, y5, y6⟩ := blk7 (unhide HZ)
    obtain ⟨z0, z1, z2, z3, z4, z5, z6⟩ := frz7 (unhide HZ)
    have HNode := hide (unhide HT3)
    go_wp2
    exact ret_put rfl rfl rfl (unhide HB) hr (unhide HZ) (by have h := unhide HY; exact h.symm) (unhide HL).1 (unhide HR) (Nat.lt_succ_self _) (unhide HNode)
  have e2 : (T0.toList == [105, 102]) = false := by have h := hT2; rw [eqb T0 ⟨#[105, 102]⟩ [105, 102] rfl] at h; simpa using h
  have hY2 := unhide HY
  rw [if_neg (fun h => hT2 (hx2.symm.trans h))] at hY2
  replace HY := hide hY2
  clear hY2 hx2 hT2
  have hx4 : txt ts (p) = T0 := by unfold txt; rw [unhide HN0]
  by_cases hT4 : T0 = ⟨#[108, 101, 116]⟩
  · have e4 : (T0.toList == [108, 101, 116]) = true := (eqb T0 ⟨#[108, 101, 116]⟩ [108, 101, 116] rfl).mp hT4
    have hp1 := nx_txt (unhide HT) (unhide HR).lt (by rw [hx4, hT4]; decide)
    have hY4 := unhide HY
    rw [if_pos (hx4.trans hT4)] at hY4
    replace HY := hide hY4
    replace hp1 := hide hp1
    clear hY4 hx4 hT4
    have HC5 := hide (unhide hBi w0 (p) (unhide HL).2 (unhide hp1) (unhide HR))
    go_wp2_with fail
    refine (unhide HC5).mono ?_
    intro e w5 h5
    rcases hX5 : bindR ts g d (p) with er | ⟨t5, q5⟩
    · rw [hX5] at h5
      obtain ⟨ei, en⟩ := er
      have hYe : Y = .error (ei, en) := by have h := unhide HY; rw [hX5] at h; exact h.symm
      subst hYe
      obtain ⟨hb5, h5⟩ := h5
      obtain rfl : e = _ := h5
      have HP := hide ((unhide HB).trans hb5)
      clear hb5 HC5 hX5
      go_wp2
      exact ⟨rfl, unhide HP, rfl⟩
    rw [hX5] at h5
    obtain ⟨hb5, hle5, hR5, v5, rfl, hv5⟩ := h5
    have hY5 := unhide HY
    rw [hX5] at hY5
    replace HY := hide hY5
    clear hY5
    obtain ⟨i5, j5, s5, m5, b5, a5, n5, c5, rfl⟩ := hv5.form
    have HT5 := hide (hv5.keep (lo' := w.heap.size + 1) (Stays.of (Below.refl _ _)) (unhide HS))
    replace HB := hide ((unhide HB).trans hb5)
    replace HZ := hide ((unhide HZ).but hb5 hrne)
    replace HS := hide (Nat.lt_of_lt_of_le (unhide HS) hb5.size)
    replace HR := hide hR5
    replace HL := hide (And.intro (Nat.le_trans (unhide HL).1 hle5) (Nat.le_trans (unhide HL).2 hle5))
    clear hb5 hle5 hR5 hv5 HC5 hX5
    obtain ⟨y0, y1, y2, y3, y4, y5, y6⟩ := blk7 (unhide HZ)
    obtain ⟨z0, z1, z2, z3, z4, z5, z6⟩ := frz7 (unhide HZ)
    have HNode := hide (unhide HT5)
    go_wp2
    exact ret_put rfl rfl rfl (unhide HB) hr (unhide HZ) (by have h := unhide HY; exact h.symm) (unhide HL).1 (unhide HR) (Nat.lt_succ_self _) (unhide HNode)
  have e4 : (T0.toList == [108, 101, 116]) = false := by have h := hT4; rw [eqb T0 ⟨#[108, 101, 116]⟩ [108, 101, 116] rfl] at h; simpa using h
  have hY4 := unhide HY
  rw [if_neg (fun h => hT4 (hx4.symm.trans h))] at hY4
  replace HY := hide hY4
  clear hY4 hx4 hT4
  have hx6 : txt ts (p) = T0 := by unfold txt; rw [unhide HN0]
  by_cases hT6 : T0 = ⟨#[116, 114, 121]⟩
  · have e6 : (T0.toList == [116, 114, 121]) = true := (eqb T0 ⟨#[116, 114, 121]⟩ [116, 114, 121] rfl).mp hT6
    have hp1 := nx_txt (unhide HT) (unhide HR).lt (by rw [hx6, hT6]; decide)
    have hY6 := unhide HY
    rw [if_pos (hx6.trans hT6)] at hY6
    replace HY := hide hY6
    replace hp1 := hide hp1
    clear hY6 hx6 hT6
    have HC7 := hide (unhide hHa w0 (p) (unhide HL).2 (unhide hp1) (unhide HR))
    go_wp2_with fail
    refine (unhide HC7).mono ?_
    intro e w7 h7
    rcases hX7 : tryR ts g d (p) with er | ⟨t7, q7⟩
    · rw [hX7] at h7
      obtain ⟨ei, en⟩ := er
      have hYe : Y = .error (ei, en) := by have h := unhide HY; rw [hX7] at h; exact h.symm
      subst hYe
      obtain ⟨hb7, h7⟩ := h7
      obtain rfl : e = _ := h7
      have HP := hide ((unhide HB).trans hb7)
      clear hb7 HC7 hX7
      go_wp2
      exact ⟨rfl, unhide HP, rfl⟩
    rw [hX7] at h7
    obtain ⟨hb7, hle7, hR7, v7, rfl, hv7⟩ := h7
    have hY7 := unhide HY
    rw [hX7] at hY7
    replace HY := hide hY7
    clear hY7
    obtain ⟨i7, j7, s7, m7, b7, a7, n7, c7, rfl⟩ := hv7.form
    have HT7 := hide (hv7.keep (lo' := w.heap.size + 1) (Stays.of (Below.refl _ _)) (unhide HS))
    replace HB := hide ((unhide HB).trans hb7)
    replace HZ := hide ((unhide HZ).but hb7 hrne)
    replace HS := hide (Nat.lt_of_lt_of_le (unhide HS) hb7.size)
    replace HR := hide hR7
    replace HL := hide (And.intro (Nat.le_trans (unhide HL).1 hle7) (Nat.le_trans (unhide HL).2 hle7))
    clear hb7 hle7 hR7 hv7 HC7 hX7
    obtain ⟨y0, y1, y2, y3, y4, y5, y6⟩ := blk7 (unhide HZ)
    obtain ⟨z0, z1, z2, z3, z4, z5, z6⟩ := frz7 (unhide HZ)
    have HNode := hide (unhide HT7)
    go_wp2
    exact ret_put rfl rfl rfl (unhide HB) hr (unhide HZ) (by have h := unhide HY; exact h.symm) (unhide HL).1 (unhide HR) (Nat.lt_succ_self _) (unhide HNode)
  have e6 : (T0.toList == [116, 114, 121]) = false := by have h := hT6; rw [eqb T0 ⟨#[116, 114, 121]⟩ [116, 114, 121] rfl] at h; simpa using h
  have hY6 := unhide HY
  rw [if_neg (fun h => hT6 (hx6.symm.trans h))] at hY6
  replace HY := hide hY6
  clear hY6 hx6 hT6
  have HC8 := hide (unhide hSe w0 (p) (unhide HL).2 (unhide HR))
  go_wp2_with fail
  refine (unhide HC8).mono ?_
  intro e w8 h8
  rcases hX8 : seqR ts g d (p) with er | ⟨t8, q8⟩
  · rw [hX8] at h8
    obtain ⟨ei, en⟩ := er
    have hYe : Y = .error (ei, en) := by have h := unhide HY; rw [hX8] at h; exact h.symm
    subst hYe
    obtain ⟨hb8, h8⟩ := h8
    obtain rfl : e = _ := h8
    have HP := hide ((unhide HB).trans hb8)
    clear hb8 HC8 hX8
    go_wp2
    exact ⟨rfl, unhide HP, rfl⟩
  rw [hX8] at h8
  obtain ⟨hb8, hle8, hR8, v8, rfl, hv8⟩ := h8
  have hY8 := unhide HY
  rw [hX8] at hY8
  replace HY := hide hY8
  clear hY8
  obtain ⟨i8, j8, s8, m8, b8, a8, n8, c8, rfl⟩ := hv8.form
  have HT8 := hide (hv8.keep (lo' := w.heap.size + 1) (Stays.of (Below.refl _ _)) (unhide HS))
  replace HB := hide ((unhide HB).trans hb8)
  replace HZ := hide ((unhide HZ).but hb8 hrne)
  replace HS := hide (Nat.lt_of_lt_of_le (unhide HS) hb8.size)
  replace HR := hide hR8
  replace HL := hide (And.intro (Nat.le_trans (unhide HL).1 hle8) (Nat.le_trans (unhide HL).2 hle8))
  clear hb8 hle8 hR8 hv8 HC8 hX8
  obtain ⟨y0, y1, y2, y3, y4, y5, y6⟩ := blk7 (unhide HZ)
  obtain ⟨z0, z1, z2, z3, z4, z5, z6⟩ := frz7 (unhide HZ)
  have HNode := hide (unhide HT8)
  go_wp2
  exact ret_put rfl rfl rfl (unhide HB) hr (unhide HZ) (by have h := unhide HY; exact h.symm) (unhide HL).1 (unhide HR) (Nat.lt_succ_self _) (unhide HNode)
end Go.Proofs.YtfkfnbehdcmgeaaGreatDoor

/- A drawn region whose world-changing operations come one behind the other; the last of them may be a store. -/
namespace Go.Proofs.YtfkfnbehdcmgeaaGreatDoor
open Go Go.RowKit
def upL (L : Nat → Bool) (i : Nat) : Nat → Bool := fun j => if j = i then true else L j
def upS (s : Nat → Value) (i : Nat) (v : Value) : Nat → Value := fun j => if j = i then v else s j
theorem upL_same (L : Nat → Bool) (i : Nat) : upL L i i = true := if_pos rfl
theorem upL_other {L : Nat → Bool} {i j : Nat} (h : j ≠ i) : upL L i j = L j := if_neg h
theorem upS_same (s : Nat → Value) (i : Nat) (v : Value) : upS s i v i = v := if_pos rfl
theorem upS_other {s : Nat → Value} {i j : Nat} {v : Value} (h : j ≠ i) : upS s i v j = s j := if_neg h
section
variable {P : Program} {X : Exit → Act → World → Prop}
theorem seqP {l : List Oper} {a0 : Act} {w0 : World} (N : Nat) (kept : List Nat) (Φ : Nat → Value → Prop) (chn : Nat → Bool) (Q : (Nat → Bool) → (Nat → Value) → World → Prop)
    (hg : fitF N 0 kept l = true) (hN : a0.tmps.size = N)
    (hlt : ∀ i, chn i = true → i < l.length)
    (h0 : Q (fun _ => false) (slotOf l.toArray a0) w0)
    (hloc : ∀ (L L' : Nat → Bool) (s s' : Nat → Value) (w : World), (∀ i, chn i = true → L i = L' i ∧ ((l.getD i default).dst.isSome = true → s i = s' i)) → Q L s w → Q L' s' w)
    (hsome : ∀ i o, l[i]? = some o → o.dst = none → chn i = true ∧ ∀ v, Φ i v)
    (hpure : ∀ i, i < l.length → chn i = false → ∀ (a : Act) (w : World) (L : Nat → Bool), a.defers = a0.defers → a.tmps.size = N → (∀ k, k ∈ kept → a.tmps[k]? = a0.tmps[k]?) → (∀ j, (preds (l.getD i default)).contains j = true → Φ j (slotOf l.toArray a j)) → Q L (slotOf l.toArray a) w →
      if Region.wanted (l.getD i default) (yielded l.toArray a.tmps) then (l.getD i default).wp P a w (fun a' w' => ∃ v, a' = a.put (l.getD i default).dst v ∧ w' = w ∧ Φ i v) X else Φ i undef)
    (hch : ∀ i, chn i = true → ∀ (a : Act) (w : World) (L : Nat → Bool), a.defers = a0.defers → a.tmps.size = N → (∀ k, k ∈ kept → a.tmps[k]? = a0.tmps[k]?) → (∀ j, (preds (l.getD i default)).contains j = true → L j = true ∧ Φ j (slotOf l.toArray a j)) → L i = false → (∀ j, j < l.length → L j = true → ∀ k, (preds (l.getD j default)).contains k = true → L k = true) → Q L (slotOf l.toArray a) w →
      if Region.wanted (l.getD i default) (yielded l.toArray a.tmps) then (l.getD i default).wp P a w (fun a' w' => ∃ v, a' = a.put (l.getD i default).dst v ∧ ((l.getD i default).dst.isSome = true → Φ i v) ∧ Q (upL L i) (upS (slotOf l.toArray a) i v) w') X else ((l.getD i default).dst.isSome = true → Φ i undef) ∧ Q (upL L i) (upS (slotOf l.toArray a) i undef) w)
    (hend : ∀ (a : Act) (w : World), a.defers = a0.defers → a.tmps.size = N → (∀ k, k ∈ kept → a.tmps[k]? = a0.tmps[k]?) → (∀ i, i < l.length → Φ i (slotOf l.toArray a i)) → Q (fun _ => true) (slotOf l.toArray a) w → X .normal a w) :
    wpAny P .any l.toArray X l.toArray.size (Array.replicate l.toArray.size false) a0 w0 := by
  have hgd : ∀ (i : Nat) (o : Oper), l[i]? = some o → l.getD i default = o := fun i o ho => by simp [List.getD_eq_getElem?_getD, ho]
  have hspec := fitF_spec l 0 kept hg
  have hslot : ∀ (i : Nat) (o : Oper) (k : Nat) (ok : Oper) (a : Act) (v : Value), l[i]? = some o → l[k]? = some ok → ok.dst.isSome = true → k ≠ i → slotOf l.toArray (a.put o.dst v) k = slotOf l.toArray a k := fun i o k ok a v ho hk hks hne => by
    obtain ⟨dk, hdk⟩ := Option.isSome_iff_exists.1 hks
    have hk' : l.toArray[k]? = some ok := by simpa using hk
    cases hd : o.dst with
    | none => rfl
    | some d =>
      refine slot_put_other hk' hdk fun e => ?_
      subst e
      rcases Nat.lt_or_gt_of_ne hne with h | h
      · exact ((hspec i o ho).2 d hd).2.2 k ok h hk hdk
      · exact ((hspec k ok hk).2 d hdk).2.2 i o h ho hd
  have hself : ∀ (i : Nat) (o : Oper) (a : Act) (v : Value), l[i]? = some o → o.dst.isSome = true → a.tmps.size = N → slotOf l.toArray (a.put o.dst v) i = v := fun i o a v ho hs hn => by
    obtain ⟨d, hd⟩ := Option.isSome_iff_exists.1 hs
    have ho' : l.toArray[i]? = some o := by simpa using ho
    exact slot_put_same (a := a) (v := v) ho' hd (by have := ((hspec i o ho).2 d hd).2.1; omega)
  have hget : ∀ (listed : Array Bool) (i j : Nat), i ≠ j → (listed.setIfInBounds i true).getD j false = listed.getD j false := fun listed i j e => getD_set_ne false e
  refine stepsF N kept Φ (fun listed a w => Q (fun j => listed.getD j false) (slotOf l.toArray a) w) hg hN ?_ ?_ ?_ ?_
  · have hrep : ∀ i, (Array.replicate l.length false).getD i false = false := fun i => by
      simp only [Array.getD_eq_getD_getElem?, Array.getElem?_replicate]
      split <;> rfl
    exact hloc _ _ _ _ w0 (fun i _ => ⟨(hrep i).symm, fun _ => rfl⟩) h0
  · intro i o ho listed a w hsz hun hdown hdf hn hk hpr hQ
    have hi := (List.getElem?_eq_some_iff.1 ho).1
    have hun' : listed.getD i false = false := by
      have h1 : i < listed.size := by omega
      simpa [h1] using hun
    have hset : (listed.setIfInBounds i true).getD i false = true := by
      have h1 : i < listed.size := by omega
      simp [h1]
    have ed := hgd i o ho
    cases hc : chn i with
    | false =>
      have hkeep : ∀ v, Q (fun j => (listed.setIfInBounds i true).getD j false) (slotOf l.toArray (a.put o.dst v)) w := fun v => hloc _ _ _ _ w (fun j hj => by
        have hne : i ≠ j := fun e => by rw [← e, hc] at hj; cases hj
        have hj2 := List.getElem?_eq_getElem (hlt j hj)
        exact ⟨(hget listed i j hne).symm, fun hs => (hslot i o j _ a v ho hj2 (by rw [hgd j _ hj2] at hs; exact hs) (Ne.symm hne)).symm⟩) hQ
      have h := hpure i hi hc a w (fun j => listed.getD j false) hdf hn hk (fun j hj => (hpr j (by rw [ed] at hj; exact hj)).2) hQ
      rw [ed] at h
      split at h
      · rename_i hw
        rw [if_pos hw]
        refine Oper.wp_mono ?_ h
        rintro a' w' ⟨v, rfl, rfl, hv⟩
        exact ⟨v, rfl, fun _ => hv, hkeep v⟩
      · rename_i hw
        rw [if_neg hw]
        exact ⟨fun _ => h, hkeep undef⟩
    | true =>
      have hkeep : ∀ v w', Q (upL (fun j => listed.getD j false) i) (upS (slotOf l.toArray a) i v) w' → Q (fun j => (listed.setIfInBounds i true).getD j false) (slotOf l.toArray (a.put o.dst v)) w' := fun v w' hQ' => hloc _ _ _ _ w' (fun j hj => by
        by_cases ej : j = i
        · subst ej
          rw [upL_same, upS_same]
          exact ⟨hset.symm, fun hs => (hself j o a v ho (by rw [ed] at hs; exact hs) hn).symm⟩
        · rw [upL_other ej, upS_other ej]
          have hj2 := List.getElem?_eq_getElem (hlt j hj)
          exact ⟨(hget listed i j (Ne.symm ej)).symm, fun hs => (hslot i o j _ a v ho hj2 (by rw [hgd j _ hj2] at hs; exact hs) ej).symm⟩) hQ'
      have h := hch i hc a w (fun j => listed.getD j false) hdf hn hk (fun j hj => hpr j (by rw [ed] at hj; exact hj)) hun' (fun j hj h2 k h3 => hdown j _ (List.getElem?_eq_getElem hj) h2 k (by rw [hgd j _ (List.getElem?_eq_getElem hj)] at h3; exact h3)) hQ
      rw [ed] at h
      split at h
      · rename_i hw
        rw [if_pos hw]
        refine Oper.wp_mono ?_ h
        rintro a' w' ⟨v, rfl, hv, hQ'⟩
        exact ⟨v, rfl, hv, hkeep v w' hQ'⟩
      · rename_i hw
        rw [if_neg hw]
        exact ⟨h.1, hkeep undef w h.2⟩
  · exact fun i o ho hd v => (hsome i o ho hd).2 v
  · intro listed a w hsz hall hdf hn hk hΦ hJ
    exact hend a w hdf hn hk hΦ (hloc _ _ _ _ w (fun i hi => ⟨hall i (hlt i hi), fun _ => rfl⟩) hJ)
end
end Go.Proofs.YtfkfnbehdcmgeaaGreatDoor

namespace Go.Proofs.YtfkfnbehdcmgeaaGreatDoor
open Go Go.RowKit
section
variable {P : Program} {X : Exit → Act → World → Prop}
theorem seqN {l : List Oper} {a0 : Act} {w0 : World} (N : Nat) (kept cs : List Nat) (Φ : Nat → Value → Prop) (St : Nat → (Nat → Value) → World → Prop)
    (hg : fitF N 0 kept l = true) (hN : a0.tmps.size = N) (hnd : cs.Nodup) (hlt : ∀ i ∈ cs, i < l.length)
    (hpred : ∀ k, k + 1 < cs.length → (preds (l.getD (cs.getD (k + 1) 0) default)).contains (cs.getD k 0) = true)
    (hsome : ∀ i o, l[i]? = some o → o.dst = none → i ∈ cs ∧ ∀ v, Φ i v)
    (hloc : ∀ (n : Nat) (s s' : Nat → Value) (w : World), (∀ k, k < cs.length → (l.getD (cs.getD k 0) default).dst.isSome = true → s (cs.getD k 0) = s' (cs.getD k 0)) → St n s w → St n s' w)
    (h0 : St 0 (slotOf l.toArray a0) w0)
    (hpure : ∀ i, i < l.length → i ∉ cs → ∀ (a : Act) (w : World) (n : Nat) (s : Nat → Value), a.defers = a0.defers → a.tmps.size = N → (∀ k, k ∈ kept → a.tmps[k]? = a0.tmps[k]?) → (∀ j, (preds (l.getD i default)).contains j = true → Φ j (slotOf l.toArray a j)) → n ≤ cs.length → St n s w →
      if Region.wanted (l.getD i default) (yielded l.toArray a.tmps) then (l.getD i default).wp P a w (fun a' w' => ∃ v, a' = a.put (l.getD i default).dst v ∧ w' = w ∧ Φ i v) X else Φ i undef)
    (hch : ∀ k, k < cs.length → ∀ (a : Act) (w : World), a.defers = a0.defers → a.tmps.size = N → (∀ j, j ∈ kept → a.tmps[j]? = a0.tmps[j]?) → (∀ j, (preds (l.getD (cs.getD k 0) default)).contains j = true → Φ j (slotOf l.toArray a j)) → St k (slotOf l.toArray a) w →
      if Region.wanted (l.getD (cs.getD k 0) default) (yielded l.toArray a.tmps) then (l.getD (cs.getD k 0) default).wp P a w (fun a' w' => ∃ v, a' = a.put (l.getD (cs.getD k 0) default).dst v ∧ ((l.getD (cs.getD k 0) default).dst.isSome = true → Φ (cs.getD k 0) v) ∧ St (k + 1) (upS (slotOf l.toArray a) (cs.getD k 0) v) w') X else ((l.getD (cs.getD k 0) default).dst.isSome = true → Φ (cs.getD k 0) undef) ∧ St (k + 1) (upS (slotOf l.toArray a) (cs.getD k 0) undef) w)
    (hend : ∀ (a : Act) (w : World), a.defers = a0.defers → a.tmps.size = N → (∀ k, k ∈ kept → a.tmps[k]? = a0.tmps[k]?) → (∀ i, i < l.length → Φ i (slotOf l.toArray a i)) → St cs.length (slotOf l.toArray a) w → X .normal a w) :
    wpAny P .any l.toArray X l.toArray.size (Array.replicate l.toArray.size false) a0 w0 := by
  have hget : ∀ k, k < cs.length → cs.getD k 0 ∈ cs ∧ cs[k]? = some (cs.getD k 0) := fun k hk => by
    rw [List.getD_eq_getElem?_getD, List.getElem?_eq_getElem hk]
    exact ⟨List.getElem_mem _, rfl⟩
  have hinj : ∀ j k, j < cs.length → k < cs.length → cs.getD j 0 = cs.getD k 0 → j = k := fun j k hj hk h => by
    have e1 := (hget j hj).2
    have e2 := (hget k hk).2
    rw [h] at e1
    rw [List.getElem?_eq_getElem hj] at e1
    rw [List.getElem?_eq_getElem hk] at e2
    have e : cs[j] = cs[k] := Option.some.inj (e1.trans e2.symm)
    have hp := List.pairwise_iff_getElem.1 hnd
    rcases Nat.lt_trichotomy j k with h | h | h
    · exact absurd e (hp j k hj hk h)
    · exact h
    · exact absurd e.symm (hp k j hk hj h)
  have hpos : ∀ i ∈ cs, ∃ k, k < cs.length ∧ cs.getD k 0 = i := fun i hi => by
    obtain ⟨k, hk, e⟩ := List.mem_iff_getElem.1 hi
    refine ⟨k, hk, ?_⟩
    rw [List.getD_eq_getElem?_getD, List.getElem?_eq_getElem hk]
    exact e
  refine seqP N kept Φ (fun i => decide (i ∈ cs)) (fun L s w => ∃ n, n ≤ cs.length ∧ (∀ k, k < cs.length → L (cs.getD k 0) = decide (k < n)) ∧ St n s w) hg hN (fun i hi => hlt i (of_decide_eq_true hi)) ⟨0, Nat.zero_le _, fun k _ => by simp, h0⟩ ?_ ?_ ?_ ?_ ?_
  · rintro L L' s s' w h ⟨n, hn, h1, h2⟩
    refine ⟨n, hn, fun k hk => ?_, hloc n s s' w (fun k hk hd => (h _ (decide_eq_true (hget k hk).1)).2 hd) h2⟩
    rw [← (h _ (decide_eq_true (hget k hk).1)).1]
    exact h1 k hk
  · exact fun i o ho hd => ⟨decide_eq_true (hsome i o ho hd).1, (hsome i o ho hd).2⟩
  · rintro i hi hc a w L hdf hsz hk hp ⟨n, hn, h1, h2⟩
    exact hpure i hi (of_decide_eq_false hc) a w n _ hdf hsz hk hp hn h2
  · rintro i hc a w L hdf hsz hk hp hL hdown ⟨n, hn, h1, h2⟩
    obtain ⟨k, hkl, rfl⟩ := hpos i (of_decide_eq_true hc)
    have hnk : n ≤ k := by
      have := h1 k hkl
      rw [hL] at this
      have := of_decide_eq_false this.symm
      omega
    have hkn : k ≤ n := by
      cases k with
      | zero => omega
      | succ k =>
        have h3 := (hp (cs.getD k 0) (hpred k hkl)).1
        rw [h1 k (by omega)] at h3
        have := of_decide_eq_true h3
        omega
    obtain rfl : n = k := by omega
    have h := hch n hkl a w hdf hsz hk (fun j hj => (hp j hj).2) h2
    have hup : ∀ s' w', St (n + 1) s' w' → ∃ n', n' ≤ cs.length ∧ (∀ j, j < cs.length → upL L (cs.getD n 0) (cs.getD j 0) = decide (j < n')) ∧ St n' s' w' := fun s' w' hs => ⟨n + 1, hkl, fun j hj => by
      by_cases e : j = n
      · subst e
        rw [upL_same]
        simp
      · rw [upL_other (fun h => e (hinj j n hj hkl h)), h1 j hj]
        have : (j < n) = (j < n + 1) := propext ⟨fun h => by omega, fun h => by omega⟩
        rw [decide_eq_decide]
        omega, hs⟩
    split at h
    · rename_i hw
      rw [if_pos hw]
      refine Oper.wp_mono ?_ h
      rintro a' w' ⟨v, e, hv, hs⟩
      exact ⟨v, e, hv, hup _ _ hs⟩
    · rename_i hw
      rw [if_neg hw]
      exact ⟨h.1, hup _ _ h.2⟩
  · rintro a w hdf hsz hk hp ⟨n, hn, h1, h2⟩
    refine hend a w hdf hsz hk hp ?_
    have : n = cs.length := by
      rcases Nat.lt_or_ge n cs.length with h | h
      · have := h1 n h
        simp at this
      · omega
    rw [this] at h2
    exact h2
end
end Go.Proofs.YtfkfnbehdcmgeaaGreatDoor
