/- Package parse: steps of drawn regions; the region in which joined makes its node. -/
import Derived.Test.YtfkfnbehdcmgeaaGreatDoorZAD
set_option linter.unusedVariables false
set_option linter.unusedSimpArgs false

/- Package parse: an implication. -/
namespace Go.Proofs.YtfkfnbehdcmgeaaGreatDoor
open Go Go.RowKit
set_option maxRecDepth 100000 in
set_option maxHeartbeats 8000000 in
theorem imp_of {r d lo : Nat} {ts : List (Int × ByteArray × Int)} {g : Ru → Nat → Nat → (Except (Int × Int) (Ex × Nat))} (hT : TsOk ts) (hO : RuC 117 r ts d lo (orR ts g d)) (hI : ∀ (w : World) (p : Nat), lo + 1 ≤ p → RD w r ts p d → Calls Tryz.prog 73 #[.pointer (some ⟨r, 0, none⟩), .bool (begU ts p), .func (.func 115) #[.pointer (some ⟨r, 0, none⟩)] #[]] w (PE (g .rI d p) r ts p d w)) {w : World} {p : Nat} (hlo : lo ≤ p) (hR : RD w r ts p d) : Calls Tryz.prog 115 #[.pointer (some ⟨r, 0, none⟩)] w (PE (impR ts g d p) r ts p d w) := by
  obtain ⟨Y, hY⟩ : ∃ Y, impR ts g d p = Y := ⟨_, rfl⟩
  rw [hY]
  unfold impR at hY
  have hr := hR.rlt
  obtain ⟨A, eA, hbA, hzA, hsA⟩ := zb_new w
  have HB := hide (But.of (r := r) hbA)
  have HR := hide (hR.keep hbA)
  have HZ := hide hzA
  have HS : Hid (w.heap.size < A.heap.size) := by show _ < _; omega
  have HL : Hid (p ≤ p ∧ lo ≤ p) := ⟨Nat.le_refl _, hlo⟩
  have HE := hide eA
  have HT := hide hT
  have HY := hide hY
  have hrne : r ≠ w.heap.size := by omega
  have hmf : ∀ (fn : Fn) (first cap : Array Value) (w : World), (Instr.makeFunc fn first cap).run Tryz.prog w = .ok (.func fn first cap) w := fun _ _ _ _ => rfl
  replace hO := hide hO
  replace hI := hide hI
  clear hlo hR hbA hzA hsA eA hT hY
  go_enter Tryz.func115, Tryz.ntmps115
  have HC0 := hide (unhide hO A (p) (unhide HL).2 (unhide HR))
  go_wp2_with fail
  rw [unhide HE]
  refine (unhide HC0).mono ?_
  intro e w0 h0
  rcases hX0 : orR ts g d (p) with er | ⟨t0, q0⟩
  · rw [hX0] at h0
    obtain ⟨ei, en⟩ := er
    have hYe : Y = .error (ei, en) := by have h := unhide HY; rw [hX0] at h; exact h.symm
    subst hYe
    obtain ⟨hb0, h0⟩ := h0
    obtain rfl : e = _ := h0
    have HP := hide ((unhide HB).trans hb0)
    clear hb0 HC0 hX0
    go_wp2
    exact ⟨rfl, unhide HP, rfl⟩
  rw [hX0] at h0
  obtain ⟨hb0, hle0, hR0, v0, rfl, hv0⟩ := h0
  have hY0 := unhide HY
  rw [hX0] at hY0
  simp only [thenR] at hY0
  replace HY := hide hY0
  clear hY0
  obtain ⟨i0, j0, s0, m0, b0, a0, n0, c0, rfl⟩ := hv0.form
  have HT0 := hide (hv0.keep (lo' := w.heap.size + 1) (Stays.of (Below.refl _ _)) (unhide HS))
  replace HB := hide ((unhide HB).trans hb0)
  replace HZ := hide ((unhide HZ).but hb0 hrne)
  replace HS := hide (Nat.lt_of_lt_of_le (unhide HS) hb0.size)
  replace HR := hide hR0
  replace HL := hide (And.intro (Nat.le_trans (unhide HL).1 hle0) (Nat.le_trans (unhide HL).2 hle0))
  clear hb0 hle0 hR0 hv0 HC0 hX0
  obtain ⟨B1, eB1, hbB1, hsB1, hhB1⟩ := box_new w0 #[.int .i64 i0, .string s0, .string m0, .bool b0, .slice a0 n0 c0, .int .i64 0, .int .i64 j0] 36
  have ne1 : r ≠ w0.heap.size := by have := unhide HS; omega
  have hbu2 := But.of (r := r) hbB1
  replace HR := hide ((unhide HR).keep hbB1)
  replace HB := hide ((unhide HB).trans hbu2)
  replace HZ := hide ((unhide HZ).but hbu2 hrne)
  replace HT0 := hide ((unhide HT0).keep (Stays.but hbu2 (Nat.lt_succ_of_lt hr)) (Nat.le_refl _))
  replace HS := hide (Nat.lt_of_lt_of_le (unhide HS) hbu2.size)
  have HX1 := hide hhB1
  have HEB1 := hide eB1
  have HSB1 := hide hsB1
  clear eB1 hbB1 hhB1 hsB1
  have HC3 := hide (sees_any (unhide HR) (unhide HT) ⟨#[61, 61, 62]⟩)
  obtain ⟨bo3, hbo3⟩ : ∃ b, sees ts (q0) ⟨#[61, 61, 62]⟩ = b := ⟨_, rfl⟩
  rw [hbo3] at HC3
  have hY3 := unhide HY
  rw [hbo3] at hY3
  replace HY := hide hY3
  have HO3 := hide hbo3
  clear hY3 hbo3
  go_wp2_with fail
  rw [unhide HEB1]
  refine (unhide HC3).mono ?_
  rintro e w3 ⟨rfl, hb3⟩
  have hbu4 := But.of (r := r) hb3
  replace HR := hide ((unhide HR).keep hb3)
  replace HB := hide ((unhide HB).trans hbu4)
  replace HZ := hide ((unhide HZ).but hbu4 hrne)
  replace HX1 := hide ((hbu4.block _ (blk (unhide HX1)).1 (Ne.symm ne1)).trans (unhide HX1))
  replace HT0 := hide ((unhide HT0).keep (Stays.but hbu4 (Nat.lt_succ_of_lt hr)) (Nat.le_refl _))
  replace HS := hide (Nat.lt_of_lt_of_le (unhide HS) hbu4.size)
  clear hb3 HC3
  rcases bo3 with _ | _
  · have hY3 := unhide HY
    simp only [Bool.false_eq_true, if_false] at hY3
    replace HY := hide hY3
    clear hY3
    obtain ⟨y01, y11, y21, y31, y41, y51, y61⟩ := blk7 (unhide HX1)
    obtain ⟨y0, y1, y2, y3, y4, y5, y6⟩ := blk7 (unhide HZ)
    obtain ⟨z0, z1, z2, z3, z4, z5, z6⟩ := frz7 (unhide HZ)
    have HNode := hide (unhide HT0)
    go_wp2
    exact ret_put rfl rfl rfl (unhide HB) hr (unhide HZ) (by have h := unhide HY; exact h.symm) (unhide HL).1 (unhide HR) (Nat.lt_succ_self _) (unhide HNode)
  have hY3 := unhide HY
  simp only [if_true] at hY3
  replace HY := hide hY3
  clear hY3
  have HC5 := hide (take_any (unhide HR) (unhide HT) (nx_txt (unhide HT) (unhide HR).lt (by rw [sees_txt (unhide HO3)]; decide)))
  unfold tkV at HC5
  obtain ⟨⟨kk5, T5, at5⟩, hN5⟩ : ∃ X, nx ts q0 = X := ⟨_, rfl⟩
  rw [hN5] at HC5
  have HN5 := hide hN5
  clear hN5
  go_wp2_with fail
  refine (unhide HC5).mono ?_
  rintro e w5 ⟨rfl, hb5, hR5⟩
  replace HB := hide ((unhide HB).trans hb5)
  replace HZ := hide ((unhide HZ).but hb5 hrne)
  replace HX1 := hide ((hb5.block _ (blk (unhide HX1)).1 (Ne.symm ne1)).trans (unhide HX1))
  replace HT0 := hide ((unhide HT0).keep (Stays.but hb5 (Nat.lt_succ_of_lt hr)) (Nat.le_refl _))
  replace HS := hide (Nat.lt_of_lt_of_le (unhide HS) hb5.size)
  replace HR := hide hR5
  replace HL : Hid (p ≤ q0 + 1 ∧ lo + 1 ≤ q0 + 1) := And.intro (Nat.le_succ_of_le (unhide HL).1) (Nat.succ_le_succ (unhide HL).2)
  clear hb5 hR5 HC5
  obtain ⟨B6, eB6, hbB6, hsB6, hhB6⟩ := box_new w5 #[.int .i64 kk5, .string T5, .int .i64 at5] 74
  have ne6 : r ≠ w5.heap.size := by have := unhide HS; omega
  have hbu7 := But.of (r := r) hbB6
  replace HR := hide ((unhide HR).keep hbB6)
  replace HB := hide ((unhide HB).trans hbu7)
  replace HZ := hide ((unhide HZ).but hbu7 hrne)
  replace HX1 := hide ((hbu7.block _ (blk (unhide HX1)).1 (Ne.symm ne1)).trans (unhide HX1))
  replace HT0 := hide ((unhide HT0).keep (Stays.but hbu7 (Nat.lt_succ_of_lt hr)) (Nat.le_refl _))
  replace HS := hide (Nat.lt_of_lt_of_le (unhide HS) hbu7.size)
  have HX6 := hide hhB6
  have HEB6 := hide eB6
  have HSB6 := hide hsB6
  clear eB6 hbB6 hhB6 hsB6
  have HC8 := hide (begU_any (unhide HR) (unhide HT))
  go_wp2_with fail
  rw [unhide HEB6]
  refine (unhide HC8).mono ?_
  rintro e w8 ⟨rfl, hb8⟩
  have hbu9 := But.of (r := r) hb8
  replace HR := hide ((unhide HR).keep hb8)
  replace HB := hide ((unhide HB).trans hbu9)
  replace HZ := hide ((unhide HZ).but hbu9 hrne)
  replace HX1 := hide ((hbu9.block _ (blk (unhide HX1)).1 (Ne.symm ne1)).trans (unhide HX1))
  replace HX6 := hide ((hbu9.block _ (blk (unhide HX6)).1 (Ne.symm ne6)).trans (unhide HX6))
  replace HT0 := hide ((unhide HT0).keep (Stays.but hbu9 (Nat.lt_succ_of_lt hr)) (Nat.le_refl _))
  replace HS := hide (Nat.lt_of_lt_of_le (unhide HS) hbu9.size)
  clear hb8 HC8
  have HC10 := hide (unhide hI w8 (q0 + 1) (unhide HL).2 (unhide HR))
  go_wp2_with fail
  refine (unhide HC10).mono ?_
  intro e w10 h10
  rcases hX10 : g .rI d (q0 + 1) with er | ⟨t10, q10⟩
  · rw [hX10] at h10
    obtain ⟨ei, en⟩ := er
    have hYe : Y = .error (ei, en) := by have h := unhide HY; rw [hX10] at h; exact h.symm
    subst hYe
    obtain ⟨hb10, h10⟩ := h10
    obtain rfl : e = _ := h10
    have HP := hide ((unhide HB).trans hb10)
    clear hb10 HC10 hX10
    go_wp2
    exact ⟨rfl, unhide HP, rfl⟩
  rw [hX10] at h10
  obtain ⟨hb10, hle10, hR10, v10, rfl, hv10⟩ := h10
  have hY10 := unhide HY
  rw [hX10] at hY10
  simp only [thenR] at hY10
  replace HY := hide hY10
  clear hY10
  obtain ⟨i10, j10, s10, m10, b10, a10, n10, c10, rfl⟩ := hv10.form
  have HT10 := hide (hv10.keep (lo' := w.heap.size + 1) (Stays.of (Below.refl _ _)) (unhide HS))
  replace HB := hide ((unhide HB).trans hb10)
  replace HZ := hide ((unhide HZ).but hb10 hrne)
  replace HX1 := hide ((hb10.block _ (blk (unhide HX1)).1 (Ne.symm ne1)).trans (unhide HX1))
  replace HX6 := hide ((hb10.block _ (blk (unhide HX6)).1 (Ne.symm ne6)).trans (unhide HX6))
  replace HT0 := hide ((unhide HT0).keep (Stays.but hb10 (Nat.lt_succ_of_lt hr)) (Nat.le_refl _))
  replace HS := hide (Nat.lt_of_lt_of_le (unhide HS) hb10.size)
  replace HR := hide hR10
  replace HL := hide (And.intro (Nat.le_trans (unhide HL).1 hle10) (Nat.le_trans (unhide HL).2 hle10))
  clear hb10 hle10 hR10 hv10 HC10 hX10
  obtain ⟨B11, eB11, hbB11, hsB11, hhB11⟩ := box_new w10 #[.int .i64 i10, .string s10, .string m10, .bool b10, .slice a10 n10 c10, .int .i64 0, .int .i64 j10] 36
  have ne11 : r ≠ w10.heap.size := by have := unhide HS; omega
  have hbu12 := But.of (r := r) hbB11
  replace HR := hide ((unhide HR).keep hbB11)
  replace HB := hide ((unhide HB).trans hbu12)
  replace HZ := hide ((unhide HZ).but hbu12 hrne)
  replace HX1 := hide ((hbu12.block _ (blk (unhide HX1)).1 (Ne.symm ne1)).trans (unhide HX1))
  replace HX6 := hide ((hbu12.block _ (blk (unhide HX6)).1 (Ne.symm ne6)).trans (unhide HX6))
  replace HT0 := hide ((unhide HT0).keep (Stays.but hbu12 (Nat.lt_succ_of_lt hr)) (Nat.le_refl _))
  replace HT10 := hide ((unhide HT10).keep (Stays.but hbu12 (Nat.lt_succ_of_lt hr)) (Nat.le_refl _))
  replace HS := hide (Nat.lt_of_lt_of_le (unhide HS) hbu12.size)
  have HX11 := hide hhB11
  have HEB11 := hide eB11
  have HSB11 := hide hsB11
  clear eB11 hbB11 hhB11 hsB11
  have u06 := (blk (unhide HX6)).2.1 0 _ rfl
  have u16 := (blk (unhide HX6)).2.1 1 _ rfl
  have u26 := (blk (unhide HX6)).2.1 2 _ rfl
  obtain ⟨y01, y11, y21, y31, y41, y51, y61⟩ := blk7 (unhide HX1)
  obtain ⟨y011, y111, y211, y311, y411, y511, y611⟩ := blk7 (unhide HX11)
  rw [← unhide HEB11] at u06 u16 u26 y01 y11 y21 y31 y41 y51 y61 y011 y111 y211 y311 y411 y511 y611
  go_wp2_with fail
  rw [unhide HEB11]
  clear u06 u16 u26 y01 y11 y21 y31 y41 y51 y61 y011 y111 y211 y311 y411 y511 y611
  refine (made_any _ _ _ _ _ _ _ _).mono ?_
  rintro e w13 ⟨rfl, hb13⟩
  obtain ⟨C13, eC13, hbC13, hsC13, hhC13⟩ := box_new B11 #[.int .i64 i0, .string s0, .string m0, .bool b0, .slice a0 n0 c0, .int .i64 0, .int .i64 j0, .int .i64 i10, .string s10, .string m10, .bool b10, .slice a10 n10 c10, .int .i64 0, .int .i64 j10] 36
  rw [eC13] at hb13
  have hnode := node (l := [t0, t10]) (vs := [[.int .i64 i0, .string s0, .string m0, .bool b0, .slice a0 n0 c0, .int .i64 0, .int .i64 j0], [.int .i64 i10, .string s10, .string m10, .bool b10, .slice a10 n10 c10, .int .i64 0, .int .i64 j10]]) 20 at5 ⟨#[]⟩ ⟨#[]⟩ false eC13 rfl (by simp) rfl (by simp) (unhide HS) (fun j v t hv ht => by
    rcases j with _ | _ | j
    · obtain rfl := Option.some.inj hv
      obtain rfl := Option.some.inj ht
      exact unhide HT0
    · obtain rfl := Option.some.inj hv
      obtain rfl := Option.some.inj ht
      exact unhide HT10
    · simp at hv)
  rw [unhide HSB11] at hnode
  have hbCb := hbC13.trans (hb13.mono hbC13.size)
  replace hnode := hnode.keep (Stays.of hb13) (Nat.le_refl _)
  have hbu14 := But.of (r := r) hbCb
  replace HR := hide ((unhide HR).keep hbCb)
  replace HB := hide ((unhide HB).trans hbu14)
  replace HZ := hide ((unhide HZ).but hbu14 hrne)
  replace HX1 := hide ((hbu14.block _ (blk (unhide HX1)).1 (Ne.symm ne1)).trans (unhide HX1))
  replace HX6 := hide ((hbu14.block _ (blk (unhide HX6)).1 (Ne.symm ne6)).trans (unhide HX6))
  replace HX11 := hide ((hbu14.block _ (blk (unhide HX11)).1 (Ne.symm ne11)).trans (unhide HX11))
  replace HS := hide (Nat.lt_of_lt_of_le (unhide HS) hbu14.size)
  obtain ⟨y0, y1, y2, y3, y4, y5, y6⟩ := blk7 (unhide HZ)
  obtain ⟨z0, z1, z2, z3, z4, z5, z6⟩ := frz7 (unhide HZ)
  have HNode := hide hnode
  go_wp2
  exact ret_put rfl rfl rfl (unhide HB) hr (unhide HZ) (by have h := unhide HY; rw [unhide HN5] at h; exact h.symm) (unhide HL).1 (unhide HR) (Nat.lt_succ_self _) (unhide HNode)
end Go.Proofs.YtfkfnbehdcmgeaaGreatDoor

/- Package parse: an expression. -/
namespace Go.Proofs.YtfkfnbehdcmgeaaGreatDoor
open Go Go.RowKit
/-- A rule's contract, where the next token is not the end. -/
def RuC1 (f : Nat) (r : Nat) (ts : List (Int × ByteArray × Int)) (d lo : Nat) (X : Nat → (Except (Int × Int) (Ex × Nat))) : Prop := ∀ (w : World) (p : Nat), lo ≤ p → p + 1 < ts.length → RD w r ts p d → Calls Tryz.prog f #[.pointer (some ⟨r, 0, none⟩)] w (PE (X p) r ts p d w)
set_option maxRecDepth 100000 in
set_option maxHeartbeats 8000000 in
theorem within_of {r d lo : Nat} {ts : List (Int × ByteArray × Int)} {g : Ru → Nat → Nat → (Except (Int × Int) (Ex × Nat))} (hT : TsOk ts) (hBr : RuC1 95 r ts d lo (branchR ts g d)) (hBi : RuC1 96 r ts d lo (bindR ts g d)) (hHa : RuC1 97 r ts d lo (tryR ts g d)) (hSe : RuC 98 r ts d lo (seqR ts g d)) {w : World} {p : Nat} (hlo : lo ≤ p) (hR : RD w r ts p d) : Calls Tryz.prog 75 #[.pointer (some ⟨r, 0, none⟩)] w (PE (withinR ts g d p) r ts p d w) := by
  obtain ⟨Y, hY⟩ : ∃ Y, withinR ts g d p = Y := ⟨_, rfl⟩
  rw [hY]
  unfold withinR at hY
  have hr := hR.rlt
  obtain ⟨A, eA, hbA, hzA, hsA⟩ := zb_new w
  have HB := hide (But.of (r := r) hbA)
  have HR := hide (hR.keep hbA)
  have HZ := hide hzA
  have HS : Hid (w.heap.size < A.heap.size) := by show _ < _; omega
  have HL : Hid (p ≤ p ∧ lo ≤ p) := ⟨Nat.le_refl _, hlo⟩
  have HE := hide eA
  have HT := hide hT
  have HY := hide hY
  have hrne : r ≠ w.heap.size := by omega
  have hmf : ∀ (fn : Fn) (first cap : Array Value) (w : World), (Instr.makeFunc fn first cap).run Tryz.prog w = .ok (.func fn first cap) w := fun _ _ _ _ => rfl
  replace hBr := hide hBr
  replace hBi := hide hBi
  replace hHa := hide hHa
  replace hSe := hide hSe
  clear hlo hR hbA hzA hsA eA hT hY
  go_enter Tryz.func75, Tryz.ntmps75
  have HC0 := hide (next_any (unhide HR) (unhide HT))
  unfold tkV at HC0
  obtain ⟨⟨kk0, T0, at0⟩, hN0⟩ : ∃ X, nx ts p = X := ⟨_, rfl⟩
  rw [hN0] at HC0
  have HN0 := hide hN0
  clear hN0
  go_wp2_with fail
  rw [unhide HE]
  refine (unhide HC0).mono ?_
  rintro e w0 ⟨rfl, hb0⟩
  have hbu1 := But.of (r := r) hb0
  replace HR := hide ((unhide HR).keep hb0)
  replace HB := hide ((unhide HB).trans hbu1)
  replace HZ := hide ((unhide HZ).but hbu1 hrne)
  replace HS := hide (Nat.lt_of_lt_of_le (unhide HS) hbu1.size)
  clear hb0 HC0
  have hf1 := fld1 (.int .i64 kk0) (.string T0) (.int .i64 at0)
  have hx2 : txt ts (p) = T0 := by unfold txt; rw [unhide HN0]
  by_cases hT2 : T0 = ⟨#[105, 102]⟩
  · have e2 : (T0.toList == [105, 102]) = true := (eqb T0 ⟨#[105, 102]⟩ [105, 102] rfl).mp hT2
    have hp1 := nx_txt (unhide HT) (unhide HR).lt (by rw [hx2, hT2]; decide)
    have hY2 := unhide HY
    rw [if_pos (hx2.trans hT2)] at hY2
    replace HY := hide hY2
    replace hp1 := hide hp1
    clear hY2 hx2 hT2
    have HC3 := hide (unhide hBr w0 (p) (unhide HL).2 (unhide hp1) (unhide HR))
    go_wp2_with fail
    refine (unhide HC3).mono ?_
    intro e w3 h3
    rcases hX3 : branchR ts g d (p) with er | ⟨t3, q3⟩
    · rw [hX3] at h3
      obtain ⟨ei, en⟩ := er
      have hYe : Y = .error (ei, en) := by have h := unhide HY; rw [hX3] at h; exact h.symm
      subst hYe
      obtain ⟨hb3, h3⟩ := h3
      obtain rfl : e = _ := h3
      have HP := hide ((unhide HB).trans hb3)
      clear hb3 HC3 hX3
      go_wp2
      exact ⟨rfl, unhide HP, rfl⟩
    rw [hX3] at h3
    obtain ⟨hb3, hle3, hR3, v3, rfl, hv3⟩ := h3
    have hY3 := unhide HY
    rw [hX3] at hY3
    replace HY := hide hY3
    clear hY3
    obtain ⟨i3, j3, s3, m3, b3, a3, n3, c3, rfl⟩ := hv3.form
    have HT3 := hide (hv3.keep (lo' := w.heap.size + 1) (Stays.of (Below.refl _ _)) (unhide HS))
    replace HB := hide ((unhide HB).trans hb3)
    replace HZ := hide ((unhide HZ).but hb3 hrne)
    replace HS := hide (Nat.lt_of_lt_of_le (unhide HS) hb3.size)
    replace HR := hide hR3
    replace HL := hide (And.intro (Nat.le_trans (unhide HL).1 hle3) (Nat.le_trans (unhide HL).2 hle3))
    clear hb3 hle3 hR3 hv3 HC3 hX3
    obtain ⟨y0, y1, y2, y3, y4, y5, y6⟩ := blk7 (unhide HZ)
    obtain ⟨z0, z1, z2, z3, z4, z5, z6⟩ := frz7 (unhide HZ)
    have HNode := hide (unhide HT3)
    go_wp2
    exact ret_put rfl rfl rfl (unhide HB) hr (unhide HZ) (by have h := unhide HY; exact h.symm) (unhide HL).1 (unhide HR) (Nat.lt_succ_self _) (unhide HNode)
  have e2 : (T0.toList == [105, 102]) = false := by have h := hT2; rw [eqb T0 ⟨#[105, 102]⟩ [105, 102] rfl] at h; simpa using h
  have hY2 := unhide HY
  rw [if_neg (fun h => hT2 (hx2.symm.trans h))] at hY2
  replace HY := hide hY2
  clear hY2 hx2 hT2
  have hx4 : txt ts (p) = T0 := by unfold txt; rw [unhide HN0]
  by_cases hT4 : T0 = ⟨#[108, 101, 116]⟩
  · have e4 : (T0.toList == [108, 101, 116]) = true := (eqb T0 ⟨#[108, 101, 116]⟩ [108, 101, 116] rfl).mp hT4
    have hp1 := nx_txt (unhide HT) (unhide HR).lt (by rw [hx4, hT4]; decide)
    have hY4 := unhide HY
    rw [if_pos (hx4.trans hT4)] at hY4
    replace HY := hide hY4
    replace hp1 := hide hp1
    clear hY4 hx4 hT4
    have HC5 := hide (unhide hBi w0 (p) (unhide HL).2 (unhide hp1) (unhide HR))
    go_wp2_with fail
    refine (unhide HC5).mono ?_
    intro e w5 h5
    rcases hX5 : bindR ts g d (p) with er | ⟨t5, q5⟩
    · rw [hX5] at h5
      obtain ⟨ei, en⟩ := er
      have hYe : Y = .error (ei, en) := by have h := unhide HY; rw [hX5] at h; exact h.symm
      subst hYe
      obtain ⟨hb5, h5⟩ := h5
      obtain rfl : e = _ := h5
      have HP := hide ((unhide HB).trans hb5)
      clear hb5 HC5 hX5
      go_wp2
      exact ⟨rfl, unhide HP, rfl⟩
    rw [hX5] at h5
    obtain ⟨hb5, hle5, hR5, v5, rfl, hv5⟩ := h5
    have hY5 := unhide HY
    rw [hX5] at hY5
    replace HY := hide hY5
    clear hY5
    obtain ⟨i5, j5, s5, m5, b5, a5, n5, c5, rfl⟩ := hv5.form
    have HT5 := hide (hv5.keep (lo' := w.heap.size + 1) (Stays.of (Below.refl _ _)) (unhide HS))
    replace HB := hide ((unhide HB).trans hb5)
    replace HZ := hide ((unhide HZ).but hb5 hrne)
    replace HS := hide (Nat.lt_of_lt_of_le (unhide HS) hb5.size)
    replace HR := hide hR5
    replace HL := hide (And.intro (Nat.le_trans (unhide HL).1 hle5) (Nat.le_trans (unhide HL).2 hle5))
    clear hb5 hle5 hR5 hv5 HC5 hX5
    obtain ⟨y0, y1, y2, y3, y4, y5, y6⟩ := blk7 (unhide HZ)
    obtain ⟨z0, z1, z2, z3, z4, z5, z6⟩ := frz7 (unhide HZ)
    have HNode := hide (unhide HT5)
    go_wp2
    exact ret_put rfl rfl rfl (unhide HB) hr (unhide HZ) (by have h := unhide HY; exact h.symm) (unhide HL).1 (unhide HR) (Nat.lt_succ_self _) (unhide HNode)
  have e4 : (T0.toList == [108, 101, 116]) = false := by have h := hT4; rw [eqb T0 ⟨#[108, 101, 116]⟩ [108, 101, 116] rfl] at h; simpa using h
  have hY4 := unhide HY
  rw [if_neg (fun h => hT4 (hx4.symm.trans h))] at hY4
  replace HY := hide hY4
  clear hY4 hx4 hT4
  have hx6 : txt ts (p) = T0 := by unfold txt; rw [unhide HN0]
  by_cases hT6 : T0 = ⟨#[116, 114, 121]⟩
  · have e6 : (T0.toList == [116, 114, 121]) = true := (eqb T0 ⟨#[116, 114, 121]⟩ [116, 114, 121] rfl).mp hT6
    have hp1 := nx_txt (unhide HT) (unhide HR).lt (by rw [hx6, hT6]; decide)
    have hY6 := unhide HY
    rw [if_pos (hx6.trans hT6)] at hY6
    replace HY := hide hY6
    replace hp1 := hide hp1
    clear hY6 hx6 hT6
    have HC7 := hide (unhide hHa w0 (p) (unhide HL).2 (unhide hp1) (unhide HR))
    go_wp2_with fail
    refine (unhide HC7).mono ?_
    intro e w7 h7
    rcases hX7 : tryR ts g d (p) with er | ⟨t7, q7⟩
    · rw [hX7] at h7
      obtain ⟨ei, en⟩ := er
      have hYe : Y = .error (ei, en) := by have h := unhide HY; rw [hX7] at h; exact h.symm
      subst hYe
      obtain ⟨hb7, h7⟩ := h7
      obtain rfl : e = _ := h7
      have HP := hide ((unhide HB).trans hb7)
      clear hb7 HC7 hX7
      go_wp2
      exact ⟨rfl, unhide HP, rfl⟩
    rw [hX7] at h7
    obtain ⟨hb7, hle7, hR7, v7, rfl, hv7⟩ := h7
    have hY7 := unhide HY
    rw [hX7] at hY7
    replace HY := hide hY7
    clear hY7
    obtain ⟨i7, j7, s7, m7, b7, a7, n7, c7, rfl⟩ := hv7.form
    have HT7 := hide (hv7.keep (lo' := w.heap.size + 1) (Stays.of (Below.refl _ _)) (unhide HS))
    replace HB := hide ((unhide HB).trans hb7)
    replace HZ := hide ((unhide HZ).but hb7 hrne)
    replace HS := hide (Nat.lt_of_lt_of_le (unhide HS) hb7.size)
    replace HR := hide hR7
    replace HL := hide (And.intro (Nat.le_trans (unhide HL).1 hle7) (Nat.le_trans (unhide HL).2 hle7))
    clear hb7 hle7 hR7 hv7 HC7 hX7
    obtain ⟨y0, y1, y2, y3, y4, y5, y6⟩ := blk7 (unhide HZ)
    obtain ⟨z0, z1, z2, z3, z4, z5, z6⟩ := frz7 (unhide HZ)
    have HNode := hide (unhide HT7)
    go_wp2
    exact ret_put rfl rfl rfl (unhide HB) hr (unhide HZ) (by have h := unhide HY; exact h.symm) (unhide HL).1 (unhide HR) (Nat.lt_succ_self _) (unhide HNode)
  have e6 : (T0.toList == [116, 114, 121]) = false := by have h := hT6; rw [eqb T0 ⟨#[116, 114, 121]⟩ [116, 114, 121] rfl] at h; simpa using h
  have hY6 := unhide HY
  rw [if_neg (fun h => hT6 (hx6.symm.trans h))] at hY6
  replace HY := hide hY6
  clear hY6 hx6 hT6
  have HC8 := hide (unhide hSe w0 (p) (unhide HL).2 (unhide HR))
  go_wp2_with fail
  refine (unhide HC8).mono ?_
  intro e w8 h8
  rcases hX8 : seqR ts g d (p) with er | ⟨t8, q8⟩
  · rw [hX8] at h8
    obtain ⟨ei, en⟩ := er
    have hYe : Y = .error (ei, en) := by have h := unhide HY; rw [hX8] at h; exact h.symm
    subst hYe
    obtain ⟨hb8, h8⟩ := h8
    obtain rfl : e = _ := h8
    have HP := hide ((unhide HB).trans hb8)
    clear hb8 HC8 hX8
    go_wp2
    exact ⟨rfl, unhide HP, rfl⟩
  rw [hX8] at h8
  obtain ⟨hb8, hle8, hR8, v8, rfl, hv8⟩ := h8
  have hY8 := unhide HY
  rw [hX8] at hY8
  replace HY := hide hY8
  clear hY8
  obtain ⟨i8, j8, s8, m8, b8, a8, n8, c8, rfl⟩ := hv8.form
  have HT8 := hide (hv8.keep (lo' := w.heap.size + 1) (Stays.of (Below.refl _ _)) (unhide HS))
  replace HB := hide ((unhide HB).trans hb8)
  replace HZ := hide ((unhide HZ).but hb8 hrne)
  replace HS := hide (Nat.lt_of_lt_of_le (unhide HS) hb8.size)
  replace HR := hide hR8
  replace HL := hide (And.intro (Nat.le_trans (unhide HL).1 hle8) (Nat.le_trans (unhide HL).2 hle8))
  clear hb8 hle8 hR8 hv8 HC8 hX8
  obtain ⟨y0, y1, y2, y3, y4, y5, y6⟩ := blk7 (unhide HZ)
  obtain ⟨z0, z1, z2, z3, z4, z5, z6⟩ := frz7 (unhide HZ)
  have HNode := hide (unhide HT8)
  go_wp2
  exact ret_put rfl rfl rfl (unhide HB) hr (unhide HZ) (by have h := unhide HY; exact h.symm) (unhide HL).1 (unhide HR) (Nat.lt_succ_self _) (unhide HNode)
end Go.Proofs.YtfkfnbehdcmgeaaGreatDoor

/- A drawn region whose world-changing operations come one behind the other; the last of them may be a store. -/
namespace Go.Proofs.YtfkfnbehdcmgeaaGreatDoor
open Go Go.RowKit
def upL (L : Nat → Bool) (i : Nat) : Nat → Bool := fun j => if j = i then true else L j
def upS (s : Nat → Value) (i : Nat) (v : Value) : Nat → Value := fun j => if j = i then v else s j
theorem upL_same (L : Nat → Bool) (i : Nat) : upL L i i = true := if_pos rfl
theorem upL_other {L : Nat → Bool} {i j : Nat} (h : j ≠ i) : upL L i j = L j := if_neg h
theorem upS_same (s : Nat → Value) (i : Nat) (v : Value) : upS s i v i = v := if_pos rfl
theorem upS_other {s : Nat → Value} {i j : Nat} {v : Value} (h : j ≠ i) : upS s i v j = s j := if_neg h
section
variable {P : Program} {X : Exit → Act → World → Prop}
theorem seqP {l : List Oper} {a0 : Act} {w0 : World} (N : Nat) (kept : List Nat) (Φ : Nat → Value → Prop) (chn : Nat → Bool) (Q : (Nat → Bool) → (Nat → Value) → World → Prop)
    (hg : fitF N 0 kept l = true) (hN : a0.tmps.size = N)
    (hlt : ∀ i, chn i = true → i < l.length)
    (h0 : Q (fun _ => false) (slotOf l.toArray a0) w0)
    (hloc : ∀ (L L' : Nat → Bool) (s s' : Nat → Value) (w : World), (∀ i, chn i = true → L i = L' i ∧ ((l.getD i default).dst.isSome = true → s i = s' i)) → Q L s w → Q L' s' w)
    (hsome : ∀ i o, l[i]? = some o → o.dst = none → chn i = true ∧ ∀ v, Φ i v)
    (hpure : ∀ i, i < l.length → chn i = false → ∀ (a : Act) (w : World) (L : Nat → Bool), a.defers = a0.defers → a.tmps.size = N → (∀ k, k ∈ kept → a.tmps[k]? = a0.tmps[k]?) → (∀ j, (preds (l.getD i default)).contains j = true → Φ j (slotOf l.toArray a j)) → Q L (slotOf l.toArray a) w →
      if Region.wanted (l.getD i default) (yielded l.toArray a.tmps) then (l.getD i default).wp P a w (fun a' w' => ∃ v, a' = a.put (l.getD i default).dst v ∧ w' = w ∧ Φ i v) X else Φ i undef)
    (hch : ∀ i, chn i = true → ∀ (a : Act) (w : World) (L : Nat → Bool), a.defers = a0.defers → a.tmps.size = N → (∀ k, k ∈ kept → a.tmps[k]? = a0.tmps[k]?) → (∀ j, (preds (l.getD i default)).contains j = true → L j = true ∧ Φ j (slotOf l.toArray a j)) → L i = false → (∀ j, j < l.length → L j = true → ∀ k, (preds (l.getD j default)).contains k = true → L k = true) → Q L (slotOf l.toArray a) w →
      if Region.wanted (l.getD i default) (yielded l.toArray a.tmps) then (l.getD i default).wp P a w (fun a' w' => ∃ v, a' = a.put (l.getD i default).dst v ∧ ((l.getD i default).dst.isSome = true → Φ i v) ∧ Q (upL L i) (upS (slotOf l.toArray a) i v) w') X else ((l.getD i default).dst.isSome = true → Φ i undef) ∧ Q (upL L i) (upS (slotOf l.toArray a) i undef) w)
    (hend : ∀ (a : Act) (w : World), a.defers = a0.defers → a.tmps.size = N → (∀ k, k ∈ kept → a.tmps[k]? = a0.tmps[k]?) → (∀ i, i < l.length → Φ i (slotOf l.toArray a i)) → Q (fun _ => true) (slotOf l.toArray a) w → X .normal a w) :
    wpAny P .any l.toArray X l.toArray.size (Array.replicate l.toArray.size false) a0 w0 := by
  have hgd : ∀ (i : Nat) (o : Oper), l[i]? = some o → l.getD i default = o := fun i o ho => by simp [List.getD_eq_getElem?_getD, ho]
  have hspec := fitF_spec l 0 kept hg
  have hslot : ∀ (i : Nat) (o : Oper) (k : Nat) (ok : Oper) (a : Act) (v : Value), l[i]? = some o → l[k]? = some ok → ok.dst.isSome = true → k ≠ i → slotOf l.toArray (a.put o.dst v) k = slotOf l.toArray a k := fun i o k ok a v ho hk hks hne => by
    obtain ⟨dk, hdk⟩ := Option.isSome_iff_exists.1 hks
    have hk' : l.toArray[k]? = some ok := by simpa using hk
    cases hd : o.dst with
    | none => rfl
    | some d =>
      refine slot_put_other hk' hdk fun e => ?_
      subst e
      rcases Nat.lt_or_gt_of_ne hne with h | h
      · exact ((hspec i o ho).2 d hd).2.2 k ok h hk hdk
      · exact ((hspec k ok hk).2 d hdk).2.2 i o h ho hd
  have hself : ∀ (i : Nat) (o : Oper) (a : Act) (v : Value), l[i]? = some o → o.dst.isSome = true → a.tmps.size = N → slotOf l.toArray (a.put o.dst v) i = v := fun i o a v ho hs hn => by
    obtain ⟨d, hd⟩ := Option.isSome_iff_exists.1 hs
    have ho' : l.toArray[i]? = some o := by simpa using ho
    exact slot_put_same (a := a) (v := v) ho' hd (by have := ((hspec i o ho).2 d hd).2.1; omega)
  have hget : ∀ (listed : Array Bool) (i j : Nat), i ≠ j → (listed.setIfInBounds i true).getD j false = listed.getD j false := fun listed i j e => getD_set_ne false e
  refine stepsF N kept Φ (fun listed a w => Q (fun j => listed.getD j false) (slotOf l.toArray a) w) hg hN ?_ ?_ ?_ ?_
  · have hrep : ∀ i, (Array.replicate l.length false).getD i false = false := fun i => by
      simp only [Array.getD_eq_getD_getElem?, Array.getElem?_replicate]
      split <;> rfl
    exact hloc _ _ _ _ w0 (fun i _ => ⟨(hrep i).symm, fun _ => rfl⟩) h0
  · intro i o ho listed a w hsz hun hdown hdf hn hk hpr hQ
    have hi := (List.getElem?_eq_some_iff.1 ho).1
    have hun' : listed.getD i false = false := by
      have h1 : i < listed.size := by omega
      simpa [h1] using hun
    have hset : (listed.setIfInBounds i true).getD i false = true := by
      have h1 : i < listed.size := by omega
      simp [h1]
    have ed := hgd i o ho
    cases hc : chn i with
    | false =>
      have hkeep : ∀ v, Q (fun j => (listed.setIfInBounds i true).getD j false) (slotOf l.toArray (a.put o.dst v)) w := fun v => hloc _ _ _ _ w (fun j hj => by
        have hne : i ≠ j := fun e => by rw [← e, hc] at hj; cases hj
        have hj2 := List.getElem?_eq_getElem (hlt j hj)
        exact ⟨(hget listed i j hne).symm, fun hs => (hslot i o j _ a v ho hj2 (by rw [hgd j _ hj2] at hs; exact hs) (Ne.symm hne)).symm⟩) hQ
      have h := hpure i hi hc a w (fun j => listed.getD j false) hdf hn hk (fun j hj => (hpr j (by rw [ed] at hj; exact hj)).2) hQ
      rw [ed] at h
      split at h
      · rename_i hw
        rw [if_pos hw]
        refine Oper.wp_mono ?_ h
        rintro a' w' ⟨v, rfl, rfl, hv⟩
        exact ⟨v, rfl, fun _ => hv, hkeep v⟩
      · rename_i hw
        rw [if_neg hw]
        exact ⟨fun _ => h, hkeep undef⟩
    | true =>
      have hkeep : ∀ v w', Q (upL (fun j => listed.getD j false) i) (upS (slotOf l.toArray a) i v) w' → Q (fun j => (listed.setIfInBounds i true).getD j false) (slotOf l.toArray (a.put o.dst v)) w' := fun v w' hQ' => hloc _ _ _ _ w' (fun j hj => by
        by_cases ej : j = i
        · subst ej
          rw [upL_same, upS_same]
          exact ⟨hset.symm, fun hs => (hself j o a v ho (by rw [ed] at hs; exact hs) hn).symm⟩
        · rw [upL_other ej, upS_other ej]
          have hj2 := List.getElem?_eq_getElem (hlt j hj)
          exact ⟨(hget listed i j (Ne.symm ej)).symm, fun hs => (hslot i o j _ a v ho hj2 (by rw [hgd j _ hj2] at hs; exact hs) ej).symm⟩) hQ'
      have h := hch i hc a w (fun j => listed.getD j false) hdf hn hk (fun j hj => hpr j (by rw [ed] at hj; exact hj)) hun' (fun j hj h2 k h3 => hdown j _ (List.getElem?_eq_getElem hj) h2 k (by rw [hgd j _ (List.getElem?_eq_getElem hj)] at h3; exact h3)) hQ
      rw [ed] at h
      split at h
      · rename_i hw
        rw [if_pos hw]
        refine Oper.wp_mono ?_ h
        rintro a' w' ⟨v, rfl, hv, hQ'⟩
        exact ⟨v, rfl, hv, hkeep v w' hQ'⟩
      · rename_i hw
        rw [if_neg hw]
        exact ⟨h.1, hkeep undef w h.2⟩
  · exact fun i o ho hd v => (hsome i o ho hd).2 v
  · intro listed a w hsz hall hdf hn hk hΦ hJ
    exact hend a w hdf hn hk hΦ (hloc _ _ _ _ w (fun i hi => ⟨hall i (hlt i hi), fun _ => rfl⟩) hJ)
end
end Go.Proofs.YtfkfnbehdcmgeaaGreatDoor

/- A drawn region whose world-changing operations come one behind the other, stage by stage. -/
namespace Go.Proofs.YtfkfnbehdcmgeaaGreatDoor
open Go Go.RowKit
section
variable {P : Program} {X : Exit → Act → World → Prop}
theorem seqN {l : List Oper} {a0 : Act} {w0 : World} (N : Nat) (kept cs : List Nat) (Φ : Nat → Value → Prop) (St : Nat → (Nat → Value) → World → Prop)
    (hg : fitF N 0 kept l = true) (hN : a0.tmps.size = N) (hnd : cs.Nodup) (hlt : ∀ i ∈ cs, i < l.length)
    (hpred : ∀ k, k + 1 < cs.length → (preds (l.getD (cs.getD (k + 1) 0) default)).contains (cs.getD k 0) = true)
    (hsome : ∀ i o, l[i]? = some o → o.dst = none → i ∈ cs ∧ ∀ v, Φ i v)
    (hloc : ∀ (n : Nat) (s s' : Nat → Value) (w : World), (∀ k, k < cs.length → (l.getD (cs.getD k 0) default).dst.isSome = true → s (cs.getD k 0) = s' (cs.getD k 0)) → St n s w → St n s' w)
    (h0 : St 0 (slotOf l.toArray a0) w0)
    (hpure : ∀ i, i < l.length → i ∉ cs → ∀ (a : Act) (w : World) (n : Nat) (s : Nat → Value), a.defers = a0.defers → a.tmps.size = N → (∀ k, k ∈ kept → a.tmps[k]? = a0.tmps[k]?) → (∀ j, (preds (l.getD i default)).contains j = true → Φ j (slotOf l.toArray a j)) → n ≤ cs.length → St n s w →
      if Region.wanted (l.getD i default) (yielded l.toArray a.tmps) then (l.getD i default).wp P a w (fun a' w' => ∃ v, a' = a.put (l.getD i default).dst v ∧ w' = w ∧ Φ i v) X else Φ i undef)
    (hch : ∀ k, k < cs.length → ∀ (a : Act) (w : World), a.defers = a0.defers → a.tmps.size = N → (∀ j, j ∈ kept → a.tmps[j]? = a0.tmps[j]?) → (∀ j, (preds (l.getD (cs.getD k 0) default)).contains j = true → Φ j (slotOf l.toArray a j)) → St k (slotOf l.toArray a) w →
      if Region.wanted (l.getD (cs.getD k 0) default) (yielded l.toArray a.tmps) then (l.getD (cs.getD k 0) default).wp P a w (fun a' w' => ∃ v, a' = a.put (l.getD (cs.getD k 0) default).dst v ∧ ((l.getD (cs.getD k 0) default).dst.isSome = true → Φ (cs.getD k 0) v) ∧ St (k + 1) (upS (slotOf l.toArray a) (cs.getD k 0) v) w') X else ((l.getD (cs.getD k 0) default).dst.isSome = true → Φ (cs.getD k 0) undef) ∧ St (k + 1) (upS (slotOf l.toArray a) (cs.getD k 0) undef) w)
    (hend : ∀ (a : Act) (w : World), a.defers = a0.defers → a.tmps.size = N → (∀ k, k ∈ kept → a.tmps[k]? = a0.tmps[k]?) → (∀ i, i < l.length → Φ i (slotOf l.toArray a i)) → St cs.length (slotOf l.toArray a) w → X .normal a w) :
    wpAny P .any l.toArray X l.toArray.size (Array.replicate l.toArray.size false) a0 w0 := by
  have hget : ∀ k, k < cs.length → cs.getD k 0 ∈ cs ∧ cs[k]? = some (cs.getD k 0) := fun k hk => by
    rw [List.getD_eq_getElem?_getD, List.getElem?_eq_getElem hk]
    exact ⟨List.getElem_mem _, rfl⟩
  have hinj : ∀ j k, j < cs.length → k < cs.length → cs.getD j 0 = cs.getD k 0 → j = k := fun j k hj hk h => by
    have e1 := (hget j hj).2
    have e2 := (hget k hk).2
    rw [h] at e1
    rw [List.getElem?_eq_getElem hj] at e1
    rw [List.getElem?_eq_getElem hk] at e2
    have e : cs[j] = cs[k] := Option.some.inj (e1.trans e2.symm)
    have hp := List.pairwise_iff_getElem.1 hnd
    rcases Nat.lt_trichotomy j k with h | h | h
    · exact absurd e (hp j k hj hk h)
    · exact h
    · exact absurd e.symm (hp k j hk hj h)
  have hpos : ∀ i ∈ cs, ∃ k, k < cs.length ∧ cs.getD k 0 = i := fun i hi => by
    obtain ⟨k, hk, e⟩ := List.mem_iff_getElem.1 hi
    refine ⟨k, hk, ?_⟩
    rw [List.getD_eq_getElem?_getD, List.getElem?_eq_getElem hk]
    exact e
  refine seqP N kept Φ (fun i => decide (i ∈ cs)) (fun L s w => ∃ n, n ≤ cs.length ∧ (∀ k, k < cs.length → L (cs.getD k 0) = decide (k < n)) ∧ St n s w) hg hN (fun i hi => hlt i (of_decide_eq_true hi)) ⟨0, Nat.zero_le _, fun k _ => by simp, h0⟩ ?_ ?_ ?_ ?_ ?_
  · rintro L L' s s' w h ⟨n, hn, h1, h2⟩
    refine ⟨n, hn, fun k hk => ?_, hloc n s s' w (fun k hk hd => (h _ (decide_eq_true (hget k hk).1)).2 hd) h2⟩
    rw [← (h _ (decide_eq_true (hget k hk).1)).1]
    exact h1 k hk
  · exact fun i o ho hd => ⟨decide_eq_true (hsome i o ho hd).1, (hsome i o ho hd).2⟩
  · rintro i hi hc a w L hdf hsz hk hp ⟨n, hn, h1, h2⟩
    exact hpure i hi (of_decide_eq_false hc) a w n _ hdf hsz hk hp hn h2
  · rintro i hc a w L hdf hsz hk hp hL hdown ⟨n, hn, h1, h2⟩
    obtain ⟨k, hkl, rfl⟩ := hpos i (of_decide_eq_true hc)
    have hnk : n ≤ k := by
      have := h1 k hkl
      rw [hL] at this
      have := of_decide_eq_false this.symm
      omega
    have hkn : k ≤ n := by
      cases k with
      | zero => omega
      | succ k =>
        have h3 := (hp (cs.getD k 0) (hpred k hkl)).1
        rw [h1 k (by omega)] at h3
        have := of_decide_eq_true h3
        omega
    obtain rfl : n = k := by omega
    have h := hch n hkl a w hdf hsz hk (fun j hj => (hp j hj).2) h2
    have hup : ∀ s' w', St (n + 1) s' w' → ∃ n', n' ≤ cs.length ∧ (∀ j, j < cs.length → upL L (cs.getD n 0) (cs.getD j 0) = decide (j < n')) ∧ St n' s' w' := fun s' w' hs => ⟨n + 1, hkl, fun j hj => by
      by_cases e : j = n
      · subst e
        rw [upL_same]
        simp
      · rw [upL_other (fun h => e (hinj j n hj hkl h)), h1 j hj]
        have : (j < n) = (j < n + 1) := propext ⟨fun h => by omega, fun h => by omega⟩
        rw [decide_eq_decide]
        omega, hs⟩
    split at h
    · rename_i hw
      rw [if_pos hw]
      refine Oper.wp_mono ?_ h
      rintro a' w' ⟨v, e, hv, hs⟩
      exact ⟨v, e, hv, hup _ _ hs⟩
    · rename_i hw
      rw [if_neg hw]
      exact ⟨h.1, hup _ _ h.2⟩
  · rintro a w hdf hsz hk hp ⟨n, hn, h1, h2⟩
    refine hend a w hdf hsz hk hp ?_
    have : n = cs.length := by
      rcases Nat.lt_or_ge n cs.length with h | h
      · have := h1 n h
        simp at this
      · omega
    rw [this] at h2
    exact h2
end
end Go.Proofs.YtfkfnbehdcmgeaaGreatDoor

/- Package parse: a chain of operands. -/
namespace Go.Proofs.YtfkfnbehdcmgeaaGreatDoor
open Go Go.RowKit
/-- What joined answers. -/
def JoC (k r : Nat) (ts : List (Int × ByteArray × Int)) (d lo : Nat) (O : Nat → (Except (Int × Int) (Ex × Nat))) : Prop := ∀ (w : World) (p : Nat) (P : Nat → Prop) (t : Ex) (i0 i6 : Int) (s1 s2 : ByteArray) (b3 : Bool) (a4 : Option Addr) (n4 c4 : Nat), lo ≤ p → p + 1 < ts.length → RD w r ts p d → IsEP w P (.agg #[.int .i64 i0, .string s1, .string s2, .bool b3, .slice a4 n4 c4, .int .i64 0, .int .i64 i6]) t → ¬ P r → (∀ b, w.heap.size ≤ b → P b) → Calls Tryz.prog 121 #[.pointer (some ⟨r, 0, none⟩), .agg #[.int .i64 i0, .string s1, .string s2, .bool b3, .slice a4 n4 c4, .int .i64 0, .int .i64 i6], .func (.func k) #[.pointer (some ⟨r, 0, none⟩)] #[]] w (RP (fun w' v t => IsEP w' P v t) (joinR ts O t p) r ts (p + 1) d w)
theorem chainL_no {ts : List (Int × ByteArray × Int)} {O : Nat → (Except (Int × Int) (Ex × Nat))} {signs : List ByteArray} {n q : Nat} {t : Ex} (h : signs.any (sees ts q) = false) : chainL ts O signs n t q = .ok (t, q) := by
  cases n with
  | zero => rfl
  | succ n => unfold chainL; rw [h]; rfl
theorem chainL_yes {ts : List (Int × ByteArray × Int)} {O : Nat → (Except (Int × Int) (Ex × Nat))} {signs : List ByteArray} {n q : Nat} {t : Ex} (h : signs.any (sees ts q) = true) : chainL ts O signs (n + 1) t q = thenR (joinR ts O t q) fun y q => chainL ts O signs n y q := by
  rw [chainL, h]
  rfl
theorem ExAt.bnd {w : World} {P : Nat → Prop} : ∀ (h b o : Nat) (t : Ex), ExAt w P h b o t → ExAt w (fun b => P b ∧ b < w.heap.size) h b o t
  | 0, _, _, _, h => h
  | h + 1, b, o, .mk op nm nu bl l i, hx => by
    obtain ⟨a, c, h1, h2, h3, h4⟩ := hx
    refine ⟨a, c, h1, h2, h3, fun h0 => ?_⟩
    obtain ⟨b, off, e, hr, hb, hj⟩ := h4 h0
    exact ⟨b, off, e, ⟨hr, hb⟩, hb, fun j hjn t ht => ExAt.bnd h _ _ t (hj j hjn t ht)⟩
theorem IsEP.bnd {w : World} {P : Nat → Prop} {v : Value} {t : Ex} (h : IsEP w P v t) : IsEP w (fun b => P b ∧ b < w.heap.size) v t := by
  obtain ⟨op, nm, nu, bl, l, i⟩ := t
  obtain ⟨k, a, c, e, h2, h3, h4⟩ := h
  refine ⟨k, a, c, e, h2, h3, fun h0 => ?_⟩
  obtain ⟨b, off, e, hr, hb, hj⟩ := h4 h0
  exact ⟨b, off, e, ⟨hr, hb⟩, hb, fun j hjn t ht => ExAt.bnd k _ _ t (hj j hjn t ht)⟩
/-- While a chain is read. -/
structure CI (w : World) (r : Nat) (ts : List (Int × ByteArray × Int)) (p d lo b7 g0 : Nat) (O : Nat → (Except (Int × Int) (Ex × Nat))) (signs : List ByteArray) (Y : (Except (Int × Int) (Ex × Nat))) (i0 i6 : Int) (s1 s2 : ByteArray) (b3 : Bool) (a4 : Option Addr) (n4 c4 : Nat) (t : Ex) (q n : Nat) (V : World) : Prop where
  but : But r w V
  rd : RD V r ts q d
  zb : ZB V w.heap.size
  bx : V.heap[b7]? = some (.cells #[.int .i64 i0, .string s1, .string s2, .bool b3, .slice a4 n4 c4, .int .i64 0, .int .i64 i6] 36)
  tr : IsEP V (fun b => w.heap.size < b ∧ b ≠ b7) (.agg #[.int .i64 i0, .string s1, .string s2, .bool b3, .slice a4 n4 c4, .int .i64 0, .int .i64 i6]) t
  le : p ≤ q ∧ lo ≤ q
  fu : ts.length ≤ q + n
  ch : chainL ts O signs n t q = Y
  sg : ∀ (j : Nat) s, signs[j]? = some s → V.cell? ⟨g0, j, none⟩ = some (.string s)
  gs : g0 < V.heap.size ∧ r ≠ g0 ∧ g0 < w.heap.size
  sz : w.heap.size < V.heap.size
set_option maxRecDepth 100000 in
set_option maxHeartbeats 8000000 in
theorem chain_of {r d lo k g0 nn0 cc0 : Nat} {ts : List (Int × ByteArray × Int)} {O : Nat → (Except (Int × Int) (Ex × Nat))} {signs : List ByteArray} (hT : TsOk ts) (hEn : Enters Tryz.prog k) (hO : RuC k r ts d lo O) (hJ : JoC k r ts d lo O) {w : World} {p : Nat} (hlo : lo ≤ p) (hR : RD w r ts p d) (hn0 : nn0 = signs.length) (hne : ∀ s ∈ signs, s ≠ ⟨#[]⟩) (hnl : signs.length ≤ 100) (hg0 : g0 < w.heap.size ∧ r ≠ g0) (hsg : ∀ (j : Nat) s, signs[j]? = some s → w.cell? ⟨g0, j, none⟩ = some (.string s)) : Calls Tryz.prog 119 #[.pointer (some ⟨r, 0, none⟩), .func (.func k) #[.pointer (some ⟨r, 0, none⟩)] #[], .slice (some ⟨g0, 0, none⟩) nn0 cc0] w (PE (chainR ts O signs p) r ts p d w) := by
  obtain ⟨Y, hY⟩ : ∃ Y, chainR ts O signs p = Y := ⟨_, rfl⟩
  rw [hY]
  unfold chainR at hY
  have hr := hR.rlt
  obtain ⟨A, eA, hbA, hzA, hsA⟩ := zb_new w
  have HB := hide (But.of (r := r) hbA)
  have HR := hide (hR.keep hbA)
  have HZ := hide hzA
  have HS : Hid (w.heap.size < A.heap.size) := by show _ < _; omega
  have HL : Hid (p ≤ p ∧ lo ≤ p) := ⟨Nat.le_refl _, hlo⟩
  have HE := hide eA
  have HT := hide hT
  have HY := hide hY
  have hrne : r ≠ w.heap.size := by omega
  have hmf : ∀ (fn : Fn) (first cap : Array Value) (w : World), (Instr.makeFunc fn first cap).run Tryz.prog w = .ok (.func fn first cap) w := fun _ _ _ _ => rfl
  replace hEn := hide hEn
  replace hO := hide hO
  replace hJ := hide hJ
  clear hlo hR hbA hzA hsA eA hT hY
  have HSg := hide (And.intro hn0 (And.intro hnl (And.intro hg0 hsg)))
  have HNe := hide hne
  clear hn0 hnl hg0 hsg hne
  go_enter Tryz.func119, Tryz.ntmps119
  have HC0 := hide (unhide hO A (p) (unhide HL).2 (unhide HR))
  go_wp2_with fail
  rw [(unhide hEn).run, unhide HE]
  refine Calls.mono (unhide HC0) ?_
  intro e w0 h0
  rcases hX0 : O (p) with er | ⟨t0, q0⟩
  · rw [hX0] at h0
    obtain ⟨ei, en⟩ := er
    have hYe : Y = .error (ei, en) := by have h := unhide HY; rw [hX0] at h; exact h.symm
    subst hYe
    obtain ⟨hb0, h0⟩ := h0
    obtain rfl : e = _ := h0
    have HP := hide ((unhide HB).trans hb0)
    clear hb0 HC0 hX0
    go_wp2
    exact ⟨rfl, unhide HP, rfl⟩
  rw [hX0] at h0
  obtain ⟨hb0, hle0, hR0, v0, rfl, hv0⟩ := h0
  have hY0 := unhide HY
  rw [hX0] at hY0
  simp only [thenR] at hY0
  replace HY := hide hY0
  clear hY0
  obtain ⟨i0, j0, s0, m0, b0, a0, n0, c0, rfl⟩ := hv0.form
  have HT0 := hide (hv0.keep (lo' := w.heap.size + 1) (Stays.of (Below.refl _ _)) (unhide HS))
  replace HB := hide ((unhide HB).trans hb0)
  replace HZ := hide ((unhide HZ).but hb0 hrne)
  replace HS := hide (Nat.lt_of_lt_of_le (unhide HS) hb0.size)
  replace HR := hide hR0
  replace HL := hide (And.intro (Nat.le_trans (unhide HL).1 hle0) (Nat.le_trans (unhide HL).2 hle0))
  clear hb0 hle0 hR0 hv0 HC0 hX0
  have HSo := HS
  have HTP := hide (IsEP.bnd (unhide HT0))
  obtain ⟨B1, eB1, hbB1, hsB1, hhB1⟩ := box_new w0 #[.int .i64 i0, .string s0, .string m0, .bool b0, .slice a0 n0 c0, .int .i64 0, .int .i64 j0] 36
  have ne1 : r ≠ w0.heap.size := by have := unhide HS; omega
  have hbu2 := But.of (r := r) hbB1
  replace HR := hide ((unhide HR).keep hbB1)
  replace HB := hide ((unhide HB).trans hbu2)
  replace HZ := hide ((unhide HZ).but hbu2 hrne)
  replace HT0 := hide ((unhide HT0).keep (Stays.but hbu2 (Nat.lt_succ_of_lt hr)) (Nat.le_refl _))
  replace HS := hide (Nat.lt_of_lt_of_le (unhide HS) hbu2.size)
  have HX1 := hide hhB1
  have HEB1 := hide eB1
  have HSB1 := hide hsB1
  clear eB1 hbB1 hhB1 hsB1
  obtain ⟨b7, hb7⟩ : ∃ b7, w0.heap.size = b7 := ⟨_, rfl⟩
  have h70 : w.heap.size < b7 := by have := unhide HSo; omega
  have HI : Hid (CI w r ts p d lo b7 g0 O signs Y i0 j0 s0 m0 b0 a0 n0 c0 t0 q0 ts.length B1) := by
    obtain ⟨hn0, hnl, hg0, hsg⟩ := unhide HSg
    have hbx := unhide HX1
    rw [hb7] at hbx
    have hbt := unhide HB
    refine ⟨hbt, unhide HR, unhide HZ, hbx, (unhide HTP).keep ⟨hbu2.size, fun k hk hs => hbu2.block k hs (by omega)⟩ (fun b hb => ⟨hb.1, by omega⟩), unhide HL, by omega, unhide HY, fun j s hs => ?_, ⟨Nat.lt_of_lt_of_le hg0.1 hbt.size, hg0.2, hg0.1⟩, unhide HS⟩
    rw [World.cell?_of_block (w := w) (a := ⟨g0, j, none⟩) (hbt.block g0 hg0.1 (Ne.symm hg0.2))]
    exact hsg j s hs
  have hn0 := (unhide HSg).1
  subst hn0
  have hr7 : r ≠ b7 := by omega
  have h7w : w.heap.size ≠ b7 := by omega
  go_wp2_with fail
  rw [unhide HEB1]
  clear hb7 HB HZ HS HL HY HR HSo HTP HT0 HX1 HSB1 HEB1 
  go_loopw [10] (fun _ wr => ∃ i0 i6 s1 s2 b3 a4 n4 c4 t q n, Hid (CI w r ts p d lo b7 g0 O signs Y i0 i6 s1 s2 b3 a4 n4 c4 t q n wr)) (fun _ wr => ts.length - (intOf ((wr.cell? ⟨r, 1, none⟩).getD undef)).toNat)
  case atStart => exact ⟨_, _, _, _, _, _, _, _, _, _, _, HI⟩
  case round =>
    obtain ⟨i0, i6, s1, s2, b3, a4, n4, c4, t, q, n, hCI⟩ := hrel
    have h := unhide hCI
    obtain ⟨bo, hbo⟩ : ∃ b, signs.any (sees ts q) = b := ⟨_, rfl⟩
    have HC := hide (one_any (c := cc0) h.rd (unhide HT) h.gs.1 (unhide HSg).2.1 h.sg)
    rw [hbo] at HC
    have HO := hide hbo
    clear hbo h
    go_wp2_with fail
    refine (unhide HC).mono ?_
    rintro e w9 ⟨rfl, hb9⟩
    have h := unhide hCI
    have hbu9 := But.of (r := r) hb9
    have h9 : CI w r ts p d lo b7 g0 O signs Y i0 i6 s1 s2 b3 a4 n4 c4 t q n w9 := ⟨h.but.trans hbu9, h.rd.keep hb9, h.zb.but hbu9 hrne, (hb9.block b7 (blk h.bx).1).trans h.bx, h.tr.keep ⟨hb9.size, fun k _ hk => hb9.block k hk⟩ (fun _ h => h), h.le, h.fu, h.ch, (fun j s hs => by rw [hb9.cell (p := ⟨g0, j, none⟩) h.gs.1]; exact h.sg j s hs), ⟨Nat.lt_of_lt_of_le h.gs.1 hb9.size, h.gs.2⟩, Nat.lt_of_lt_of_le h.sz hb9.size⟩
    obtain ⟨x0, x1, x2, x3, x4, x5, x6⟩ := blk7 h9.bx
    have H9 := hide h9
    have hqo : (wr.cell? ⟨r, 1, none⟩) = some (.int .i64 (q : Int)) := by
      obtain ⟨g', c', p0, p1, -⟩ := h.rd.facts (Below.refl _ _)
      exact p1
    replace hqo := hide hqo
    clear hCI h hb9 hbu9 h9 HC
    rcases bo with _ | _
    · obtain ⟨y0, y1, y2, y3, y4, y5, y6⟩ := blk7 (unhide H9).zb
      obtain ⟨z0, z1, z2, z3, z4, z5, z6⟩ := frz7 (unhide H9).zb
      go_wp2
      have h := unhide H9
      exact ret_put rfl rfl rfl h.but hr h.zb (h.ch.symm.trans (chainL_no (unhide HO))) h.le.1 h.rd (Nat.lt_succ_self _) (h.tr.keep (P' := fun b => w.heap.size + 1 ≤ b) ⟨Nat.le_refl _, fun _ _ _ => rfl⟩ (fun b hb => hb.1))
    · have h := unhide H9
      have hp1 : q + 1 < ts.length := by
        obtain ⟨s, hs, hs2⟩ := List.any_eq_true.1 (unhide HO)
        exact nx_txt (unhide HT) h.rd.lt (by rw [sees_txt hs2]; exact unhide HNe s hs)
      obtain ⟨n, rfl⟩ : ∃ m, n = m + 1 := ⟨n - 1, by have := h.fu; omega⟩
      have hch := h.ch
      rw [chainL_yes (unhide HO)] at hch
      have HCh := hide hch
      have HC := hide (unhide hJ w9 q _ t i0 i6 s1 s2 b3 a4 n4 c4 h.le.2 hp1 h.rd h.tr (fun hP => by omega) (fun b hb => ⟨Nat.lt_of_lt_of_le h.sz hb, by have := (blk h.bx).1; omega⟩))
      have hsz9 : w.heap.size < w9.heap.size := h.sz
      replace hsz9 := hide hsz9
      clear hch h hp1
      go_wp2_with fail
      refine (unhide HC).mono ?_
      intro e w8 h8
      rcases hX : joinR ts O t q with er | ⟨t2, q2⟩
      · rw [hX] at h8
        obtain ⟨ei, en⟩ := er
        have hYe : Y = .error (ei, en) := by have h := unhide HCh; rw [hX] at h; exact h.symm
        subst hYe
        obtain ⟨hb8, h8⟩ := h8
        obtain rfl : e = _ := h8
        have HP := hide ((unhide H9).but.trans hb8)
        clear hb8 HC hX
        go_wp2
        exact ⟨rfl, unhide HP, rfl⟩
      · rw [hX] at h8
        obtain ⟨hb8, hle8, hR8, v8, rfl, hv8⟩ := h8
        obtain ⟨i8, j8, s8, m8, b8, a8, n8, c8, rfl⟩ := hv8.form
        have h := unhide H9
        have hbx8 := (hb8.block b7 (blk h.bx).1 (Ne.symm hr7)).trans h.bx
        obtain ⟨y0, y1, y2, y3, y4, y5, y6⟩ := blk7 hbx8
        obtain ⟨z0, z1, z2, z3, z4, z5, z6⟩ := frz7 hbx8
        have hch := unhide HCh
        rw [hX] at hch
        simp only [thenR] at hch
        have H8 := hide (And.intro hb8 (And.intro hle8 (And.intro hR8 (And.intro hv8 (And.intro hbx8 hch)))))
        clear x0 x1 x2 x3 x4 x5 x6 hb8 hle8 hR8 hv8 hbx8 hch h HC hX
        go_wp2
        obtain ⟨hb8, hle8, hR8, hv8, hbx8, hch⟩ := unhide H8
        have h := unhide H9
        have hRn := hR8.put (q := b7) (by omega) (.int .i64 i8) (.string s8) (.string m8) (.bool b8) (.slice a8 n8 c8) (.int .i64 0) (.int .i64 j8)
        have hqn : (set7 w8 b7 (.int .i64 i8) (.string s8) (.string m8) (.bool b8) (.slice a8 n8 c8) (.int .i64 0) (.int .i64 j8)).cell? ⟨r, 1, none⟩ = some (.int .i64 (q2 : Int)) := by
          obtain ⟨g', c', p0, p1, -⟩ := hRn.facts (Below.refl _ _)
          exact p1
        refine ⟨⟨i8, j8, s8, m8, b8, a8, n8, c8, t2, q2, n, ⟨but7 (h.but.trans hb8) (by omega) _ _ _ _ _ _ _, hRn, ?_, fill7 hbx8, ?_, ⟨by have := h.le; omega, by have := h.le; omega⟩, by have := h.fu; omega, hch, ?_, ⟨?_, h.gs.2⟩, ?_⟩⟩, ?_⟩
        · show (set7 w8 b7 _ _ _ _ _ _ _).heap[w.heap.size]? = _
          unfold set7
          rw [same7 h7w]
          exact h.zb.but hb8 hrne
        · refine hv8.keep ⟨?_, fun k hk hs => ?_⟩ (fun _ h => h)
          · simp
          · exact same7 hk.2 _ _ _ _ _ _ _
        · intro j s hs
          have hg := h.gs
          have hc := h.sg j s hs
          rw [← hc]
          refine World.cell?_of_block (a := ⟨g0, j, none⟩) ?_
          exact (same7 (show g0 ≠ b7 by omega) _ _ _ _ _ _ _).trans (hb8.block g0 hg.1 (Ne.symm hg.2.1))
        · have := hb8.size
          have := h.gs.1
          simp
          omega
        · have := hb8.size
          have := h.sz
          simp
          omega
        · have e1 : intOf (((set7 w8 b7 (.int .i64 i8) (.string s8) (.string m8) (.bool b8) (.slice a8 n8 c8) (.int .i64 0) (.int .i64 j8)).cell? ⟨r, 1, none⟩).getD undef) = (q2 : Int) := by rw [hqn]; rfl
          have e2 : intOf ((wr.cell? ⟨r, 1, none⟩).getD undef) = (q : Int) := by rw [unhide hqo]; rfl
          have hlt := h.rd.lt
          show ts.length - (intOf (((set7 w8 b7 (.int .i64 i8) (.string s8) (.string m8) (.bool b8) (.slice a8 n8 c8) (.int .i64 0) (.int .i64 j8)).cell? ⟨r, 1, none⟩).getD undef)).toNat < _
          rw [e1, e2]
          omega
end Go.Proofs.YtfkfnbehdcmgeaaGreatDoor

namespace Go.Proofs.YtfkfnbehdcmgeaaGreatDoor
open Go Go.RowKit
def regionsOf : Code → List (Nat × List Oper)
  | .region id ops _ => [(id, ops.toList)]
  | .seq a b => regionsOf a ++ regionsOf b
  | .cond _ a b => regionsOf a ++ regionsOf b
  | .block _ c => regionsOf c
  | .loop c => regionsOf c
  | _ => []
def regionOf (f : Func) (k : Nat) : List Oper := ((f.body.map regionsOf).getD []).findSome? (fun p => if p.1 == k then some p.2 else none) |>.getD []
theorem wnone {o : Oper} {y : Nat → Option Bool} (h : o.guard = none) : Region.wanted o y = true := by simp [Region.wanted, h]
section
variable {X : Exit → Act → World → Prop} {K : Act → World → Prop} {a : Act} {w : World} {dst : Option Tmp} {ty : TypeId} {pos : String} {af : Array Edge} {gd : Option (Nat × Bool)}
set_option maxRecDepth 100000 in
set_option maxHeartbeats 4000000 in
theorem op_bs2E {k1 k2 : Nat} {x0 x1 x2 x3 x4 x5 x6 y0 y1 y2 y3 y4 y5 y6 : Value} (h1 : a.tmps.getD k1 undef = .agg #[x0, x1, x2, x3, x4, x5, x6]) (h2 : a.tmps.getD k2 undef = .agg #[y0, y1, y2, y3, y4, y5, y6]) (h : K (a.put dst (.slice (some ⟨w.heap.size, 0, none⟩) 2 2)) (w.alloc (.cells #[x0, x1, x2, x3, x4, x5, x6, y0, y1, y2, y3, y4, y5, y6] 36))) : Oper.wp Tryz.prog ⟨dst, .buildSlice 34 2 #[(0, .tmp k1), (1, .tmp k2)], ty, pos, af, gd⟩ a w K X := by
  have e1 : a.eval (.tmp k1) = .agg #[x0, x1, x2, x3, x4, x5, x6] := h1
  have e2 : a.eval (.tmp k2) = .agg #[y0, y1, y2, y3, y4, y5, y6] := h2
  unfold Oper.wp
  simp only [execOp, List.map_toArray, List.map_cons, List.map_nil, e1, e2]
  go_simp
  exact h
set_option maxRecDepth 100000 in
set_option maxHeartbeats 4000000 in
theorem op_bs1E {k1 : Nat} {x0 x1 x2 x3 x4 x5 x6 : Value} (h1 : a.tmps.getD k1 undef = .agg #[x0, x1, x2, x3, x4, x5, x6]) (h : K (a.put dst (.slice (some ⟨w.heap.size, 0, none⟩) 1 1)) (w.alloc (.cells #[x0, x1, x2, x3, x4, x5, x6] 36))) : Oper.wp Tryz.prog ⟨dst, .buildSlice 34 1 #[(0, .tmp k1)], ty, pos, af, gd⟩ a w K X := by
  have e1 : a.eval (.tmp k1) = .agg #[x0, x1, x2, x3, x4, x5, x6] := h1
  unfold Oper.wp
  simp only [execOp, List.map_toArray, List.map_cons, List.map_nil, e1]
  go_simp
  exact h
set_option maxRecDepth 100000 in
set_option maxHeartbeats 4000000 in
theorem op_stE {k1 k2 q : Nat} {i0 i6 : Int} {s1 s2 : ByteArray} {b3 : Bool} {a4 : Option Addr} {n4 c4 : Nat} (h1 : a.tmps.getD k1 undef = .pointer (some ⟨q, 0, none⟩)) (h2 : a.tmps.getD k2 undef = .agg #[.int .i64 i0, .string s1, .string s2, .bool b3, .slice a4 n4 c4, .int .i64 0, .int .i64 i6]) (hz : ZB w q) (h : K a (set7 w q (.int .i64 i0) (.string s1) (.string s2) (.bool b3) (.slice a4 n4 c4) (.int .i64 0) (.int .i64 i6))) : Oper.wp Tryz.prog ⟨none, .store 36 (.tmp k1) (.tmp k2), ty, pos, af, gd⟩ a w K X := by
  have e1 : a.eval (.tmp k1) = .pointer (some ⟨q, 0, none⟩) := h1
  have e2 : a.eval (.tmp k2) = .agg #[.int .i64 i0, .string s1, .string s2, .bool b3, .slice a4 n4 c4, .int .i64 0, .int .i64 i6] := h2
  obtain ⟨y0, y1, y2, y3, y4, y5, y6⟩ := blk7 hz
  obtain ⟨z0, z1, z2, z3, z4, z5, z6⟩ := frz7 hz
  unfold Oper.wp
  simp only [execOp, e1, e2]
  simp [go_sem, y0, y1, y2, y3, y4, y5, y6, z0, z1, z2, z3, z4, z5, z6]
  exact h
end
theorem op_callP {P : Program} {X : Exit → Act → World → Prop} {K : Act → World → Prop} {a : Act} {w : World} {dst : Option Tmp} {ty : TypeId} {pos : String} {af : Array Edge} {gd : Option (Nat × Bool)} {f : FuncId} {args : Array Operand} {tys : Array TypeId} (hf : Enters P f)
    (hc : Calls P f (args.map a.eval) w fun e w' => (∃ v, e = .returned v ∧ K (a.put dst v) w') ∨ ∃ c, e = .panicked c ∧ X (.panic c) a w') : Oper.wp P ⟨dst, .call ⟨.value (.func f), args, tys⟩, ty, pos, af, gd⟩ a w K X := by
  unfold Oper.wp
  simp [go_sem]
  rw [hf.run]
  refine Calls.mono hc ?_
  rintro e w' (⟨v, rfl, h⟩ | ⟨c, rfl, h⟩)
  · exact h
  · exact h
set_option maxRecDepth 100000 in
theorem ld_Tok {q : Nat} {x y z : Value} {w : World} (h : w.heap[q]? = some (.cells #[x, y, z] 74)) : (Instr.loadAt 74 (.pointer (some ⟨q, 0, none⟩))).run Tryz.prog w = .ok (.agg #[x, y, z]) w := run_loadAt_mid (P := Tryz.prog) w q 0 74 [x, y, z] _ (range_block h) rfl rfl rfl
set_option maxRecDepth 100000 in
theorem ld_Ex {q : Nat} {x0 x1 x2 x3 x4 x5 x6 : Value} {w : World} (h : w.heap[q]? = some (.cells #[x0, x1, x2, x3, x4, x5, x6] 36)) : (Instr.loadAt 36 (.pointer (some ⟨q, 0, none⟩))).run Tryz.prog w = .ok (.agg #[x0, x1, x2, x3, x4, x5, x6]) w := run_loadAt_mid (P := Tryz.prog) w q 0 36 [x0, x1, x2, x3, x4, x5, x6] _ (range_block h) rfl rfl rfl
set_option maxRecDepth 100000 in
theorem fa_tok (q : Nat) (j : Nat) (w : World) (hj : j < 3) : (Instr.fieldAt 74 (.pointer (some ⟨q, 0, none⟩)) j).run Tryz.prog w = .ok (.pointer (some ⟨q, j, none⟩)) w := by
  rcases j with _ | _ | _ | j
  · go_simp
  · go_simp
  · go_simp
  · omega
set_option maxRecDepth 100000 in
theorem ld_str {q o : Nat} {s : ByteArray} {w : World} (h : w.cell? ⟨q, o, none⟩ = some (.string s)) : (Instr.loadAt 9 (.pointer (some ⟨q, o, none⟩))).run Tryz.prog w = .ok (.string s) w := by go_simp
set_option maxRecDepth 100000 in
theorem ld_int {q o : Nat} {i : Int} {w : World} (h : w.cell? ⟨q, o, none⟩ = some (.int .i64 i)) : (Instr.loadAt 3 (.pointer (some ⟨q, o, none⟩))).run Tryz.prog w = .ok (.int .i64 i) w := by go_simp
theorem enter_made : Enters Tryz.prog 110 := ⟨fun xs w => by go_simp⟩
theorem enter_named : Enters Tryz.prog 111 := ⟨fun xs w => by go_simp⟩
theorem enter_opOf : Enters Tryz.prog 123 := ⟨fun xs w => by go_simp⟩
theorem enter_unb : Enters Tryz.prog 127 := ⟨fun xs w => by go_simp⟩
theorem enter_imp : Enters Tryz.prog 115 := ⟨fun xs w => by go_simp⟩
theorem enter_mustBe : Enters Tryz.prog 88 := ⟨fun xs w => by go_simp⟩
theorem enter_take : Enters Tryz.prog 87 := ⟨fun xs w => by go_simp⟩
end Go.Proofs.YtfkfnbehdcmgeaaGreatDoor
