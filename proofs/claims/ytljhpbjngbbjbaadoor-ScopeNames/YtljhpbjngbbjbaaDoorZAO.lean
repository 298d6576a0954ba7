/- The document's parser: the end of a declaration. -/
import Derived.Test.YtljhpbjngbbjbaaDoorZAN
import Derived.Test.YtljhpbjngbbjbaaDoorZAE
set_option linter.unusedVariables false
set_option linter.unusedSimpArgs false

/- The document's parser: typ. -/
namespace Go.Proofs.YtljhpbjngbbjbaaDoor
open Go Go.RowKit
theorem set4_fill {w : World} {q : Nat} {a0 a1 a2 a3 x0 x1 x2 x3 : Value} {ty : TypeId} (h : w.heap[q]? = some (.cells #[a0, a1, a2, a3] ty)) : ((((w.setCell ⟨q, 0, none⟩ x0).setCell ⟨q, 1, none⟩ x1).setCell ⟨q, 2, none⟩ x2).setCell ⟨q, 3, none⟩ x3).heap[q]? = some (.cells #[x0, x1, x2, x3] ty) := set_block (set_block (set_block (set_block h _) _) _) _
theorem blk4 {w : World} {q : Nat} {x0 x1 x2 x3 : Value} {ty : TypeId} (h : w.heap[q]? = some (.cells #[x0, x1, x2, x3] ty)) : w.cell? ⟨q, 0, none⟩ = some x0 ∧ w.cell? ⟨q, 1, none⟩ = some x1 ∧ w.cell? ⟨q, 2, none⟩ = some x2 ∧ w.cell? ⟨q, 3, none⟩ = some x3 := ⟨(blk h).2.1 0 _ rfl, (blk h).2.1 1 _ rfl, (blk h).2.1 2 _ rfl, (blk h).2.1 3 _ rfl⟩
theorem frz4 {w : World} {q : Nat} {cs : Array Value} {ty : TypeId} (h : w.heap[q]? = some (.cells cs ty)) : w.frozen? ⟨q, 0, none⟩ = false ∧ w.frozen? ⟨q, 1, none⟩ = false ∧ w.frozen? ⟨q, 2, none⟩ = false ∧ w.frozen? ⟨q, 3, none⟩ = false := ⟨(blk h).2.2 0, (blk h).2.2 1, (blk h).2.2 2, (blk h).2.2 3⟩
/-- A type's box that is not yet filled. -/
def ZT (w : World) (q : Nat) : Prop := w.heap[q]? = some (.cells #[.int .i64 0, .string ⟨#[]⟩, .slice none 0 0, .int .i64 0] 49)
theorem ZT.but {w w' : World} {q r : Nat} (h : ZT w q) (hb : But r w w') (hr : r ≠ q) : ZT w' q := (hb.block q (blk h).1 (Ne.symm hr)).trans h
theorem zt_new (w : World) : ∃ A, w.alloc (.cells #[.int .i64 0, .string ⟨#[]⟩, .slice none 0 0, .int .i64 0] 49) = A ∧ Below w.heap.size w A ∧ ZT A w.heap.size ∧ A.heap.size = w.heap.size + 1 := by
  obtain ⟨A, eA, hbA, hsA, hhA⟩ := box_new w #[.int .i64 0, .string ⟨#[]⟩, .slice none 0 0, .int .i64 0] 49
  exact ⟨A, eA, hbA, hhA, hsA⟩
/-- What the rule of types answers. -/
def DTy (x : Ty × PS) (r : Nat) (ts : List (Int × ByteArray × Int)) (d : Nat) (w : World) (e : Ending) (w' : World) : Prop := DP (fun w' v t => TyV w' w.heap.size v t) x r ts d w e w'
def DcT (f : Nat) (r : Nat) (ts : List (Int × ByteArray × Int)) (d : Nat) (X : PS → Ty × PS) : Prop := ∀ (w : World) (st : PS), PD w r ts st d → Calls Tryd.prog f #[.pointer (some ⟨r, 0, none⟩)] w (DTy (X st) r ts d w)
theorem dret_ty {fn : Func} {a : Act} {tt : Nat} {w w3 : World} {r d lo : Nat} {ts : List (Int × ByteArray × Int)} {t : Ty} {st : PS} {Y : Ty × PS} {x0 x1 x2 x3 : Value} (hf : fn.results = #[.cell tt 49]) (ht : a.tmps[tt]? = some (.pointer (some ⟨w.heap.size, 0, none⟩))) (hdf : a.defers = []) (hbu : But r w w3) (hr : r < w.heap.size) (hz : ZT w3 w.heap.size) (hY : Y = (t, st)) (hR : PD w3 r ts st d) (hlo : w.heap.size < lo) (hv : TyV w3 lo (.agg #[x0, x1, x2, x3]) t) :
    bodyPost Tryd.prog fn (DTy Y r ts d w) .ret a ((((w3.setCell ⟨w.heap.size, 0, none⟩ x0).setCell ⟨w.heap.size, 1, none⟩ x1).setCell ⟨w.heap.size, 2, none⟩ x2).setCell ⟨w.heap.size, 3, none⟩ x3) := by
  subst hY
  refine bodyPost_ret (res_row (cs := [x0, x1, x2, x3]) hf ht (range_block (set4_fill hz)) Tryd.underlying49 rfl (by kernel_rfl)) hdf ?_
  refine ⟨but_new (but_new (but_new (but_new hbu (Nat.le_refl _) _ _) (Nat.le_refl _) _ _) (Nat.le_refl _) _ _) (Nat.le_refl _) _ _, hR.out hr fun k hk => ?_, _, rfl, ?_⟩
  · rw [heap_set _ _ (by omega), heap_set _ _ (by omega), heap_set _ _ (by omega), heap_set _ _ (by omega)]
  · exact TyV.keep _ _ _ _ _ _ hv ((((Stays.of (Below.refl _ _)).set hlo _ _).set hlo _ _).set hlo _ _ |>.set hlo _ _) (by omega)
set_option maxRecDepth 100000 in
set_option maxHeartbeats 8000000 in
theorem dtyp_of {r d : Nat} {ts : List (Int × ByteArray × Int)} (hT : TsOk ts) (hE : DcC 54 r ts d (exD ts)) : DcT 53 r ts d (typD ts) := by
  intro w st hR
  obtain ⟨Y, hY⟩ : ∃ Y, typD ts st = Y := ⟨_, rfl⟩
  show Calls _ _ _ _ (DTy (typD ts st) r ts d w)
  rw [hY]
  unfold typD at hY
  have hr := hR.rlt
  obtain ⟨A, eA, hbA, hzA, hsA⟩ := zt_new w
  have HB := hide (But.of (r := r) hbA)
  have HR := hide (hR.keep hbA)
  have HZ := hide hzA
  have HS : Hid (w.heap.size < A.heap.size) := by show _ < _; omega
  have HE := hide eA
  have HT := hide hT
  have HY := hide hY
  have hrne : r ≠ w.heap.size := by omega
  replace hE := hide hE
  clear hR hbA hzA hsA eA hT hY
  go_enter Tryd.func53, Tryd.ntmps53
  generalize hQQ : bodyPost Tryd.prog Tryd.f53 (DTy Y r ts d w) = QQ
  have HQQ := hide hQQ
  clear hQQ
  have HC0 := hide (dt_any (unhide HR) (unhide HT))
  unfold tkV at HC0
  obtain ⟨⟨kk0, T0, at0⟩, hN0⟩ : ∃ X, tD ts (st) = X := ⟨_, rfl⟩
  rw [hN0] at HC0
  have HN0 := hide hN0
  have hf20 := fld2 (.int .i64 kk0) (.string T0) (.int .i64 at0)
  clear hN0
  go_wp2_with fail
  rw [unhide HE]
  refine (unhide HC0).mono ?_
  rintro e w0 ⟨rfl, hb0⟩
  have hY1 := unhide HY
  simp only [unhide HN0] at hY1
  replace HY := hide hY1
  clear hY1
  have hbu2 := But.of (r := r) hb0
  replace HR := hide ((unhide HR).keep hb0)
  replace HB := hide ((unhide HB).trans hbu2)
  replace HZ := hide ((unhide HZ).but hbu2 hrne)
  replace HS := hide (Nat.lt_of_lt_of_le (unhide HS) hbu2.size)
  clear hb0 HC0
  have HC3 := hide (eat_any (unhide HR) (unhide HT) ⟨#[105, 110, 116]⟩)
  obtain ⟨bo3, hbo3⟩ : ∃ b, isD ts ⟨#[105, 110, 116]⟩ (st) = b := ⟨_, rfl⟩
  unfold eatD at HC3
  rw [hbo3] at HC3
  have HO3 := hide hbo3
  clear hbo3
  go_wp2_with fail
  refine (unhide HC3).mono ?_
  rintro e w3 ⟨rfl, hb3, hR3⟩
  replace HB := hide ((unhide HB).trans hb3)
  replace HZ := hide ((unhide HZ).but hb3 hrne)
  replace HS := hide (Nat.lt_of_lt_of_le (unhide HS) hb3.size)
  replace HR := hide hR3
  have hY4 := unhide HY
  simp only [unhide HO3] at hY4
  replace HY := hide hY4
  clear hY4
  clear hb3 HC3 hR3
  rcases bo3 with _ | _
  rotate_left
  · have hY5 := unhide HY
    simp only [if_true] at hY5
    replace HY := hide hY5
    clear hY5
    have hRR := unhide HR
    rw [if_pos rfl] at hRR
    obtain ⟨S6, hS6⟩ : ∃ S, stepD ts (st) = S := ⟨_, rfl⟩
    rw [hS6] at hRR
    replace HR := hide hRR
    have HSt6 := hide hS6
    have hY7 := unhide HY
    simp only [unhide HSt6] at hY7
    replace HY := hide hY7
    clear hY7
    clear hRR hS6
    obtain ⟨y0, y1, y2, y3⟩ := blk4 (unhide HZ)
    obtain ⟨z0, z1, z2, z3⟩ := frz4 (unhide HZ)
    go_wp2
    rw [← unhide HQQ]
    exact dret_ty rfl rfl rfl (unhide HB) hr (unhide HZ) (unhide HY).symm (unhide HR) (lo := w.heap.size + 1) (Nat.lt_succ_self _) ⟨none, 0, 0, rfl, lsn⟩
  have hY8 := unhide HY
  simp only [Bool.false_eq_true, if_false] at hY8
  replace HY := hide hY8
  clear hY8
  have hRR := unhide HR
  rw [if_neg Bool.false_ne_true] at hRR
  replace HR := hide hRR
  clear hRR
  have HC9 := hide (eat_any (unhide HR) (unhide HT) ⟨#[98, 111, 111, 108]⟩)
  obtain ⟨bo9, hbo9⟩ : ∃ b, isD ts ⟨#[98, 111, 111, 108]⟩ (st) = b := ⟨_, rfl⟩
  unfold eatD at HC9
  rw [hbo9] at HC9
  have HO9 := hide hbo9
  clear hbo9
  go_wp2_with fail
  refine (unhide HC9).mono ?_
  rintro e w9 ⟨rfl, hb9, hR9⟩
  replace HB := hide ((unhide HB).trans hb9)
  replace HZ := hide ((unhide HZ).but hb9 hrne)
  replace HS := hide (Nat.lt_of_lt_of_le (unhide HS) hb9.size)
  replace HR := hide hR9
  have hY10 := unhide HY
  simp only [unhide HO9] at hY10
  replace HY := hide hY10
  clear hY10
  clear hb9 HC9 hR9
  rcases bo9 with _ | _
  rotate_left
  · have hY11 := unhide HY
    simp only [if_true] at hY11
    replace HY := hide hY11
    clear hY11
    have hRR := unhide HR
    rw [if_pos rfl] at hRR
    obtain ⟨S12, hS12⟩ : ∃ S, stepD ts (st) = S := ⟨_, rfl⟩
    rw [hS12] at hRR
    replace HR := hide hRR
    have HSt12 := hide hS12
    have hY13 := unhide HY
    simp only [unhide HSt12] at hY13
    replace HY := hide hY13
    clear hY13
    clear hRR hS12
    obtain ⟨y0, y1, y2, y3⟩ := blk4 (unhide HZ)
    obtain ⟨z0, z1, z2, z3⟩ := frz4 (unhide HZ)
    go_wp2
    rw [← unhide HQQ]
    exact dret_ty rfl rfl rfl (unhide HB) hr (unhide HZ) (unhide HY).symm (unhide HR) (lo := w.heap.size + 1) (Nat.lt_succ_self _) ⟨none, 0, 0, rfl, lsn⟩
  have hY14 := unhide HY
  simp only [Bool.false_eq_true, if_false] at hY14
  replace HY := hide hY14
  clear hY14
  have hRR := unhide HR
  rw [if_neg Bool.false_ne_true] at hRR
  replace HR := hide hRR
  clear hRR
  have HC15 := hide (eat_any (unhide HR) (unhide HT) ⟨#[117, 110, 105, 116]⟩)
  obtain ⟨bo15, hbo15⟩ : ∃ b, isD ts ⟨#[117, 110, 105, 116]⟩ (st) = b := ⟨_, rfl⟩
  unfold eatD at HC15
  rw [hbo15] at HC15
  have HO15 := hide hbo15
  clear hbo15
  go_wp2_with fail
  refine (unhide HC15).mono ?_
  rintro e w15 ⟨rfl, hb15, hR15⟩
  replace HB := hide ((unhide HB).trans hb15)
  replace HZ := hide ((unhide HZ).but hb15 hrne)
  replace HS := hide (Nat.lt_of_lt_of_le (unhide HS) hb15.size)
  replace HR := hide hR15
  have hY16 := unhide HY
  simp only [unhide HO15] at hY16
  replace HY := hide hY16
  clear hY16
  clear hb15 HC15 hR15
  rcases bo15 with _ | _
  rotate_left
  · have hY17 := unhide HY
    simp only [if_true] at hY17
    replace HY := hide hY17
    clear hY17
    have hRR := unhide HR
    rw [if_pos rfl] at hRR
    obtain ⟨S18, hS18⟩ : ∃ S, stepD ts (st) = S := ⟨_, rfl⟩
    rw [hS18] at hRR
    replace HR := hide hRR
    have HSt18 := hide hS18
    have hY19 := unhide HY
    simp only [unhide HSt18] at hY19
    replace HY := hide hY19
    clear hY19
    clear hRR hS18
    obtain ⟨y0, y1, y2, y3⟩ := blk4 (unhide HZ)
    obtain ⟨z0, z1, z2, z3⟩ := frz4 (unhide HZ)
    go_wp2
    rw [← unhide HQQ]
    exact dret_ty rfl rfl rfl (unhide HB) hr (unhide HZ) (unhide HY).symm (unhide HR) (lo := w.heap.size + 1) (Nat.lt_succ_self _) ⟨none, 0, 0, rfl, lsn⟩
  have hY20 := unhide HY
  simp only [Bool.false_eq_true, if_false] at hY20
  replace HY := hide hY20
  clear hY20
  have hRR := unhide HR
  rw [if_neg Bool.false_ne_true] at hRR
  replace HR := hide hRR
  clear hRR
  obtain ⟨S21, hS21⟩ : ∃ S, mustD ts ⟨#[123]⟩ (st) = S := ⟨_, rfl⟩
  have HC21 := hide (dmust_any (unhide HR) (unhide HT) ⟨#[123]⟩)
  rw [hS21] at HC21
  have HS21 := hide hS21
  clear hS21
  go_wp2_with fail
  refine (unhide HC21).mono ?_
  rintro e w21 ⟨rfl, hb21, hR21⟩
  have hY22 := unhide HY
  simp only [unhide HS21] at hY22
  replace HY := hide hY22
  clear hY22
  replace HB := hide ((unhide HB).trans hb21)
  replace HZ := hide ((unhide HZ).but hb21 hrne)
  replace HS := hide (Nat.lt_of_lt_of_le (unhide HS) hb21.size)
  replace HR := hide hR21
  clear hb21 hR21 HC21 HS21
  have HC23 := hide (name_any (unhide HR) (unhide HT))
  unfold tkV at HC23
  obtain ⟨⟨⟨kk23, T23, at23⟩, S23⟩, hN23⟩ : ∃ X, nameD ts (S21) = X := ⟨_, rfl⟩
  rw [hN23] at HC23
  have HN23 := hide hN23
  clear hN23
  go_wp2_with fail
  refine (unhide HC23).mono ?_
  rintro e w23 ⟨rfl, hb23, hR23⟩
  have hY24 := unhide HY
  simp only [unhide HN23] at hY24
  replace HY := hide hY24
  clear hY24
  replace HB := hide ((unhide HB).trans hb23)
  replace HZ := hide ((unhide HZ).but hb23 hrne)
  replace HS := hide (Nat.lt_of_lt_of_le (unhide HS) hb23.size)
  replace HR := hide hR23
  clear hb23 hR23 HC23
  obtain ⟨B25, eB25, hbB25, hsB25, hhB25⟩ := box_new w23 #[.int .i64 kk23, .string T23, .int .i64 at23] 87
  have ne25 : r ≠ w23.heap.size := by have := unhide HS; omega
  have hbu26 := But.of (r := r) hbB25
  replace HR := hide ((unhide HR).keep hbB25)
  replace HB := hide ((unhide HB).trans hbu26)
  replace HZ := hide ((unhide HZ).but hbu26 hrne)
  replace HS := hide (Nat.lt_of_lt_of_le (unhide HS) hbu26.size)
  have HX25 := hide hhB25
  have HEB25 := hide eB25
  have HSB25 := hide hsB25
  clear eB25 hbB25 hhB25 hsB25
  obtain ⟨S27, hS27⟩ : ∃ S, mustD ts ⟨#[58]⟩ (S23) = S := ⟨_, rfl⟩
  have HC27 := hide (dmust_any (unhide HR) (unhide HT) ⟨#[58]⟩)
  rw [hS27] at HC27
  have HS27 := hide hS27
  clear hS27
  go_wp2_with fail
  rw [unhide HEB25]
  refine (unhide HC27).mono ?_
  rintro e w27 ⟨rfl, hb27, hR27⟩
  have hY28 := unhide HY
  simp only [unhide HS27] at hY28
  replace HY := hide hY28
  clear hY28
  replace HB := hide ((unhide HB).trans hb27)
  replace HZ := hide ((unhide HZ).but hb27 hrne)
  replace HX25 := hide ((hb27.block _ (blk (unhide HX25)).1 (Ne.symm ne25)).trans (unhide HX25))
  replace HS := hide (Nat.lt_of_lt_of_le (unhide HS) hb27.size)
  replace HR := hide hR27
  clear hb27 hR27 HC27 HS27
  obtain ⟨S29, hS29⟩ : ∃ S, mustD ts ⟨#[105, 110, 116]⟩ (S27) = S := ⟨_, rfl⟩
  have HC29 := hide (dmust_any (unhide HR) (unhide HT) ⟨#[105, 110, 116]⟩)
  rw [hS29] at HC29
  have HS29 := hide hS29
  clear hS29
  go_wp2_with fail
  refine (unhide HC29).mono ?_
  rintro e w29 ⟨rfl, hb29, hR29⟩
  have hY30 := unhide HY
  simp only [unhide HS29] at hY30
  replace HY := hide hY30
  clear hY30
  replace HB := hide ((unhide HB).trans hb29)
  replace HZ := hide ((unhide HZ).but hb29 hrne)
  replace HX25 := hide ((hb29.block _ (blk (unhide HX25)).1 (Ne.symm ne25)).trans (unhide HX25))
  replace HS := hide (Nat.lt_of_lt_of_le (unhide HS) hb29.size)
  replace HR := hide hR29
  clear hb29 hR29 HC29 HS29
  obtain ⟨S31, hS31⟩ : ∃ S, mustD ts ⟨#[124]⟩ (S29) = S := ⟨_, rfl⟩
  have HC31 := hide (dmust_any (unhide HR) (unhide HT) ⟨#[124]⟩)
  rw [hS31] at HC31
  have HS31 := hide hS31
  clear hS31
  go_wp2_with fail
  refine (unhide HC31).mono ?_
  rintro e w31 ⟨rfl, hb31, hR31⟩
  have hY32 := unhide HY
  simp only [unhide HS31] at hY32
  replace HY := hide hY32
  clear hY32
  replace HB := hide ((unhide HB).trans hb31)
  replace HZ := hide ((unhide HZ).but hb31 hrne)
  replace HX25 := hide ((hb31.block _ (blk (unhide HX25)).1 (Ne.symm ne25)).trans (unhide HX25))
  replace HS := hide (Nat.lt_of_lt_of_le (unhide HS) hb31.size)
  replace HR := hide hR31
  clear hb31 hR31 HC31 HS31
  have HC33 := hide (unhide hE w31 (S31) (unhide HR))
  obtain ⟨⟨t33, S33⟩, hX33⟩ : ∃ X, exD ts (S31) = X := ⟨_, rfl⟩
  rw [hX33] at HC33
  have HX33 := hide hX33
  clear hX33
  go_wp2_with fail
  refine (unhide HC33).mono ?_
  rintro e w33 ⟨hb33, hR33, v33, rfl, hv33⟩
  have hY34 := unhide HY
  simp only [unhide HX33] at hY34
  replace HY := hide hY34
  clear hY34
  obtain ⟨i33, j33, s33, m33, b33, a33, n33, c33, rfl⟩ := hv33.form
  have HT33 := hide (hv33.keep (lo' := w.heap.size + 1) (Stays.of (Below.refl _ _)) (unhide HS))
  replace HB := hide ((unhide HB).trans hb33)
  replace HZ := hide ((unhide HZ).but hb33 hrne)
  replace HX25 := hide ((hb33.block _ (blk (unhide HX25)).1 (Ne.symm ne25)).trans (unhide HX25))
  replace HS := hide (Nat.lt_of_lt_of_le (unhide HS) hb33.size)
  replace HR := hide hR33
  clear hb33 hR33 hv33 HC33 HX33
  obtain ⟨B35, eB35, hbB35, hsB35, hhB35⟩ := box_new w33 #[.int .i64 i33, .string s33, .string m33, .bool b33, .slice a33 n33 c33, .int .i64 0, .int .i64 j33] 51
  have ne35 : r ≠ w33.heap.size := by have := unhide HS; omega
  have hbu36 := But.of (r := r) hbB35
  replace HR := hide ((unhide HR).keep hbB35)
  replace HB := hide ((unhide HB).trans hbu36)
  replace HZ := hide ((unhide HZ).but hbu36 hrne)
  replace HX25 := hide ((hbu36.block _ (blk (unhide HX25)).1 (Ne.symm ne25)).trans (unhide HX25))
  replace HT33 := hide ((unhide HT33).keep (Stays.but hbu36 (Nat.lt_succ_of_lt hr)) (Nat.le_refl _))
  replace HS := hide (Nat.lt_of_lt_of_le (unhide HS) hbu36.size)
  have HX35 := hide hhB35
  have HEB35 := hide eB35
  have HSB35 := hide hsB35
  clear eB35 hbB35 hhB35 hsB35
  obtain ⟨S37, hS37⟩ : ∃ S, mustD ts ⟨#[125]⟩ (S33) = S := ⟨_, rfl⟩
  have HC37 := hide (dmust_any (unhide HR) (unhide HT) ⟨#[125]⟩)
  rw [hS37] at HC37
  have HS37 := hide hS37
  clear hS37
  go_wp2_with fail
  rw [unhide HEB35]
  refine (unhide HC37).mono ?_
  rintro e w37 ⟨rfl, hb37, hR37⟩
  have hY38 := unhide HY
  simp only [unhide HS37] at hY38
  replace HY := hide hY38
  clear hY38
  replace HB := hide ((unhide HB).trans hb37)
  replace HZ := hide ((unhide HZ).but hb37 hrne)
  replace HX25 := hide ((hb37.block _ (blk (unhide HX25)).1 (Ne.symm ne25)).trans (unhide HX25))
  replace HX35 := hide ((hb37.block _ (blk (unhide HX35)).1 (Ne.symm ne35)).trans (unhide HX35))
  replace HT33 := hide ((unhide HT33).keep (Stays.but hb37 (Nat.lt_succ_of_lt hr)) (Nat.le_refl _))
  replace HS := hide (Nat.lt_of_lt_of_le (unhide HS) hb37.size)
  replace HR := hide hR37
  clear hb37 hR37 HC37 HS37
  have u025 := (blk (unhide HX25)).2.1 0 _ rfl
  have u125 := (blk (unhide HX25)).2.1 1 _ rfl
  have u225 := (blk (unhide HX25)).2.1 2 _ rfl
  obtain ⟨y035, y135, y235, y335, y435, y535, y635⟩ := blk7 (unhide HX35)
  obtain ⟨C39, eC39, hbC39, hsC39, hhC39⟩ := box_new w37 #[.int .i64 i33, .string s33, .string m33, .bool b33, .slice a33 n33 c33, .int .i64 0, .int .i64 j33] 51
  have hls := one_ls (unhide HT33) eC39 (unhide HS)
  have hbu40 := But.of (r := r) hbC39
  replace HR := hide ((unhide HR).keep hbC39)
  replace HB := hide ((unhide HB).trans hbu40)
  replace HZ := hide ((unhide HZ).but hbu40 hrne)
  replace HX25 := hide ((hbu40.block _ (blk (unhide HX25)).1 (Ne.symm ne25)).trans (unhide HX25))
  replace HX35 := hide ((hbu40.block _ (blk (unhide HX35)).1 (Ne.symm ne35)).trans (unhide HX35))
  replace HS := hide (Nat.lt_of_lt_of_le (unhide HS) hbu40.size)
  obtain ⟨y0, y1, y2, y3⟩ := blk4 (unhide HZ)
  obtain ⟨z0, z1, z2, z3⟩ := frz4 (unhide HZ)
  rw [← eC39] at y0 y1 y2 y3 z0 z1 z2 z3
  have HLS := hide hls
  have HEC := hide eC39
  clear hls eC39 hbC39 hsC39 hhC39
  go_wp2
  rw [unhide HEC]
  rw [← unhide HQQ]
  exact dret_ty rfl rfl rfl (unhide HB) hr (unhide HZ) (unhide HY).symm (unhide HR) (lo := w.heap.size + 1) (Nat.lt_succ_self _) ⟨_, _, _, rfl, unhide HLS⟩
end Go.Proofs.YtljhpbjngbbjbaaDoor

/- Package parse: parameters. -/
namespace Go.Proofs.YtljhpbjngbbjbaaDoor
open Go Go.RowKit
theorem app_pm {w : World} {B n : Nat} {v : Value} {xs : List Value} (x1 x3 : ByteArray) (x2 x5 x6 : Int) (xa : Option Addr) (xn xc : Nat) (hown : w.ownsRow B 74 6 v n xs) (hn : n ≤ 100000) (hB : B ≤ w.heap.size) :
    ∃ g cap w', (Builtin.append_ #[46, 46] 46 #[v, .slice (some ⟨w.heap.size, 0, none⟩) 1 1]).run Tryd.prog (w.alloc (.cells #[.string x1, .int .i64 x2, .string x3, .slice xa xn xc, .int .i64 x5, .int .i64 x6] 74)) = .ok (.slice (some ⟨g, 0, none⟩) (n + 1) cap) w' ∧ w'.ownsRow B 74 6 (.slice (some ⟨g, 0, none⟩) (n + 1) cap) (n + 1) (xs ++ [.string x1, .int .i64 x2, .string x3, .slice xa xn xc, .int .i64 x5, .int .i64 x6]) ∧ (w.alloc (.cells #[.string x1, .int .i64 x2, .string x3, .slice xa xn xc, .int .i64 x5, .int .i64 x6] 74)).grownBy w' v.ownBlock ∧ (v.ownBlock = some g ∨ g = w.heap.size + 1) := by
  have hb := (MapKept.heap_alloc w (.cells #[.string x1, .int .i64 x2, .string x3, .slice xa xn xc, .int .i64 x5, .int .i64 x6] 74)).1
  obtain ⟨g, cap, w', hr, ho, hg, hw, -⟩ := run_append_lies (P := Tryd.prog) (w.alloc (.cells #[.string x1, .int .i64 x2, .string x3, .slice xa xn xc, .int .i64 x5, .int .i64 x6] 74)) 46 46 B 74 Tryd.t74 (.agg #[.string ⟨#[]⟩, .int .i64 0, .string ⟨#[]⟩, .slice none 0 0, .int .i64 0, .int .i64 0]) 6 80 Tryd.underlying46 (by kernel_rfl) (by kernel_rfl) (by kernel_rfl) (by kernel_rfl) rfl (by decide) v n xs (hown.alloc _) ⟨w.heap.size, 0, none⟩ 1 1 [.string x1, .int .i64 x2, .string x3, .slice xa xn xc, .int .i64 x5, .int .i64 x6] rfl (fun j u hj => by
      have h := (blk hb).2.1 j u (by simpa using hj)
      rw [addr0]
      exact h) (fun u hu => by
      simp at hu
      rcases hu with rfl | rfl | rfl | rfl | rfl | rfl <;> rfl) (by omega) (by unfold maxLen; omega) (by omega) (by simp; omega) _ rfl
  exact ⟨g, cap, w', hr, ho, hg, by simpa using hw⟩
theorem pm_keep (w w' : World) (P P' : Nat → Prop) (cs : List Value) (t : Pm) (h : PmP w P cs t) (hb : StaysP P w w') (hl : ∀ b, P b → P' b) : PmP w' P' cs t := h.keep hb hl
theorem pm_bnd (w : World) (P : Nat → Prop) (cs : List Value) (t : Pm) (h : PmP w P cs t) : PmP w (fun b => P b ∧ b < w.heap.size) cs t := h.bnd
end Go.Proofs.YtljhpbjngbbjbaaDoor

/- Package parse: declarations: the store. -/
namespace Go.Proofs.YtljhpbjngbbjbaaDoor
open Go Go.RowKit
theorem setCells_eq {b : Nat} : ∀ (l : List Value) (w : World) (o : Nat), w.setCells b o l = setN w b o l
  | [], _, _ => rfl
  | x :: l, w, o => setCells_eq l _ (o + 1)
theorem all_one (l : List Value) (h : l.all (·.oneCell') = true) : l.toArray.all (·.oneCell') = true := by simpa using h
theorem de_info : (Tryd.prog.info? 53).map (·.size) = some 22 := by kernel_rfl
theorem st_de {ops : Array Oper} {rest : List Oper} {op : Oper} {a : Act} {w : World} {Q : Exit → Act → World → Prop} (l : List Value) (hgd : op.guard = none) {x y : Operand} (ho : op.op = .store 53 x y) {b : Nat} (hx : a.eval x = .pointer (some ⟨b, 0, none⟩)) (hy : a.eval y = .agg l.toArray) (ht : w.there b 0 22) (hl : l.length = 22) (h1 : l.all (·.oneCell') = true) (h : ∀ W9, Hid (W9 = setN w b 0 l) → wpList Tryd.prog ops Q rest (a.put op.dst undef) W9) : wpList Tryd.prog ops Q (op :: rest) a w :=
  wpList_store_mid hgd _ x y ho b 0 l.toArray hx hy (by simpa [hl] using ht) (by rw [de_info]; simp [hl]) (all_one l h1) (by rw [setCells_eq]; simpa using h _ rfl)
theorem there_of {w : World} {q o n : Nat} {cs : Array Value} {ty : TypeId} (h : w.heap[q]? = some (.cells cs ty)) (hn : o + n ≤ cs.size) : w.there q o n := fun j hj => by
  have h1 : o + j < cs.size := by omega
  exact ⟨by rw [(blk h).2.1 (o + j) _ (Array.getElem?_eq_getElem h1)]; rfl, (blk h).2.2 _⟩
/-- A declaration as a value. -/
def DeW (w : World) (lo : Nat) (v : Value) (d : De) : Prop := ∃ x, v = .agg (deCells d x).toArray ∧ DeIn w lo d x
theorem DeW.keep (w w' : World) (lo lo' : Nat) (v : Value) (t : De) (h : DeW w lo v t) (hb : Stays lo w w') (hl : lo' ≤ lo) : DeW w' lo' v t := by
  obtain ⟨x, e, h⟩ := h
  exact ⟨x, e, h.keep hb hl⟩
end Go.Proofs.YtljhpbjngbbjbaaDoor

/- Package parse: a contract. -/
namespace Go.Proofs.YtljhpbjngbbjbaaDoor
open Go Go.RowKit
theorem Bu.refl (q r : Nat) (w : World) : Bu q r w w := ⟨rfl, rfl, rfl, Nat.le_refl _, fun _ _ _ _ => rfl⟩
theorem Bu.but {q r : Nat} {a b c : World} (h : Bu q r a b) (k : But r b c) : Bu q r a c :=
  ⟨k.os.trans h.os, k.tape.trans h.tape, k.output.trans h.output, Nat.le_trans h.size k.size, fun j hj h1 h2 => (k.block j (Nat.lt_of_lt_of_le hj h.size) h1).trans (h.block j hj h1 h2)⟩
end Go.Proofs.YtljhpbjngbbjbaaDoor

/- Package parse: a definition. -/
namespace Go.Proofs.YtljhpbjngbbjbaaDoor
open Go Go.RowKit
theorem ld_de {ops : Array Oper} {rest : List Oper} {op : Oper} {a : Act} {w : World} {Q : Exit → Act → World → Prop} (l : List Value) (hgd : op.guard = none) {x : Operand} (ho : op.op = .load 53 x) {b : Nat} (hx : a.eval x = .pointer (some ⟨b, 0, none⟩)) (ht : w.rangeAt b 0 l) (hl : l.length = 22) (h : wpList Tryd.prog ops Q rest (a.put op.dst (.agg l.toArray)) w) : wpList Tryd.prog ops Q (op :: rest) a w :=
  wpList_load_mid hgd _ x ho b 0 hx l _ ht Tryd.underlying53 rfl (by rw [de_info, hl]) h
end Go.Proofs.YtljhpbjngbbjbaaDoor

/- Package parse: programs. -/
namespace Go.Proofs.YtljhpbjngbbjbaaDoor
open Go Go.RowKit
theorem app_de {w : World} {B n : Nat} {v : Value} {xs l : List Value} (hl : l.length = 22) (h1 : ∀ u ∈ l, u.oneCell' = true) (hown : w.ownsRow B 53 22 v n xs) (hn : n ≤ 100000) (hB : B ≤ w.heap.size) :
    ∃ g cap w', (Builtin.append_ #[23, 23] 23 #[v, .slice (some ⟨w.heap.size, 0, none⟩) 1 1]).run Tryd.prog (w.alloc (.cells l.toArray 53)) = .ok (.slice (some ⟨g, 0, none⟩) (n + 1) cap) w' ∧ w'.ownsRow B 53 22 (.slice (some ⟨g, 0, none⟩) (n + 1) cap) (n + 1) (xs ++ l) ∧ (w.alloc (.cells l.toArray 53)).grownBy w' v.ownBlock ∧ (v.ownBlock = some g ∨ g = w.heap.size + 1) := by
  have hb := (MapKept.heap_alloc w (.cells l.toArray 53)).1
  obtain ⟨g, cap, w', hr, ho, hg, hw, -⟩ := run_append_lies (P := Tryd.prog) (w.alloc (.cells l.toArray 53)) 23 23 B 53 Tryd.t53 (.agg #[.bool false, .string ⟨#[]⟩, .string ⟨#[]⟩, .bool false, .slice none 0 0, .int .i64 0, .int .i64 0, .string ⟨#[]⟩, .slice none 0 0, .int .i64 0, .slice none 0 0, .string ⟨#[]⟩, .slice none 0 0, .slice none 0 0, .int .i64 0, .string ⟨#[]⟩, .string ⟨#[]⟩, .bool false, .slice none 0 0, .int .i64 0, .int .i64 0, .int .i64 0]) 22 320 Tryd.underlying23 (by kernel_rfl) (by kernel_rfl) (by kernel_rfl) (by kernel_rfl) rfl (by decide) v n xs (hown.alloc _) ⟨w.heap.size, 0, none⟩ 1 1 l (by omega) (fun j u hj => by
      have h := (blk hb).2.1 j u (by simpa using hj)
      rw [addr0]
      exact h) h1 (by omega) (by unfold maxLen; omega) (by omega) (by simp; omega) _ rfl
  exact ⟨g, cap, w', hr, ho, hg, by simpa using hw⟩
end Go.Proofs.YtljhpbjngbbjbaaDoor

/- The document's parser: a declaration while it is read. -/
namespace Go.Proofs.YtljhpbjngbbjbaaDoor
open Go Go.RowKit
/-- A declaration while it is read: the result's box, the variable's box. -/
structure DI (w : World) (r : Nat) (d : De) (x : DeV) (V : World) : Prop where
  but : But r w V
  z : V.heap[w.heap.size]? = some (.cells #[.bool false, .string ⟨#[]⟩, .string ⟨#[]⟩, .bool false, .slice none 0 0, .int .i64 0, .int .i64 0, .string ⟨#[]⟩, .slice none 0 0, .int .i64 0, .slice none 0 0, .string ⟨#[]⟩, .slice none 0 0, .slice none 0 0, .int .i64 0, .string ⟨#[]⟩, .string ⟨#[]⟩, .bool false, .slice none 0 0, .int .i64 0, .int .i64 0, .int .i64 0] 53)
  b : V.heap[w.heap.size + 1]? = some (.cells (deCells d x).toArray 53)
  inn : DeIn V (w.heap.size + 2) d x
  rlt : r < w.heap.size
theorem DI.but' {w V V' : World} {r : Nat} {d : De} {x : DeV} (h : DI w r d x V) (hb : But r V V') : DI w r d x V' := by
  have h1 := (blk h.b).1
  have h2 := h.rlt
  exact ⟨h.but.trans hb, (hb.block _ (by omega) (by omega)).trans h.z, (hb.block _ h1 (by omega)).trans h.b, h.inn.keep (Stays.but hb (by omega)) (Nat.le_refl _), h2⟩
theorem PD.setN {w : World} {r d q : Nat} {st : PS} {ts : List (Int × ByteArray × Int)} (h : PD w r ts st d) (hq : r < q) (o : Nat) (cs : List Value) : PD (setN w q o cs) r ts st d := h.out hq fun k hk => heap_setN (by omega) cs w o
theorem DI.set {w V : World} {r : Nat} {d d' : De} {x x' : DeV} (h : DI w r d x V) (o : Nat) (vs : List Value) (hl : o + vs.length ≤ 22) (he : (deCells d x).take o ++ vs ++ (deCells d x).drop (o + vs.length) = deCells d' x') (hin : DeIn V (w.heap.size + 2) d' x') : DI w r d' x' (setN V (w.heap.size + 1) o vs) := by
  have h2 := h.rlt
  refine ⟨But.setN vs V o h.but (by omega), (heap_setN (by omega) vs V o).trans h.z, ?_, hin.keep (Stays.setN vs V o (Stays.of (Below.refl _ _)) (by omega)) (Nat.le_refl _), h2⟩
  rw [blk_setN vs V o (deCells d x) h.b hl, he]
/-- What the rule of declarations answers. -/
def DDe (x : De × PS) (r : Nat) (ts : List (Int × ByteArray × Int)) (d : Nat) (w : World) (e : Ending) (w' : World) : Prop := DP (fun w' v t => DeW w' w.heap.size v t) x r ts d w e w'
theorem dret_de {fn : Func} {a : Act} {tt : Nat} {w V : World} {r dd : Nat} {ts : List (Int × ByteArray × Int)} {d : De} {x : DeV} {st : PS} {Y : De × PS} (hf : fn.results = #[.cell tt 53]) (ht : a.tmps[tt]? = some (.pointer (some ⟨w.heap.size, 0, none⟩))) (hdf : a.defers = []) (hI : DI w r d x V) (hR : PD V r ts st dd) (hY : Y = (d, st)) :
    bodyPost Tryd.prog fn (DDe Y r ts dd w) .ret a (setN V w.heap.size 0 (deCells d x)) := by
  subst hY
  refine bodyPost_ret (res_row (cs := deCells d x) hf ht (range_block (blk_all hI.z rfl)) Tryd.underlying53 rfl de_info) hdf ?_
  exact ⟨But.setN _ V 0 hI.but (Nat.le_refl _), hR.setN hI.rlt 0 _, _, rfl, x, rfl, hI.inn.keep (Stays.setN _ V 0 (Stays.of (Below.refl _ _)) (by omega)) (by omega)⟩
/-- A row of a declaration that grows in the variable's box, at a cell of it. -/
structure GI {α : Type} (El : World → (Nat → Prop) → List Value → α → Prop) (d : De) (x : DeV) (fo : Nat) (ty : TypeId) (k : Nat) (w : World) (r : Nat) (Xp : Nat → Prop) (B0 : Nat) (v : Value) (l : List α) (vs : List (List Value)) (V : World) : Prop where
  but : But r w V
  z : V.heap[w.heap.size]? = some (.cells #[.bool false, .string ⟨#[]⟩, .string ⟨#[]⟩, .bool false, .slice none 0 0, .int .i64 0, .int .i64 0, .string ⟨#[]⟩, .slice none 0 0, .int .i64 0, .slice none 0 0, .string ⟨#[]⟩, .slice none 0 0, .slice none 0 0, .int .i64 0, .string ⟨#[]⟩, .string ⟨#[]⟩, .bool false, .slice none 0 0, .int .i64 0, .int .i64 0, .int .i64 0] 53)
  b : V.heap[w.heap.size + 1]? = some (.cells ((deCells d x).set fo v).toArray 53)
  ord : r < w.heap.size ∧ w.heap.size + 1 < B0 ∧ B0 ≤ V.heap.size ∧ ∀ b, Xp b → b < B0 ∧ w.heap.size + 1 < b
  own : V.ownsRow B0 ty k v l.length vs.flatten
  len : vs.length = l.length
  all : ∀ x ∈ vs, x.length = k
  tr : ∀ (j : Nat) x t, vs[j]? = some x → l[j]? = some t → El V (fun b => w.heap.size + 2 ≤ b ∧ ¬ Xp b ∧ v.ownBlock ≠ some b) x t
  inn : DeInP V (fun b => w.heap.size + 2 ≤ b ∧ ¬ Xp b ∧ v.ownBlock ≠ some b) d x
section
variable {α : Type} {El : World → (Nat → Prop) → List Value → α → Prop} {d : De} {x : DeV} {fo : Nat} {ty : TypeId} {k : Nat} {w V V' : World} {r B0 : Nat} {Xp : Nat → Prop} {v : Value} {l : List α} {vs : List (List Value)}
theorem GI.but' (hk : ∀ (w w' : World) (P P' : Nat → Prop) cs t, El w P cs t → StaysP P w w' → (∀ b, P b → P' b) → El w' P' cs t) (h : GI El d x fo ty k w r Xp B0 v l vs V) (hb : But r V V') : GI El d x fo ty k w r Xp B0 v l vs V' := by
  obtain ⟨h1, h2, h3, h4⟩ := h.ord
  have hst : StaysP (fun b => w.heap.size + 2 ≤ b ∧ ¬ Xp b ∧ v.ownBlock ≠ some b) V V' := ⟨hb.size, fun k hk hs => hb.block k hs (by have := hk.1; omega)⟩
  refine ⟨h.but.trans hb, (hb.block _ (blk h.z).1 (by omega)).trans h.z, (hb.block _ (blk h.b).1 (by omega)).trans h.b, ⟨h1, h2, Nat.le_trans h3 hb.size, h4⟩, ?_, h.len, h.all, fun j y t hy ht => hk _ _ _ _ _ _ (h.tr j y t hy ht) hst fun _ h => h, h.inn.keep hst fun _ h => h⟩
  obtain ⟨h5, h6 | ⟨g, cap, cur, e, hB, hc, hr⟩⟩ := h.own
  · exact ⟨h5, .inl h6⟩
  · exact ⟨h5, .inr ⟨g, cap, cur, e, hB, (hb.block _ (blk hc).1 (by omega)).trans hc, hr⟩⟩
theorem GI.row (hk : ∀ (w w' : World) (P P' : Nat → Prop) cs t, El w P cs t → StaysP P w w' → (∀ b, P b → P' b) → El w' P' cs t) (h : GI El d x fo ty k w r Xp B0 v l vs V) (hl : l.length ≤ 1000000) : RowP V k (fun b => w.heap.size + 2 ≤ b) v l.length fun j cs => ∀ t, l[j]? = some t → El V (fun b => w.heap.size + 2 ≤ b) cs t := by
  obtain ⟨o1, o2, o3, o4⟩ := h.ord
  rcases Nat.eq_zero_or_pos l.length with h0 | hp
  · obtain ⟨h1, h2 | ⟨g, cap, cur, e, hB, hc, hle, hm, hsz, htk⟩⟩ := h.own
    · rw [h2.1, h0]
      exact ⟨none, 0, rfl, Nat.le_refl _, by omega, fun h => absurd rfl h⟩
    · rw [e, h0]
      exact ⟨_, cap, rfl, by omega, by omega, fun h => absurd rfl h⟩
  · obtain ⟨g, cap, e, hg1, hg2⟩ := h.own.form hp
    have hc := h.own.cells (g := g) (by rw [e]; rfl)
    have hcap : l.length ≤ cap := by
      obtain ⟨-, h1 | ⟨g', c', cur, e2, -, -, h2, -⟩⟩ := h.own
      · exact absurd h1.2 (by omega)
      · rw [e] at e2
        obtain ⟨-, rfl⟩ : g = g' ∧ cap = c' := by simpa using e2
        exact h2
    refine ⟨some ⟨g, 0, none⟩, cap, e, hcap, hl, fun _ => ⟨g, 0, rfl, by omega, hg2, fun j hj => ?_⟩⟩
    obtain ⟨y, hy⟩ : ∃ y, vs[j]? = some y := ⟨_, List.getElem?_eq_getElem (by rw [h.len]; exact hj)⟩
    refine ⟨y, fun m u hu => ?_, fun t ht => hk _ _ _ _ _ _ (h.tr j y t hy ht) ⟨Nat.le_refl _, fun _ _ _ => rfl⟩ fun b hb => hb.1⟩
    have := hc (j * k + m) u (flat_k vs j y h.all hy m u hu)
    rw [Nat.zero_add]
    rw [addr0] at this
    exact this
/-- One more. -/
theorem GI.more {m c cap g : Nat} {a : Option Addr} {V9 w7 V8 wa : World} {t7 : α} {cs : List Value} {P7 : Nat → Prop} {o : Obj} (hk : ∀ (w w' : World) (P P' : Nat → Prop) cs t, El w P cs t → StaysP P w w' → (∀ b, P b → P' b) → El w' P' cs t) (hbd : ∀ (w : World) (P : Nat → Prop) cs t, El w P cs t → El w (fun b => P b ∧ b < w.heap.size) cs t)
    (h : GI El d x fo ty k w r Xp B0 (.slice a m c) l vs V9) (hb7 : But r V9 w7) (hcs : cs.length = k) (hv7 : El w7 P7 cs t7) (hP7 : ∀ b, b < w7.heap.size → P7 b → w.heap.size + 2 ≤ b ∧ ¬ Xp b ∧ (Value.slice a m c).ownBlock ≠ some b)
    (h8 : ∀ j, j < w7.heap.size → ¬ Xp j → V8.heap[j]? = w7.heap[j]?) (hs8 : w7.heap.size ≤ V8.heap.size) (hos : V8.os = w7.os ∧ V8.tape = w7.tape ∧ V8.output = w7.output)
    (hoa : wa.ownsRow B0 ty k (.slice (some ⟨g, 0, none⟩) (l.length + 1) cap) (l.length + 1) (vs.flatten ++ cs)) (hga : (V8.alloc o).grownBy wa (Value.slice a m c).ownBlock) (hwa : (Value.slice a m c).ownBlock = some g ∨ g = V8.heap.size + 1) :
    GI El d x fo ty k w r Xp B0 (.slice (some ⟨g, 0, none⟩) (l.length + 1) cap) (l ++ [t7]) (vs ++ [cs]) (wa.setCell ⟨w.heap.size + 1, fo, none⟩ (.slice (some ⟨g, 0, none⟩) (l.length + 1) cap)) ∧ wa.heap[w.heap.size + 1]? = some (.cells ((deCells d x).set fo (.slice a m c)).toArray 53) ∧ ∀ j, j < w.heap.size → (wa.setCell ⟨w.heap.size + 1, fo, none⟩ (.slice (some ⟨g, 0, none⟩) (l.length + 1) cap)).heap[j]? = w7.heap[j]? := by
  obtain ⟨o1, o2, o3, o4⟩ := h.ord
  have hs97 := hb7.size
  have hlt9 := h.own.lt
  have hsa : w7.heap.size ≤ wa.heap.size := by have := hga.size; simp at this; omega
  have hblk : ∀ j, j < w7.heap.size → ¬ Xp j → (Value.slice a m c).ownBlock ≠ some j → wa.heap[j]? = w7.heap[j]? := fun j hj hx hne => by
    rw [hga.block j (by simp; omega) (fun e => hne e.symm)]
    exact (((Below.refl _ V8).alloc (Nat.le_refl _) _).block j (by omega)).trans (h8 j hj hx)
  have hlo : ∀ j, j < B0 → (Value.slice a m c).ownBlock ≠ some j := fun j hj e => by have := (hlt9 j e).1; omega
  have hxlo : ∀ j, j < w.heap.size + 2 → ¬ Xp j := fun j hj hx => by have := (o4 j hx).2; omega
  have hbw7 := h.but.trans hb7
  have hset : ∀ j, j ≠ w.heap.size + 1 → (wa.setCell ⟨w.heap.size + 1, fo, none⟩ (.slice (some ⟨g, 0, none⟩) (l.length + 1) cap)).heap[j]? = wa.heap[j]? := fun j hj => Below.heap_setCell wa ⟨w.heap.size + 1, fo, none⟩ _ j hj
  have hz9 := (blk h.z).1
  have hb9 := (blk h.b).1
  have hba := (hblk (w.heap.size + 1) (by omega) (hxlo _ (by omega)) (hlo _ (by omega))).trans ((hb7.block _ hb9 (by omega)).trans h.b)
  have hza := (hblk w.heap.size (by omega) (hxlo _ (by omega)) (hlo _ (by omega))).trans ((hb7.block _ hz9 (by omega)).trans h.z)
  have hbwa : But r w wa := ⟨hga.os.trans (hos.1.trans hbw7.os), hga.tape.trans (hos.2.1.trans hbw7.tape), hga.output.trans (hos.2.2.trans hbw7.output), Nat.le_trans hbw7.size hsa, fun j hj hne => (hblk j (Nat.lt_of_lt_of_le hj hbw7.size) (hxlo j (by omega)) (hlo j (by omega))).trans (hbw7.block j hj hne)⟩
  have hgne : ∀ b, b < w7.heap.size → (Value.slice a m c).ownBlock ≠ some b → (Value.slice (some ⟨g, 0, none⟩) (l.length + 1) cap).ownBlock ≠ some b := fun b hb hne e => by
    have e2 : g = b := by simpa [Value.ownBlock] using e
    rcases hwa with hw | hw
    · exact hne (by rw [hw, e2])
    · omega
  have st97 : StaysP (fun b => (w.heap.size + 2 ≤ b ∧ ¬ Xp b ∧ (Value.slice a m c).ownBlock ≠ some b) ∧ b < V9.heap.size) V9 w7 := ⟨hs97, fun j hj hs => hb7.block j hs (by have := hj.1.1; omega)⟩
  have st7a : StaysP (fun b => (w.heap.size + 2 ≤ b ∧ ¬ Xp b ∧ (Value.slice a m c).ownBlock ≠ some b) ∧ b < w7.heap.size) w7 wa := ⟨hsa, fun j hj hs => hblk j hs hj.1.2.1 hj.1.2.2⟩
  have stas : StaysP (fun b => w.heap.size + 2 ≤ b ∧ ¬ Xp b ∧ (Value.slice (some ⟨g, 0, none⟩) (l.length + 1) cap).ownBlock ≠ some b) wa (wa.setCell ⟨w.heap.size + 1, fo, none⟩ (.slice (some ⟨g, 0, none⟩) (l.length + 1) cap)) := ⟨by simp, fun j hj _ => hset j (by have := hj.1; omega)⟩
  have p97 : ∀ b, ((w.heap.size + 2 ≤ b ∧ ¬ Xp b ∧ (Value.slice a m c).ownBlock ≠ some b) ∧ b < V9.heap.size) → ((w.heap.size + 2 ≤ b ∧ ¬ Xp b ∧ (Value.slice a m c).ownBlock ≠ some b) ∧ b < w7.heap.size) := fun b hb => ⟨hb.1, by have := hb.2; omega⟩
  have p7a : ∀ b, ((w.heap.size + 2 ≤ b ∧ ¬ Xp b ∧ (Value.slice a m c).ownBlock ≠ some b) ∧ b < w7.heap.size) → (w.heap.size + 2 ≤ b ∧ ¬ Xp b ∧ (Value.slice (some ⟨g, 0, none⟩) (l.length + 1) cap).ownBlock ≠ some b) := fun b hb => ⟨hb.1.1, hb.1.2.1, hgne b hb.2 hb.1.2.2⟩
  refine ⟨⟨but_new hbwa (by omega) _ _, (hset _ (by omega)).trans hza, ?_, ⟨o1, o2, by simp; omega, o4⟩, ?_, by simp [h.len], ?_, ?_, ((h.inn.bnd.keep st97 p97).keep st7a p7a).keep stas fun _ h => h⟩, hba, fun j hj => (hset j (by omega)).trans (hblk j (by omega) (hxlo j (by omega)) (hlo j (by omega)))⟩
  · rw [set_block hba]
    simp [List.set_set]
  · have h2 := ownsRow_setCell_below hoa (a := ⟨w.heap.size + 1, fo, none⟩) (by show w.heap.size + 1 < B0; omega) (.slice (some ⟨g, 0, none⟩) (l.length + 1) cap)
    simpa using h2
  · intro y hy
    rcases List.mem_append.1 hy with hy | hy
    · exact h.all y hy
    · obtain rfl := List.mem_singleton.1 hy
      exact hcs
  · intro j y t' hy ht
    rcases Nat.lt_or_ge j l.length with hj | hj
    · rw [List.getElem?_append_left (by rw [h.len]; exact hj)] at hy
      rw [List.getElem?_append_left hj] at ht
      exact hk _ _ _ _ _ _ (hk _ _ _ _ _ _ (hk _ _ _ _ _ _ (hbd _ _ _ _ (h.tr j y t' hy ht)) st97 p97) st7a p7a) stas fun _ h => h
    · have hjl : j = l.length := by
        have := (List.getElem?_eq_some_iff.1 ht).1
        simp at this
        omega
      subst hjl
      rw [List.getElem?_append_right (by rw [h.len]; exact Nat.le_refl _), h.len, Nat.sub_self] at hy
      rw [List.getElem?_append_right (Nat.le_refl _), Nat.sub_self] at ht
      obtain rfl := Option.some.inj hy
      obtain rfl := Option.some.inj ht
      exact hk _ _ _ _ _ _ (hk _ _ _ _ _ _ (hbd _ _ _ _ hv7) ⟨hsa, fun j hj hs => hblk j hs (hP7 j hj.2 hj.1).2.1 (hP7 j hj.2 hj.1).2.2⟩ fun b hb => ⟨(hP7 b hb.2 hb.1).1, (hP7 b hb.2 hb.1).2.1, hgne b hb.2 (hP7 b hb.2 hb.1).2.2⟩) stas fun _ h => h
end
/-- The rests of the rule's code. -/
def dT : Nat → Code → Code
  | 0, c => c
  | k + 1, c => dT k (cQ_ c)
def dR (k : Nat) (f : Func) : Code := dT k (f.body.getD .skip)
section
variable (ts : List (Int × ByteArray × Int))
/-- What the rests make. -/
def endM (d : De) (st : PS) : De × PS := match exD ts (mustD ts ⟨#[105, 115]⟩ st) with
  | (t, s) => ({ d with body := t }, mustD ts ⟨#[59, 59]⟩ s)
def meaM (d : De) (st : PS) : De × PS := if isD ts ⟨#[100, 101, 99, 114, 101, 97, 115, 101, 115]⟩ st then (match exD ts (stepD ts st) with
  | (t, s) => match meaL ts ts.length [t] s with
    | (l, s') => endM ts { d with mea := l } s') else endM ts d st
def ensM (d : De) (st : PS) : De × PS := if isD ts ⟨#[101, 110, 115, 117, 114, 101, 115]⟩ st then (match nameD ts (stepD ts st) with
  | (n, s) => match exD ts (mustD ts ⟨#[46]⟩ s) with
    | (t, s') => meaM ts { d with res := n.2.1, ens := [t] } s') else meaM ts d st
def reqM (d : De) (st : PS) : De × PS := if isD ts ⟨#[114, 101, 113, 117, 105, 114, 101, 115]⟩ st then (match exD ts (stepD ts st) with
  | (t, s) => ensM ts { d with req := [t] } s) else ensM ts d st
def typM (d : De) (st : PS) : De × PS := match typD ts st with
  | (t, s) => reqM ts { d with t := t } s
end
end Go.Proofs.YtljhpbjngbbjbaaDoor

namespace Go.Proofs.YtljhpbjngbbjbaaDoor
open Go Go.RowKit
/-- The rest of the rule from the body on. -/
def dend_ofS (ts : List (Int × ByteArray × Int)) (M : De → PS → De × PS) (k : Nat) (r dd : Nat) : Prop := ∀ (w W : World) (S : PS) (d : De) (x : DeV) (x4 x5 x6 x7 x8 x9 x10 x11 x12 x13 x14 x15 x16 x17 x18 x19 x20 x21 x22 x23 x24 x25 x26 x27 x28 x29 x30 x31 x32 x33 x34 x35 x36 x37 x38 x39 x40 x41 x42 x43 x44 x45 x46 x47 x48 x49 x50 x51 x52 x53 x54 x55 x56 x57 x58 x59 x60 x61 x62 x63 x64 x65 x66 x67 x68 x69 x70 x71 x72 x73 x74 x75 x76 x77 x78 x79 x80 x81 x82 x83 x84 x85 x86 x87 x88 x89 x90 x91 x92 x93 x94 x95 x96 x97 x98 x99 x100 x101 x102 x103 x104 x105 x106 x107 x108 x109 x110 x111 x112 x113 x114 x115 x116 x117 x118 x119 x120 x121 x122 x123 x124 x125 x126 x127 x128 x129 x130 x131 x132 x133 x134 x135 x136 x137 x138 x139 x140 x141 x142 x143 x144 x145 x146 x147 x148 x149 x150 x151 x152 x153 x154 x155 x156 x157 x158 x159 x160 x161 x162 x163 x164 x165 x166 x167 x168 x169 x170 x171 x172 x173 x174 x175 x176 x177 x178 x179 x180 x181 x182 x183 x184 x185 x186 : Value) (QQ : Exit → Act → World → Prop), DI w r d x W → PD W r ts S dd → bodyPost Tryd.prog Tryd.f36 (DDe (M d S) r ts dd w) = QQ → Code.wp Tryd.prog (dR k Tryd.f36) QQ { tmps := #[.pointer (some ⟨r, 0, none⟩), undef, .pointer (some ⟨w.heap.size, 0, none⟩), .pointer (some ⟨w.heap.size + 1, 0, none⟩), x4, x5, x6, x7, x8, x9, x10, x11, x12, x13, x14, x15, x16, x17, x18, x19, x20, x21, x22, x23, x24, x25, x26, x27, x28, x29, x30, x31, x32, x33, x34, x35, x36, x37, x38, x39, x40, x41, x42, x43, x44, x45, x46, x47, x48, x49, x50, x51, x52, x53, x54, x55, x56, x57, x58, x59, x60, x61, x62, x63, x64, x65, x66, x67, x68, x69, x70, x71, x72, x73, x74, x75, x76, x77, x78, x79, x80, x81, x82, x83, x84, x85, x86, x87, x88, x89, x90, x91, x92, x93, x94, x95, x96, x97, x98, x99, x100, x101, x102, x103, x104, x105, x106, x107, x108, x109, x110, x111, x112, x113, x114, x115, x116, x117, x118, x119, x120, x121, x122, x123, x124, x125, x126, x127, x128, x129, x130, x131, x132, x133, x134, x135, x136, x137, x138, x139, x140, x141, x142, x143, x144, x145, x146, x147, x148, x149, x150, x151, x152, x153, x154, x155, x156, x157, x158, x159, x160, x161, x162, x163, x164, x165, x166, x167, x168, x169, x170, x171, x172, x173, x174, x175, x176, x177, x178, x179, x180, x181, x182, x183, x184, x185, x186], defers := [] } W
set_option maxRecDepth 100000 in
set_option maxHeartbeats 16000000 in
theorem dend_of {r dd : Nat} {ts : List (Int × ByteArray × Int)} (hT : TsOk ts) (hE : DcC 54 r ts dd (exD ts)) : dend_ofS ts (endM ts) 16 r dd := by
  intro w W S d x x4 x5 x6 x7 x8 x9 x10 x11 x12 x13 x14 x15 x16 x17 x18 x19 x20 x21 x22 x23 x24 x25 x26 x27 x28 x29 x30 x31 x32 x33 x34 x35 x36 x37 x38 x39 x40 x41 x42 x43 x44 x45 x46 x47 x48 x49 x50 x51 x52 x53 x54 x55 x56 x57 x58 x59 x60 x61 x62 x63 x64 x65 x66 x67 x68 x69 x70 x71 x72 x73 x74 x75 x76 x77 x78 x79 x80 x81 x82 x83 x84 x85 x86 x87 x88 x89 x90 x91 x92 x93 x94 x95 x96 x97 x98 x99 x100 x101 x102 x103 x104 x105 x106 x107 x108 x109 x110 x111 x112 x113 x114 x115 x116 x117 x118 x119 x120 x121 x122 x123 x124 x125 x126 x127 x128 x129 x130 x131 x132 x133 x134 x135 x136 x137 x138 x139 x140 x141 x142 x143 x144 x145 x146 x147 x148 x149 x150 x151 x152 x153 x154 x155 x156 x157 x158 x159 x160 x161 x162 x163 x164 x165 x166 x167 x168 x169 x170 x171 x172 x173 x174 x175 x176 x177 x178 x179 x180 x181 x182 x183 x184 x185 x186 QQ hI hR hQ
  obtain ⟨Y, hY⟩ : ∃ Y, endM ts d S = Y := ⟨_, rfl⟩
  rw [hY] at hQ
  unfold endM at hY
  have hr := hI.rlt
  have HI := hide hI
  have HR := hide hR
  have HT := hide hT
  have HY := hide hY
  have HQQ := hide hQ
  replace hE := hide hE
  have hrq : r ≠ w.heap.size + 1 := by omega
  clear hI hR hT hY hQ
  conv => arg 2; whnf
  obtain ⟨S0, hS0⟩ : ∃ Z9, mustD ts ⟨#[105, 115]⟩ (S) = Z9 := ⟨_, rfl⟩
  have HC0 := hide (dmust_any (unhide HR) (unhide HT) ⟨#[105, 115]⟩)
  rw [hS0] at HC0
  have HS0 := hide hS0
  clear hS0
  go_wp2_with fail
  refine (unhide HC0).mono ?_
  rintro e w0 ⟨rfl, hb0, hR0⟩
  have hY1 := unhide HY
  simp only [unhide HS0] at hY1
  replace HY := hide hY1
  clear hY1
  replace HI := hide ((unhide HI).but' hb0)
  replace HR := hide hR0
  clear hb0 hR0 HC0 HS0
  have HC2 := hide (unhide hE w0 (S0) (unhide HR))
  obtain ⟨⟨t2, S2⟩, hX2⟩ : ∃ X, exD ts (S0) = X := ⟨_, rfl⟩
  rw [hX2] at HC2
  have HX2 := hide hX2
  have hlo2 : w.heap.size + 2 ≤ w0.heap.size := (by have := (blk (unhide HI).b).1; omega)
  clear hX2
  go_wp2_with fail
  refine (unhide HC2).mono ?_
  rintro e w2 ⟨hb2, hR2, v2, rfl, hv2⟩
  have hY3 := unhide HY
  simp only [unhide HX2] at hY3
  replace HY := hide hY3
  clear hY3
  obtain ⟨i2, j2, s2, m2, b2, a2, n2, c2, rfl⟩ := hv2.form
  have HT2 := hide (hv2.keep (lo' := w.heap.size + 2) (Stays.of (Below.refl _ _)) hlo2)
  replace HI := hide ((unhide HI).but' hb2)
  replace HR := hide hR2
  clear hb2 hR2 hv2 HC2 HX2 hlo2
  obtain ⟨rfl, rfl, rfl, rfl, rfl, hls2⟩ := IsE.ls (unhide HT2)
  have HLs2 := hide hls2
  clear hls2 HT2
  have st4_0 := (blk (unhide HI).b).2.1 14 _ rfl
  have sz4_0 := (blk (unhide HI).b).2.2 14
  have st4_1 := (blk (unhide HI).b).2.1 15 _ rfl
  have sz4_1 := (blk (unhide HI).b).2.2 15
  have st4_2 := (blk (unhide HI).b).2.1 16 _ rfl
  have sz4_2 := (blk (unhide HI).b).2.2 16
  have st4_3 := (blk (unhide HI).b).2.1 17 _ rfl
  have sz4_3 := (blk (unhide HI).b).2.2 17
  have st4_4 := (blk (unhide HI).b).2.1 18 _ rfl
  have sz4_4 := (blk (unhide HI).b).2.2 18
  have st4_5 := (blk (unhide HI).b).2.1 19 _ rfl
  have sz4_5 := (blk (unhide HI).b).2.2 19
  have st4_6 := (blk (unhide HI).b).2.1 20 _ rfl
  have sz4_6 := (blk (unhide HI).b).2.2 20
  obtain ⟨V4, eV4⟩ : ∃ V, (((((((w2.setCell ⟨w.heap.size + 1, 14, none⟩ (.int .i64 t2.op)).setCell ⟨w.heap.size + 1, 15, none⟩ (.string t2.name)).setCell ⟨w.heap.size + 1, 16, none⟩ (.string t2.num)).setCell ⟨w.heap.size + 1, 17, none⟩ (.bool t2.b)).setCell ⟨w.heap.size + 1, 18, none⟩ (.slice a2 n2 c2)).setCell ⟨w.heap.size + 1, 19, none⟩ (.int .i64 0)).setCell ⟨w.heap.size + 1, 20, none⟩ (.int .i64 t2.at')) = V := ⟨_, rfl⟩
  have eN4 : setN w2 (w.heap.size + 1) 14 [.int .i64 t2.op, .string t2.name, .string t2.num, .bool t2.b, .slice a2 n2 c2, .int .i64 0, .int .i64 t2.at'] = V4 := eV4
  have hD4 : DI w r ({ d with body := t2 }) ({ x with ba := a2, bn := n2, bc := c2 }) V4 := by rw [← eN4]; exact (unhide HI).set 14 [.int .i64 t2.op, .string t2.name, .string t2.num, .bool t2.b, .slice a2 n2 c2, .int .i64 0, .int .i64 t2.at'] (show 14 + 7 ≤ 22 by decide) rfl ⟨(unhide HI).inn.ps, (unhide HI).inn.ty, (unhide HI).inn.req, (unhide HI).inn.ens, (unhide HI).inn.mea, (unhide HLs2)⟩
  have hR4 : PD V4 r ts (S2) dd := by rw [← eN4]; exact (unhide HR).setN (by omega) 14 [.int .i64 t2.op, .string t2.name, .string t2.num, .bool t2.b, .slice a2 n2 c2, .int .i64 0, .int .i64 t2.at']
  replace HLs2 := hide (eN4 ▸ (unhide HLs2).keep (Stays.setN [.int .i64 t2.op, .string t2.name, .string t2.num, .bool t2.b, .slice a2 n2 c2, .int .i64 0, .int .i64 t2.at'] w2 14 (Stays.of (Below.refl _ _)) (by omega)) (Nat.le_refl _))
  replace HI := hide hD4
  replace HR := hide hR4
  have HEV4 := hide eV4
  clear eV4 eN4 hD4 hR4
  obtain ⟨S5, hS5⟩ : ∃ Z9, mustD ts ⟨#[59, 59]⟩ (S2) = Z9 := ⟨_, rfl⟩
  have HC5 := hide (dmust_any (unhide HR) (unhide HT) ⟨#[59, 59]⟩)
  rw [hS5] at HC5
  have HS5 := hide hS5
  clear hS5
  go_wp2_with fail
  rw [unhide HEV4]
  refine (unhide HC5).mono ?_
  rintro e w5 ⟨rfl, hb5, hR5⟩
  have hY6 := unhide HY
  simp only [unhide HS5] at hY6
  replace HY := hide hY6
  clear hY6
  replace HI := hide ((unhide HI).but' hb5)
  replace HR := hide hR5
  clear hb5 hR5 HC5 HS5
  have HLd := hide (range_block (unhide HI).b)
  have HTh := hide (there_of (o := 0) (n := 22) (unhide HI).z (by decide))
  go_wp2_with (first | ((with_reducible refine ld_de (x := .tmp 3) (b := w.heap.size + 1) (deCells ({ d with body := t2 }) ({ x with ba := a2, bn := n2, bc := c2 })) ?_ ?_ ?_ (unhide HLd) ?_ ?_); exact rfl; exact rfl; exact rfl; exact rfl; clear HLd) | ((with_reducible refine st_de (x := .tmp 2) (y := .tmp 186) (b := w.heap.size) (deCells ({ d with body := t2 }) ({ x with ba := a2, bn := n2, bc := c2 })) ?_ ?_ ?_ ?_ (unhide HTh) ?_ ?_ ?_); exact rfl; exact rfl; exact rfl; exact rfl; exact rfl; exact rfl; clear HTh; intro W9 eW9; refine ?roundEnd))
  case roundEnd =>
    refine wpList_nil ?_
    refine (‹∀ (a : Act) (w : World), Code.wp Tryd.prog Code.ret _ a w → _› : ∀ (a : Act) (w : World), Code.wp Tryd.prog Code.ret _ a w → _) _ _ (wp_ret ?_)
    have e9 := unhide eW9
    clear eW9
    subst e9
    rw [← unhide HQQ]
    exact dret_de rfl rfl rfl (unhide HI) (unhide HR) (unhide HY).symm
end Go.Proofs.YtljhpbjngbbjbaaDoor
