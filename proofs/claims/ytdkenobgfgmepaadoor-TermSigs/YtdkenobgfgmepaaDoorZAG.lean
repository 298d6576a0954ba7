/- A term's word. -/
import Derived.Test.YtdkenobgfgmepaaDoorZAF
import Derived.Handy
set_option linter.unusedVariables false
set_option linter.unusedSimpArgs false

/- Labels. -/
namespace Go.Proofs.YtdkenobgfgmepaaDoor
open Go Go.RowKit
set_option maxRecDepth 100000 in
set_option maxHeartbeats 16000000 in
theorem baseTerm_any (p : Option Addr) (w : World) : Calls Tryd.prog 139 #[.agg #[.pointer p]] w (VPost (.pointer p) w) := by
  go_enter Tryd.func139, Tryd.ntmps139
  go_wp2
  go_ret
  exact ⟨rfl, (Below.refl _ w).alloc (Nat.le_refl _) _⟩
theorem fill4 {w : World} {q : Nat} {a b c d x y z u : Value} {ty : TypeId} (h : w.heap[q]? = some (.cells #[a, b, c, d] ty)) : ((((w.setCell ⟨q, 0, none⟩ x).setCell ⟨q, 1, none⟩ y).setCell ⟨q, 2, none⟩ z).setCell ⟨q, 3, none⟩ u).heap[q]? = some (.cells #[x, y, z, u] ty) := set_block (set_block (set_block (set_block h _) _) _) _
theorem new_block (w : World) (cs : Array Value) (ty : TypeId) : (w.alloc (.cells cs ty)).heap[w.heap.size]? = some (.cells cs ty) := by
  obtain ⟨w0, e, _, _, _, h⟩ := box_new w cs ty
  rw [e]
  exact h
theorem asize (w : World) (o : Obj) : (w.alloc o).heap.size = w.heap.size + 1 := by simp
theorem four {w w2 : World} {q : Nat} (h : Below q w w2) (hq : q ≤ w2.heap.size) (a b c d : Obj) : Below q w ((((w2.alloc a).alloc b).alloc c).alloc d) := by
  have e : ∀ (w : World) (o : Obj), q ≤ w.heap.size → q ≤ (w.alloc o).heap.size := fun w o h => by
    have := (Below.refl _ w).alloc (Nat.le_refl _) o
    exact Nat.le_trans h this.size
  exact (((h.alloc hq a).alloc (e _ _ hq) b).alloc (e _ _ (e _ _ hq)) c).alloc (e _ _ (e _ _ (e _ _ hq))) d
theorem three {w w2 : World} {q : Nat} (h : Below q w w2) (hq : q ≤ w2.heap.size) (a b c : Obj) : Below q w (((w2.alloc a).alloc b).alloc c) := by
  have e : ∀ (w : World) (o : Obj), q ≤ w.heap.size → q ≤ (w.alloc o).heap.size := fun w o h => by
    have := (Below.refl _ w).alloc (Nat.le_refl _) o
    exact Nat.le_trans h this.size
  exact ((h.alloc hq a).alloc (e _ _ hq) b).alloc (e _ _ (e _ _ hq)) c
set_option maxRecDepth 100000 in
set_option maxHeartbeats 16000000 in
theorem label_numeral {w : World} {b o : Nat} {t : Tm} (c0 : w.cell? ⟨b, o, none⟩ = some (.int .i64 t.op)) (c1 : w.cell? ⟨b, o + 1, none⟩ = some (.string t.name)) (c2 : w.cell? ⟨b, o + 2, none⟩ = some (.int .i64 t.sort)) (c3 : w.cell? ⟨b, o + 3, none⟩ = some (.string t.num)) (hb : b < w.heap.size) :
    Calls Tryd.prog 73 #[.iface 125 (.agg #[.pointer (some ⟨b, o, none⟩)])] w (VPost (.agg #[.int .i64 t.op, .string .empty, .string t.num, .int .i64 0]) w) := by
  go_enter Tryd.func73, Tryd.ntmps73
  go_wp2_with fail
  obtain ⟨w1, e1, hb1, hs1, _, hh1⟩ := box_new w #[.int .i64 0, .string .empty, .string .empty, .int .i64 0] 140
  rw [show w.alloc (.cells #[.int .i64 0, .string .empty, .string .empty, .int .i64 0] 140) = w.alloc (.cells #[.int .i64 0, .string { data := #[] }, .string { data := #[] }, .int .i64 0] 140) from rfl] at e1
  rw [e1]
  refine (baseTerm_any (some ⟨b, o, none⟩) w1).mono ?_
  rintro e w2 ⟨rfl, hb2⟩
  have hq2 := (hb2.block w.heap.size (by omega)).trans hh1
  obtain ⟨hql, hqc, hqf⟩ := blk hq2
  have q0 : w2.cell? ⟨w.heap.size, 0, none⟩ = some (.int .i64 0) := hqc 0 _ rfl
  have q1 : w2.cell? ⟨w.heap.size, 1, none⟩ = some (.string .empty) := hqc 1 _ rfl
  have q2 : w2.cell? ⟨w.heap.size, 2, none⟩ = some (.string .empty) := hqc 2 _ rfl
  have q3 : w2.cell? ⟨w.heap.size, 3, none⟩ = some (.int .i64 0) := hqc 3 _ rfl
  have f0 := hqf 0
  have f1 := hqf 1
  have f2 := hqf 2
  have f3 := hqf 3
  have hbb : Below w.heap.size w w2 := hb1.trans (hb2.mono (by omega))
  have c0' := (hbb.cell (p := ⟨b, o, none⟩) hb).trans c0
  have c1' := (hbb.cell (p := ⟨b, o + 1, none⟩) hb).trans c1
  have c2' := (hbb.cell (p := ⟨b, o + 2, none⟩) hb).trans c2
  have c3' := (hbb.cell (p := ⟨b, o + 3, none⟩) hb).trans c3
  have hb2w : b < w2.heap.size := by have := hbb.size; omega
  have hne : w2.heap.size ≠ w.heap.size := by omega
  have hne2 : w.heap.size ≠ w2.heap.size := by omega
  have hbn : b ≠ w2.heap.size := by omega
  have hbn2 : b ≠ w.heap.size := by omega
  have HB := hide hbb
  have HQ := hide hq2
  clear e1 hb1 hb2 hs1 hh1 hq2 hqc hqf hbb c0 c1 c2 c3 hb
  have ta0 := fun w => ta_yes (ty := 125) (v := .agg #[.pointer (some ⟨b, o, none⟩)]) (w := w) rfl rfl
  have ta1 := fun w => ta_no (k := 125) (ty := 160) (v := .agg #[.pointer (some ⟨b, o, none⟩)]) (z := .agg #[.pointer none]) (w := w) (by decide) rfl rfl (by go_simp)
  have ta2 := fun w => ta_no (k := 125) (ty := 109) (v := .agg #[.pointer (some ⟨b, o, none⟩)]) (z := .agg #[.pointer none]) (w := w) (by decide) rfl rfl (by go_simp)
  have HX : ∀ o1 o2 o3 o4 : Obj, ((((w2.alloc o1).alloc o2).alloc o3).alloc o4).heap[w.heap.size]? = some (.cells #[.int .i64 0, .string .empty, .string .empty, .int .i64 0] 140) := fun _ _ _ _ => keep_alloc (keep_alloc (keep_alloc (keep_alloc (unhide HQ) _) _) _) _
  have x0 : ∀ o1 o2 o3 o4 : Obj, ((((w2.alloc o1).alloc o2).alloc o3).alloc o4).cell? ⟨w.heap.size, 0, none⟩ = some (.int .i64 0) := fun _ _ _ _ => (blk (HX _ _ _ _)).2.1 0 _ rfl
  have x1 : ∀ o1 o2 o3 o4 : Obj, ((((w2.alloc o1).alloc o2).alloc o3).alloc o4).cell? ⟨w.heap.size, 1, none⟩ = some (.string .empty) := fun _ _ _ _ => (blk (HX _ _ _ _)).2.1 1 _ rfl
  have x2 : ∀ o1 o2 o3 o4 : Obj, ((((w2.alloc o1).alloc o2).alloc o3).alloc o4).cell? ⟨w.heap.size, 2, none⟩ = some (.string .empty) := fun _ _ _ _ => (blk (HX _ _ _ _)).2.1 2 _ rfl
  have x3 : ∀ o1 o2 o3 o4 : Obj, ((((w2.alloc o1).alloc o2).alloc o3).alloc o4).cell? ⟨w.heap.size, 3, none⟩ = some (.int .i64 0) := fun _ _ _ _ => (blk (HX _ _ _ _)).2.1 3 _ rfl
  have y : ∀ (o1 o2 o3 o4 : Obj) (o : Nat), ((((w2.alloc o1).alloc o2).alloc o3).alloc o4).frozen? ⟨w.heap.size, o, none⟩ = false := fun _ _ _ _ o => (blk (HX _ _ _ _)).2.2 o
  have HY := hide HX
  clear HX q0 q1 q2 q3 f0 f1 f2 f3
  go_wp2
  exact ⟨rfl, _, res_row (cs := [.int .i64 t.op, .string .empty, .string t.num, .int .i64 0]) rfl rfl (range_block (fill4 (unhide HY _ _ _ _))) rfl rfl rfl, rfl, ((((four (unhide HB) (Nat.le_of_lt hql) _ _ _ _).setCell (Nat.le_refl _) _).setCell (Nat.le_refl _) _).setCell (Nat.le_refl _) _).setCell (Nat.le_refl _) _⟩
set_option maxRecDepth 100000 in
set_option maxHeartbeats 16000000 in
theorem label_application {w : World} {b o : Nat} {t : Tm} (c0 : w.cell? ⟨b, o, none⟩ = some (.int .i64 t.op)) (c1 : w.cell? ⟨b, o + 1, none⟩ = some (.string t.name)) (c2 : w.cell? ⟨b, o + 2, none⟩ = some (.int .i64 t.sort)) (c3 : w.cell? ⟨b, o + 3, none⟩ = some (.string t.num)) (hb : b < w.heap.size) :
    Calls Tryd.prog 73 #[.iface 160 (.agg #[.pointer (some ⟨b, o, none⟩)])] w (VPost (.agg #[.int .i64 t.op, .string t.name, .string .empty, .int .i64 0]) w) := by
  go_enter Tryd.func73, Tryd.ntmps73
  go_wp2_with fail
  obtain ⟨w1, e1, hb1, hs1, _, hh1⟩ := box_new w #[.int .i64 0, .string .empty, .string .empty, .int .i64 0] 140
  rw [show w.alloc (.cells #[.int .i64 0, .string .empty, .string .empty, .int .i64 0] 140) = w.alloc (.cells #[.int .i64 0, .string { data := #[] }, .string { data := #[] }, .int .i64 0] 140) from rfl] at e1
  rw [e1]
  refine (baseTerm_any (some ⟨b, o, none⟩) w1).mono ?_
  rintro e w2 ⟨rfl, hb2⟩
  have hq2 := (hb2.block w.heap.size (by omega)).trans hh1
  obtain ⟨hql, hqc, hqf⟩ := blk hq2
  have q0 : w2.cell? ⟨w.heap.size, 0, none⟩ = some (.int .i64 0) := hqc 0 _ rfl
  have q1 : w2.cell? ⟨w.heap.size, 1, none⟩ = some (.string .empty) := hqc 1 _ rfl
  have q2 : w2.cell? ⟨w.heap.size, 2, none⟩ = some (.string .empty) := hqc 2 _ rfl
  have q3 : w2.cell? ⟨w.heap.size, 3, none⟩ = some (.int .i64 0) := hqc 3 _ rfl
  have f0 := hqf 0
  have f1 := hqf 1
  have f2 := hqf 2
  have f3 := hqf 3
  have hbb : Below w.heap.size w w2 := hb1.trans (hb2.mono (by omega))
  have c0' := (hbb.cell (p := ⟨b, o, none⟩) hb).trans c0
  have c1' := (hbb.cell (p := ⟨b, o + 1, none⟩) hb).trans c1
  have c2' := (hbb.cell (p := ⟨b, o + 2, none⟩) hb).trans c2
  have c3' := (hbb.cell (p := ⟨b, o + 3, none⟩) hb).trans c3
  have hb2w : b < w2.heap.size := by have := hbb.size; omega
  have hne : w2.heap.size ≠ w.heap.size := by omega
  have hne2 : w.heap.size ≠ w2.heap.size := by omega
  have hbn : b ≠ w2.heap.size := by omega
  have hbn2 : b ≠ w.heap.size := by omega
  have HB := hide hbb
  have HQ := hide hq2
  clear e1 hb1 hb2 hs1 hh1 hq2 hqc hqf hbb c0 c1 c2 c3 hb
  have ta0 := fun w => ta_no (k := 160) (ty := 125) (v := .agg #[.pointer (some ⟨b, o, none⟩)]) (z := .agg #[.pointer none]) (w := w) (by decide) rfl rfl (by go_simp)
  have ta1 := fun w => ta_yes (ty := 160) (v := .agg #[.pointer (some ⟨b, o, none⟩)]) (w := w) rfl rfl
  have ta2 := fun w => ta_no (k := 160) (ty := 109) (v := .agg #[.pointer (some ⟨b, o, none⟩)]) (z := .agg #[.pointer none]) (w := w) (by decide) rfl rfl (by go_simp)
  have HX : ∀ o1 o2 o3 o4 : Obj, ((((w2.alloc o1).alloc o2).alloc o3).alloc o4).heap[w.heap.size]? = some (.cells #[.int .i64 0, .string .empty, .string .empty, .int .i64 0] 140) := fun _ _ _ _ => keep_alloc (keep_alloc (keep_alloc (keep_alloc (unhide HQ) _) _) _) _
  have x0 : ∀ o1 o2 o3 o4 : Obj, ((((w2.alloc o1).alloc o2).alloc o3).alloc o4).cell? ⟨w.heap.size, 0, none⟩ = some (.int .i64 0) := fun _ _ _ _ => (blk (HX _ _ _ _)).2.1 0 _ rfl
  have x1 : ∀ o1 o2 o3 o4 : Obj, ((((w2.alloc o1).alloc o2).alloc o3).alloc o4).cell? ⟨w.heap.size, 1, none⟩ = some (.string .empty) := fun _ _ _ _ => (blk (HX _ _ _ _)).2.1 1 _ rfl
  have x2 : ∀ o1 o2 o3 o4 : Obj, ((((w2.alloc o1).alloc o2).alloc o3).alloc o4).cell? ⟨w.heap.size, 2, none⟩ = some (.string .empty) := fun _ _ _ _ => (blk (HX _ _ _ _)).2.1 2 _ rfl
  have x3 : ∀ o1 o2 o3 o4 : Obj, ((((w2.alloc o1).alloc o2).alloc o3).alloc o4).cell? ⟨w.heap.size, 3, none⟩ = some (.int .i64 0) := fun _ _ _ _ => (blk (HX _ _ _ _)).2.1 3 _ rfl
  have y : ∀ (o1 o2 o3 o4 : Obj) (o : Nat), ((((w2.alloc o1).alloc o2).alloc o3).alloc o4).frozen? ⟨w.heap.size, o, none⟩ = false := fun _ _ _ _ o => (blk (HX _ _ _ _)).2.2 o
  have HY := hide HX
  clear HX q0 q1 q2 q3 f0 f1 f2 f3
  have e1 : ∀ o1 o2 o3 : Obj, (((w2.alloc o1).alloc o2).alloc o3).cell? ⟨b, o + 1, none⟩ = some (.string t.name) := fun _ _ _ => ((three (Below.refl _ w2) (Nat.le_refl _) _ _ _).cell (p := ⟨b, o + 1, none⟩) hb2w).trans c1'
  go_wp2
  exact ⟨rfl, _, res_row (cs := [.int .i64 t.op, .string t.name, .string .empty, .int .i64 0]) rfl rfl (range_block (fill4 (unhide HY _ _ _ _))) rfl rfl rfl, rfl, ((((four (unhide HB) (Nat.le_of_lt hql) _ _ _ _).setCell (Nat.le_refl _) _).setCell (Nat.le_refl _) _).setCell (Nat.le_refl _) _).setCell (Nat.le_refl _) _⟩
set_option maxRecDepth 100000 in
set_option maxHeartbeats 16000000 in
theorem label_variable {w : World} {b o : Nat} {t : Tm} (c0 : w.cell? ⟨b, o, none⟩ = some (.int .i64 t.op)) (c1 : w.cell? ⟨b, o + 1, none⟩ = some (.string t.name)) (c2 : w.cell? ⟨b, o + 2, none⟩ = some (.int .i64 t.sort)) (c3 : w.cell? ⟨b, o + 3, none⟩ = some (.string t.num)) (hb : b < w.heap.size) :
    Calls Tryd.prog 73 #[.iface 109 (.agg #[.pointer (some ⟨b, o, none⟩)])] w (VPost (.agg #[.int .i64 t.op, .string t.name, .string .empty, .int .i64 t.sort]) w) := by
  go_enter Tryd.func73, Tryd.ntmps73
  go_wp2_with fail
  obtain ⟨w1, e1, hb1, hs1, _, hh1⟩ := box_new w #[.int .i64 0, .string .empty, .string .empty, .int .i64 0] 140
  rw [show w.alloc (.cells #[.int .i64 0, .string .empty, .string .empty, .int .i64 0] 140) = w.alloc (.cells #[.int .i64 0, .string { data := #[] }, .string { data := #[] }, .int .i64 0] 140) from rfl] at e1
  rw [e1]
  refine (baseTerm_any (some ⟨b, o, none⟩) w1).mono ?_
  rintro e w2 ⟨rfl, hb2⟩
  have hq2 := (hb2.block w.heap.size (by omega)).trans hh1
  obtain ⟨hql, hqc, hqf⟩ := blk hq2
  have q0 : w2.cell? ⟨w.heap.size, 0, none⟩ = some (.int .i64 0) := hqc 0 _ rfl
  have q1 : w2.cell? ⟨w.heap.size, 1, none⟩ = some (.string .empty) := hqc 1 _ rfl
  have q2 : w2.cell? ⟨w.heap.size, 2, none⟩ = some (.string .empty) := hqc 2 _ rfl
  have q3 : w2.cell? ⟨w.heap.size, 3, none⟩ = some (.int .i64 0) := hqc 3 _ rfl
  have f0 := hqf 0
  have f1 := hqf 1
  have f2 := hqf 2
  have f3 := hqf 3
  have hbb : Below w.heap.size w w2 := hb1.trans (hb2.mono (by omega))
  have c0' := (hbb.cell (p := ⟨b, o, none⟩) hb).trans c0
  have c1' := (hbb.cell (p := ⟨b, o + 1, none⟩) hb).trans c1
  have c2' := (hbb.cell (p := ⟨b, o + 2, none⟩) hb).trans c2
  have c3' := (hbb.cell (p := ⟨b, o + 3, none⟩) hb).trans c3
  have hb2w : b < w2.heap.size := by have := hbb.size; omega
  have hne : w2.heap.size ≠ w.heap.size := by omega
  have hne2 : w.heap.size ≠ w2.heap.size := by omega
  have hbn : b ≠ w2.heap.size := by omega
  have hbn2 : b ≠ w.heap.size := by omega
  have HB := hide hbb
  have HQ := hide hq2
  clear e1 hb1 hb2 hs1 hh1 hq2 hqc hqf hbb c0 c1 c2 c3 hb
  have ta0 := fun w => ta_no (k := 109) (ty := 125) (v := .agg #[.pointer (some ⟨b, o, none⟩)]) (z := .agg #[.pointer none]) (w := w) (by decide) rfl rfl (by go_simp)
  have ta1 := fun w => ta_no (k := 109) (ty := 160) (v := .agg #[.pointer (some ⟨b, o, none⟩)]) (z := .agg #[.pointer none]) (w := w) (by decide) rfl rfl (by go_simp)
  have ta2 := fun w => ta_yes (ty := 109) (v := .agg #[.pointer (some ⟨b, o, none⟩)]) (w := w) rfl rfl
  have HX : ∀ o1 o2 o3 o4 : Obj, ((((w2.alloc o1).alloc o2).alloc o3).alloc o4).heap[w.heap.size]? = some (.cells #[.int .i64 0, .string .empty, .string .empty, .int .i64 0] 140) := fun _ _ _ _ => keep_alloc (keep_alloc (keep_alloc (keep_alloc (unhide HQ) _) _) _) _
  have x0 : ∀ o1 o2 o3 o4 : Obj, ((((w2.alloc o1).alloc o2).alloc o3).alloc o4).cell? ⟨w.heap.size, 0, none⟩ = some (.int .i64 0) := fun _ _ _ _ => (blk (HX _ _ _ _)).2.1 0 _ rfl
  have x1 : ∀ o1 o2 o3 o4 : Obj, ((((w2.alloc o1).alloc o2).alloc o3).alloc o4).cell? ⟨w.heap.size, 1, none⟩ = some (.string .empty) := fun _ _ _ _ => (blk (HX _ _ _ _)).2.1 1 _ rfl
  have x2 : ∀ o1 o2 o3 o4 : Obj, ((((w2.alloc o1).alloc o2).alloc o3).alloc o4).cell? ⟨w.heap.size, 2, none⟩ = some (.string .empty) := fun _ _ _ _ => (blk (HX _ _ _ _)).2.1 2 _ rfl
  have x3 : ∀ o1 o2 o3 o4 : Obj, ((((w2.alloc o1).alloc o2).alloc o3).alloc o4).cell? ⟨w.heap.size, 3, none⟩ = some (.int .i64 0) := fun _ _ _ _ => (blk (HX _ _ _ _)).2.1 3 _ rfl
  have y : ∀ (o1 o2 o3 o4 : Obj) (o : Nat), ((((w2.alloc o1).alloc o2).alloc o3).alloc o4).frozen? ⟨w.heap.size, o, none⟩ = false := fun _ _ _ _ o => (blk (HX _ _ _ _)).2.2 o
  have HY := hide HX
  clear HX q0 q1 q2 q3 f0 f1 f2 f3
  go_wp2
  obtain ⟨W, eW, hWb⟩ : ∃ W, ((((w2.alloc (.cells #[.int .i64 t.op, .string { data := #[] }, .string { data := #[] }, .int .i64 0] 140)).alloc (.cells #[.pointer none] 125)).alloc (.cells #[.pointer none] 160)).alloc (.cells #[.pointer (some ⟨b, o, none⟩)] 109)) = W ∧ Below w2.heap.size w2 W := ⟨_, rfl, four (Below.refl _ w2) (Nat.le_refl _) _ _ _ _⟩
  have a1 : W.heap[w2.heap.size]? = some (.cells #[.int .i64 t.op, .string .empty, .string .empty, .int .i64 0] 140) := by
    rw [← eW]
    exact keep_alloc (keep_alloc (keep_alloc (new_block _ _ _) _) _) _
  have a4 : W.heap[w2.heap.size + 1 + 1 + 1]? = some (.cells #[.pointer (some ⟨b, o, none⟩)] 109) := by
    rw [← eW]
    have h := fun o1 o2 o3 : Obj => new_block (((w2.alloc o1).alloc o2).alloc o3) #[.pointer (some ⟨b, o, none⟩)] 109
    simp only [asize] at h
    exact h _ _ _
  have aq : W.heap[w.heap.size]? = some (.cells #[.int .i64 0, .string .empty, .string .empty, .int .i64 0] 140) := by
    rw [← eW]
    exact unhide HY _ _ _ _
  have n1 : W.cell? ⟨b, o + 1, none⟩ = some (.string t.name) := (hWb.cell (p := ⟨b, o + 1, none⟩) hb2w).trans c1'
  have n2 : W.cell? ⟨b, o + 2, none⟩ = some (.int .i64 t.sort) := (hWb.cell (p := ⟨b, o + 2, none⟩) hb2w).trans c2'
  have HB2 := hide ((unhide HB).trans (hWb.mono (Nat.le_of_lt hql)))
  rw [eW]
  obtain ⟨z1, z2, z3⟩ := blk a1
  have p0 : W.cell? ⟨w2.heap.size, 0, none⟩ = some (.int .i64 t.op) := z2 0 _ rfl
  have p1 : W.cell? ⟨w2.heap.size, 1, none⟩ = some (.string .empty) := z2 1 _ rfl
  have p2 : W.cell? ⟨w2.heap.size, 2, none⟩ = some (.string .empty) := z2 2 _ rfl
  have p3 : W.cell? ⟨w2.heap.size, 3, none⟩ = some (.int .i64 0) := z2 3 _ rfl
  have u1 := z3 1
  have u3 := z3 3
  have pv : W.cell? ⟨w2.heap.size + 1 + 1 + 1, 0, none⟩ = some (.pointer (some ⟨b, o, none⟩)) := (blk a4).2.1 0 _ rfl
  obtain ⟨v1, v2, v3⟩ := blk aq
  have q0 : W.cell? ⟨w.heap.size, 0, none⟩ = some (.int .i64 0) := v2 0 _ rfl
  have q1 : W.cell? ⟨w.heap.size, 1, none⟩ = some (.string .empty) := v2 1 _ rfl
  have q2 : W.cell? ⟨w.heap.size, 2, none⟩ = some (.string .empty) := v2 2 _ rfl
  have q3 : W.cell? ⟨w.heap.size, 3, none⟩ = some (.int .i64 0) := v2 3 _ rfl
  have g0 := v3 0
  have g1 := v3 1
  have g2 := v3 2
  have g3 := v3 3
  have HA := hide aq
  clear x0 x1 x2 x3 y eW hWb a4 aq z2 z3 v2 v3 c0' c1' c2' c3'
  have HP := hide a1
  clear a1
  go_region
  obtain ⟨V, eV, hV1, hV2, hV3⟩ : ∃ V, ((W.setCell ⟨w2.heap.size, 1, none⟩ (.string t.name)).setCell ⟨w2.heap.size, 3, none⟩ (.int .i64 t.sort)).drew = V ∧ V.heap[w2.heap.size]? = some (.cells #[.int .i64 t.op, .string t.name, .string .empty, .int .i64 t.sort] 140) ∧ V.heap[w.heap.size]? = some (.cells #[.int .i64 0, .string .empty, .string .empty, .int .i64 0] 140) ∧ Below w.heap.size w V :=
    ⟨_, rfl, set_block (set_block (unhide HP) _) _, keep_set (keep_set (unhide HA) hne2 _) hne2 _, (((unhide HB2).setCell (Nat.le_of_lt hql) _).setCell (Nat.le_of_lt hql) _).drew⟩
  rw [eV]
  clear eV n1 n2 p0 p1 p2 p3 u1 u3 pv q0 q1 q2 q3 g0 g1 g2 g3 z1 v1 HB2 HP HA
  obtain ⟨z1, z2, z3⟩ := blk hV1
  have p0 : V.cell? ⟨w2.heap.size, 0, none⟩ = some (.int .i64 t.op) := z2 0 _ rfl
  have p1 : V.cell? ⟨w2.heap.size, 1, none⟩ = some (.string t.name) := z2 1 _ rfl
  have p2 : V.cell? ⟨w2.heap.size, 2, none⟩ = some (.string .empty) := z2 2 _ rfl
  have p3 : V.cell? ⟨w2.heap.size, 3, none⟩ = some (.int .i64 t.sort) := z2 3 _ rfl
  obtain ⟨v1, v2, v3⟩ := blk hV2
  have q0 : V.cell? ⟨w.heap.size, 0, none⟩ = some (.int .i64 0) := v2 0 _ rfl
  have q1 : V.cell? ⟨w.heap.size, 1, none⟩ = some (.string .empty) := v2 1 _ rfl
  have q2 : V.cell? ⟨w.heap.size, 2, none⟩ = some (.string .empty) := v2 2 _ rfl
  have q3 : V.cell? ⟨w.heap.size, 3, none⟩ = some (.int .i64 0) := v2 3 _ rfl
  have g0 := v3 0
  have g1 := v3 1
  have g2 := v3 2
  have g3 := v3 3
  have HA := hide hV2
  have HB2 := hide hV3
  clear z1 z2 z3 v1 v2 v3 hV1 hV2 hV3
  go_wp2
  exact ⟨rfl, _, res_row (cs := [.int .i64 t.op, .string t.name, .string .empty, .int .i64 t.sort]) rfl rfl (range_block (fill4 (unhide HA))) rfl rfl rfl, rfl, ((((unhide HB2).setCell (Nat.le_refl _) _).setCell (Nat.le_refl _) _).setCell (Nat.le_refl _) _).setCell (Nat.le_refl _) _⟩
set_option maxRecDepth 100000 in
set_option maxHeartbeats 16000000 in
theorem label_truth {w : World} {b o : Nat} {t : Tm} (c0 : w.cell? ⟨b, o, none⟩ = some (.int .i64 t.op)) (c1 : w.cell? ⟨b, o + 1, none⟩ = some (.string t.name)) (c2 : w.cell? ⟨b, o + 2, none⟩ = some (.int .i64 t.sort)) (c3 : w.cell? ⟨b, o + 3, none⟩ = some (.string t.num)) (hb : b < w.heap.size) :
    Calls Tryd.prog 73 #[.iface 158 (.agg #[.pointer (some ⟨b, o, none⟩)])] w (VPost (.agg #[.int .i64 t.op, .string .empty, .string .empty, .int .i64 0]) w) := by
  go_enter Tryd.func73, Tryd.ntmps73
  go_wp2_with fail
  obtain ⟨w1, e1, hb1, hs1, _, hh1⟩ := box_new w #[.int .i64 0, .string .empty, .string .empty, .int .i64 0] 140
  rw [show w.alloc (.cells #[.int .i64 0, .string .empty, .string .empty, .int .i64 0] 140) = w.alloc (.cells #[.int .i64 0, .string { data := #[] }, .string { data := #[] }, .int .i64 0] 140) from rfl] at e1
  rw [e1]
  refine (baseTerm_any (some ⟨b, o, none⟩) w1).mono ?_
  rintro e w2 ⟨rfl, hb2⟩
  have hq2 := (hb2.block w.heap.size (by omega)).trans hh1
  obtain ⟨hql, hqc, hqf⟩ := blk hq2
  have q0 : w2.cell? ⟨w.heap.size, 0, none⟩ = some (.int .i64 0) := hqc 0 _ rfl
  have q1 : w2.cell? ⟨w.heap.size, 1, none⟩ = some (.string .empty) := hqc 1 _ rfl
  have q2 : w2.cell? ⟨w.heap.size, 2, none⟩ = some (.string .empty) := hqc 2 _ rfl
  have q3 : w2.cell? ⟨w.heap.size, 3, none⟩ = some (.int .i64 0) := hqc 3 _ rfl
  have f0 := hqf 0
  have f1 := hqf 1
  have f2 := hqf 2
  have f3 := hqf 3
  have hbb : Below w.heap.size w w2 := hb1.trans (hb2.mono (by omega))
  have c0' := (hbb.cell (p := ⟨b, o, none⟩) hb).trans c0
  have c1' := (hbb.cell (p := ⟨b, o + 1, none⟩) hb).trans c1
  have c2' := (hbb.cell (p := ⟨b, o + 2, none⟩) hb).trans c2
  have c3' := (hbb.cell (p := ⟨b, o + 3, none⟩) hb).trans c3
  have hb2w : b < w2.heap.size := by have := hbb.size; omega
  have hne : w2.heap.size ≠ w.heap.size := by omega
  have hne2 : w.heap.size ≠ w2.heap.size := by omega
  have hbn : b ≠ w2.heap.size := by omega
  have hbn2 : b ≠ w.heap.size := by omega
  have HB := hide hbb
  have HQ := hide hq2
  clear e1 hb1 hb2 hs1 hh1 hq2 hqc hqf hbb c0 c1 c2 c3 hb
  have ta0 := fun w => ta_no (k := 158) (ty := 125) (v := .agg #[.pointer (some ⟨b, o, none⟩)]) (z := .agg #[.pointer none]) (w := w) (by decide) rfl rfl (by go_simp)
  have ta1 := fun w => ta_no (k := 158) (ty := 160) (v := .agg #[.pointer (some ⟨b, o, none⟩)]) (z := .agg #[.pointer none]) (w := w) (by decide) rfl rfl (by go_simp)
  have ta2 := fun w => ta_no (k := 158) (ty := 109) (v := .agg #[.pointer (some ⟨b, o, none⟩)]) (z := .agg #[.pointer none]) (w := w) (by decide) rfl rfl (by go_simp)
  have HX : ∀ o1 o2 o3 o4 : Obj, ((((w2.alloc o1).alloc o2).alloc o3).alloc o4).heap[w.heap.size]? = some (.cells #[.int .i64 0, .string .empty, .string .empty, .int .i64 0] 140) := fun _ _ _ _ => keep_alloc (keep_alloc (keep_alloc (keep_alloc (unhide HQ) _) _) _) _
  have x0 : ∀ o1 o2 o3 o4 : Obj, ((((w2.alloc o1).alloc o2).alloc o3).alloc o4).cell? ⟨w.heap.size, 0, none⟩ = some (.int .i64 0) := fun _ _ _ _ => (blk (HX _ _ _ _)).2.1 0 _ rfl
  have x1 : ∀ o1 o2 o3 o4 : Obj, ((((w2.alloc o1).alloc o2).alloc o3).alloc o4).cell? ⟨w.heap.size, 1, none⟩ = some (.string .empty) := fun _ _ _ _ => (blk (HX _ _ _ _)).2.1 1 _ rfl
  have x2 : ∀ o1 o2 o3 o4 : Obj, ((((w2.alloc o1).alloc o2).alloc o3).alloc o4).cell? ⟨w.heap.size, 2, none⟩ = some (.string .empty) := fun _ _ _ _ => (blk (HX _ _ _ _)).2.1 2 _ rfl
  have x3 : ∀ o1 o2 o3 o4 : Obj, ((((w2.alloc o1).alloc o2).alloc o3).alloc o4).cell? ⟨w.heap.size, 3, none⟩ = some (.int .i64 0) := fun _ _ _ _ => (blk (HX _ _ _ _)).2.1 3 _ rfl
  have y : ∀ (o1 o2 o3 o4 : Obj) (o : Nat), ((((w2.alloc o1).alloc o2).alloc o3).alloc o4).frozen? ⟨w.heap.size, o, none⟩ = false := fun _ _ _ _ o => (blk (HX _ _ _ _)).2.2 o
  have HY := hide HX
  clear HX q0 q1 q2 q3 f0 f1 f2 f3
  go_wp2
  exact ⟨rfl, _, res_row (cs := [.int .i64 t.op, .string .empty, .string .empty, .int .i64 0]) rfl rfl (range_block (fill4 (unhide HY _ _ _ _))) rfl rfl rfl, rfl, ((((four (unhide HB) (Nat.le_of_lt hql) _ _ _ _).setCell (Nat.le_refl _) _).setCell (Nat.le_refl _) _).setCell (Nat.le_refl _) _).setCell (Nat.le_refl _) _⟩
set_option maxRecDepth 100000 in
set_option maxHeartbeats 16000000 in
theorem label_operation {w : World} {b o : Nat} {t : Tm} (c0 : w.cell? ⟨b, o, none⟩ = some (.int .i64 t.op)) (c1 : w.cell? ⟨b, o + 1, none⟩ = some (.string t.name)) (c2 : w.cell? ⟨b, o + 2, none⟩ = some (.int .i64 t.sort)) (c3 : w.cell? ⟨b, o + 3, none⟩ = some (.string t.num)) (hb : b < w.heap.size) :
    Calls Tryd.prog 73 #[.iface 159 (.agg #[.pointer (some ⟨b, o, none⟩)])] w (VPost (.agg #[.int .i64 t.op, .string .empty, .string .empty, .int .i64 0]) w) := by
  go_enter Tryd.func73, Tryd.ntmps73
  go_wp2_with fail
  obtain ⟨w1, e1, hb1, hs1, _, hh1⟩ := box_new w #[.int .i64 0, .string .empty, .string .empty, .int .i64 0] 140
  rw [show w.alloc (.cells #[.int .i64 0, .string .empty, .string .empty, .int .i64 0] 140) = w.alloc (.cells #[.int .i64 0, .string { data := #[] }, .string { data := #[] }, .int .i64 0] 140) from rfl] at e1
  rw [e1]
  refine (baseTerm_any (some ⟨b, o, none⟩) w1).mono ?_
  rintro e w2 ⟨rfl, hb2⟩
  have hq2 := (hb2.block w.heap.size (by omega)).trans hh1
  obtain ⟨hql, hqc, hqf⟩ := blk hq2
  have q0 : w2.cell? ⟨w.heap.size, 0, none⟩ = some (.int .i64 0) := hqc 0 _ rfl
  have q1 : w2.cell? ⟨w.heap.size, 1, none⟩ = some (.string .empty) := hqc 1 _ rfl
  have q2 : w2.cell? ⟨w.heap.size, 2, none⟩ = some (.string .empty) := hqc 2 _ rfl
  have q3 : w2.cell? ⟨w.heap.size, 3, none⟩ = some (.int .i64 0) := hqc 3 _ rfl
  have f0 := hqf 0
  have f1 := hqf 1
  have f2 := hqf 2
  have f3 := hqf 3
  have hbb : Below w.heap.size w w2 := hb1.trans (hb2.mono (by omega))
  have c0' := (hbb.cell (p := ⟨b, o, none⟩) hb).trans c0
  have c1' := (hbb.cell (p := ⟨b, o + 1, none⟩) hb).trans c1
  have c2' := (hbb.cell (p := ⟨b, o + 2, none⟩) hb).trans c2
  have c3' := (hbb.cell (p := ⟨b, o + 3, none⟩) hb).trans c3
  have hb2w : b < w2.heap.size := by have := hbb.size; omega
  have hne : w2.heap.size ≠ w.heap.size := by omega
  have hne2 : w.heap.size ≠ w2.heap.size := by omega
  have hbn : b ≠ w2.heap.size := by omega
  have hbn2 : b ≠ w.heap.size := by omega
  have HB := hide hbb
  have HQ := hide hq2
  clear e1 hb1 hb2 hs1 hh1 hq2 hqc hqf hbb c0 c1 c2 c3 hb
  have ta0 := fun w => ta_no (k := 159) (ty := 125) (v := .agg #[.pointer (some ⟨b, o, none⟩)]) (z := .agg #[.pointer none]) (w := w) (by decide) rfl rfl (by go_simp)
  have ta1 := fun w => ta_no (k := 159) (ty := 160) (v := .agg #[.pointer (some ⟨b, o, none⟩)]) (z := .agg #[.pointer none]) (w := w) (by decide) rfl rfl (by go_simp)
  have ta2 := fun w => ta_no (k := 159) (ty := 109) (v := .agg #[.pointer (some ⟨b, o, none⟩)]) (z := .agg #[.pointer none]) (w := w) (by decide) rfl rfl (by go_simp)
  have HX : ∀ o1 o2 o3 o4 : Obj, ((((w2.alloc o1).alloc o2).alloc o3).alloc o4).heap[w.heap.size]? = some (.cells #[.int .i64 0, .string .empty, .string .empty, .int .i64 0] 140) := fun _ _ _ _ => keep_alloc (keep_alloc (keep_alloc (keep_alloc (unhide HQ) _) _) _) _
  have x0 : ∀ o1 o2 o3 o4 : Obj, ((((w2.alloc o1).alloc o2).alloc o3).alloc o4).cell? ⟨w.heap.size, 0, none⟩ = some (.int .i64 0) := fun _ _ _ _ => (blk (HX _ _ _ _)).2.1 0 _ rfl
  have x1 : ∀ o1 o2 o3 o4 : Obj, ((((w2.alloc o1).alloc o2).alloc o3).alloc o4).cell? ⟨w.heap.size, 1, none⟩ = some (.string .empty) := fun _ _ _ _ => (blk (HX _ _ _ _)).2.1 1 _ rfl
  have x2 : ∀ o1 o2 o3 o4 : Obj, ((((w2.alloc o1).alloc o2).alloc o3).alloc o4).cell? ⟨w.heap.size, 2, none⟩ = some (.string .empty) := fun _ _ _ _ => (blk (HX _ _ _ _)).2.1 2 _ rfl
  have x3 : ∀ o1 o2 o3 o4 : Obj, ((((w2.alloc o1).alloc o2).alloc o3).alloc o4).cell? ⟨w.heap.size, 3, none⟩ = some (.int .i64 0) := fun _ _ _ _ => (blk (HX _ _ _ _)).2.1 3 _ rfl
  have y : ∀ (o1 o2 o3 o4 : Obj) (o : Nat), ((((w2.alloc o1).alloc o2).alloc o3).alloc o4).frozen? ⟨w.heap.size, o, none⟩ = false := fun _ _ _ _ o => (blk (HX _ _ _ _)).2.2 o
  have HY := hide HX
  clear HX q0 q1 q2 q3 f0 f1 f2 f3
  go_wp2
  exact ⟨rfl, _, res_row (cs := [.int .i64 t.op, .string .empty, .string .empty, .int .i64 0]) rfl rfl (range_block (fill4 (unhide HY _ _ _ _))) rfl rfl rfl, rfl, ((((four (unhide HB) (Nat.le_of_lt hql) _ _ _ _).setCell (Nat.le_refl _) _).setCell (Nat.le_refl _) _).setCell (Nat.le_refl _) _).setCell (Nat.le_refl _) _⟩
set_option maxRecDepth 100000 in
set_option maxHeartbeats 16000000 in
theorem label_universal {w : World} {b o : Nat} {t : Tm} (c0 : w.cell? ⟨b, o, none⟩ = some (.int .i64 t.op)) (c1 : w.cell? ⟨b, o + 1, none⟩ = some (.string t.name)) (c2 : w.cell? ⟨b, o + 2, none⟩ = some (.int .i64 t.sort)) (c3 : w.cell? ⟨b, o + 3, none⟩ = some (.string t.num)) (hb : b < w.heap.size) :
    Calls Tryd.prog 73 #[.iface 112 (.agg #[.pointer (some ⟨b, o, none⟩)])] w (VPost (.agg #[.int .i64 t.op, .string .empty, .string .empty, .int .i64 0]) w) := by
  go_enter Tryd.func73, Tryd.ntmps73
  go_wp2_with fail
  obtain ⟨w1, e1, hb1, hs1, _, hh1⟩ := box_new w #[.int .i64 0, .string .empty, .string .empty, .int .i64 0] 140
  rw [show w.alloc (.cells #[.int .i64 0, .string .empty, .string .empty, .int .i64 0] 140) = w.alloc (.cells #[.int .i64 0, .string { data := #[] }, .string { data := #[] }, .int .i64 0] 140) from rfl] at e1
  rw [e1]
  refine (baseTerm_any (some ⟨b, o, none⟩) w1).mono ?_
  rintro e w2 ⟨rfl, hb2⟩
  have hq2 := (hb2.block w.heap.size (by omega)).trans hh1
  obtain ⟨hql, hqc, hqf⟩ := blk hq2
  have q0 : w2.cell? ⟨w.heap.size, 0, none⟩ = some (.int .i64 0) := hqc 0 _ rfl
  have q1 : w2.cell? ⟨w.heap.size, 1, none⟩ = some (.string .empty) := hqc 1 _ rfl
  have q2 : w2.cell? ⟨w.heap.size, 2, none⟩ = some (.string .empty) := hqc 2 _ rfl
  have q3 : w2.cell? ⟨w.heap.size, 3, none⟩ = some (.int .i64 0) := hqc 3 _ rfl
  have f0 := hqf 0
  have f1 := hqf 1
  have f2 := hqf 2
  have f3 := hqf 3
  have hbb : Below w.heap.size w w2 := hb1.trans (hb2.mono (by omega))
  have c0' := (hbb.cell (p := ⟨b, o, none⟩) hb).trans c0
  have c1' := (hbb.cell (p := ⟨b, o + 1, none⟩) hb).trans c1
  have c2' := (hbb.cell (p := ⟨b, o + 2, none⟩) hb).trans c2
  have c3' := (hbb.cell (p := ⟨b, o + 3, none⟩) hb).trans c3
  have hb2w : b < w2.heap.size := by have := hbb.size; omega
  have hne : w2.heap.size ≠ w.heap.size := by omega
  have hne2 : w.heap.size ≠ w2.heap.size := by omega
  have hbn : b ≠ w2.heap.size := by omega
  have hbn2 : b ≠ w.heap.size := by omega
  have HB := hide hbb
  have HQ := hide hq2
  clear e1 hb1 hb2 hs1 hh1 hq2 hqc hqf hbb c0 c1 c2 c3 hb
  have ta0 := fun w => ta_no (k := 112) (ty := 125) (v := .agg #[.pointer (some ⟨b, o, none⟩)]) (z := .agg #[.pointer none]) (w := w) (by decide) rfl rfl (by go_simp)
  have ta1 := fun w => ta_no (k := 112) (ty := 160) (v := .agg #[.pointer (some ⟨b, o, none⟩)]) (z := .agg #[.pointer none]) (w := w) (by decide) rfl rfl (by go_simp)
  have ta2 := fun w => ta_no (k := 112) (ty := 109) (v := .agg #[.pointer (some ⟨b, o, none⟩)]) (z := .agg #[.pointer none]) (w := w) (by decide) rfl rfl (by go_simp)
  have HX : ∀ o1 o2 o3 o4 : Obj, ((((w2.alloc o1).alloc o2).alloc o3).alloc o4).heap[w.heap.size]? = some (.cells #[.int .i64 0, .string .empty, .string .empty, .int .i64 0] 140) := fun _ _ _ _ => keep_alloc (keep_alloc (keep_alloc (keep_alloc (unhide HQ) _) _) _) _
  have x0 : ∀ o1 o2 o3 o4 : Obj, ((((w2.alloc o1).alloc o2).alloc o3).alloc o4).cell? ⟨w.heap.size, 0, none⟩ = some (.int .i64 0) := fun _ _ _ _ => (blk (HX _ _ _ _)).2.1 0 _ rfl
  have x1 : ∀ o1 o2 o3 o4 : Obj, ((((w2.alloc o1).alloc o2).alloc o3).alloc o4).cell? ⟨w.heap.size, 1, none⟩ = some (.string .empty) := fun _ _ _ _ => (blk (HX _ _ _ _)).2.1 1 _ rfl
  have x2 : ∀ o1 o2 o3 o4 : Obj, ((((w2.alloc o1).alloc o2).alloc o3).alloc o4).cell? ⟨w.heap.size, 2, none⟩ = some (.string .empty) := fun _ _ _ _ => (blk (HX _ _ _ _)).2.1 2 _ rfl
  have x3 : ∀ o1 o2 o3 o4 : Obj, ((((w2.alloc o1).alloc o2).alloc o3).alloc o4).cell? ⟨w.heap.size, 3, none⟩ = some (.int .i64 0) := fun _ _ _ _ => (blk (HX _ _ _ _)).2.1 3 _ rfl
  have y : ∀ (o1 o2 o3 o4 : Obj) (o : Nat), ((((w2.alloc o1).alloc o2).alloc o3).alloc o4).frozen? ⟨w.heap.size, o, none⟩ = false := fun _ _ _ _ o => (blk (HX _ _ _ _)).2.2 o
  have HY := hide HX
  clear HX q0 q1 q2 q3 f0 f1 f2 f3
  go_wp2
  exact ⟨rfl, _, res_row (cs := [.int .i64 t.op, .string .empty, .string .empty, .int .i64 0]) rfl rfl (range_block (fill4 (unhide HY _ _ _ _))) rfl rfl rfl, rfl, ((((four (unhide HB) (Nat.le_of_lt hql) _ _ _ _).setCell (Nat.le_refl _) _).setCell (Nat.le_refl _) _).setCell (Nat.le_refl _) _).setCell (Nat.le_refl _) _⟩
set_option maxRecDepth 100000 in
set_option maxHeartbeats 16000000 in
theorem label_stranger {w : World} {b o : Nat} {t : Tm} (c0 : w.cell? ⟨b, o, none⟩ = some (.int .i64 t.op)) (c1 : w.cell? ⟨b, o + 1, none⟩ = some (.string t.name)) (c2 : w.cell? ⟨b, o + 2, none⟩ = some (.int .i64 t.sort)) (c3 : w.cell? ⟨b, o + 3, none⟩ = some (.string t.num)) (hb : b < w.heap.size) :
    Calls Tryd.prog 73 #[.iface 161 (.agg #[.pointer (some ⟨b, o, none⟩)])] w (VPost (.agg #[.int .i64 t.op, .string .empty, .string .empty, .int .i64 0]) w) := by
  go_enter Tryd.func73, Tryd.ntmps73
  go_wp2_with fail
  obtain ⟨w1, e1, hb1, hs1, _, hh1⟩ := box_new w #[.int .i64 0, .string .empty, .string .empty, .int .i64 0] 140
  rw [show w.alloc (.cells #[.int .i64 0, .string .empty, .string .empty, .int .i64 0] 140) = w.alloc (.cells #[.int .i64 0, .string { data := #[] }, .string { data := #[] }, .int .i64 0] 140) from rfl] at e1
  rw [e1]
  refine (baseTerm_any (some ⟨b, o, none⟩) w1).mono ?_
  rintro e w2 ⟨rfl, hb2⟩
  have hq2 := (hb2.block w.heap.size (by omega)).trans hh1
  obtain ⟨hql, hqc, hqf⟩ := blk hq2
  have q0 : w2.cell? ⟨w.heap.size, 0, none⟩ = some (.int .i64 0) := hqc 0 _ rfl
  have q1 : w2.cell? ⟨w.heap.size, 1, none⟩ = some (.string .empty) := hqc 1 _ rfl
  have q2 : w2.cell? ⟨w.heap.size, 2, none⟩ = some (.string .empty) := hqc 2 _ rfl
  have q3 : w2.cell? ⟨w.heap.size, 3, none⟩ = some (.int .i64 0) := hqc 3 _ rfl
  have f0 := hqf 0
  have f1 := hqf 1
  have f2 := hqf 2
  have f3 := hqf 3
  have hbb : Below w.heap.size w w2 := hb1.trans (hb2.mono (by omega))
  have c0' := (hbb.cell (p := ⟨b, o, none⟩) hb).trans c0
  have c1' := (hbb.cell (p := ⟨b, o + 1, none⟩) hb).trans c1
  have c2' := (hbb.cell (p := ⟨b, o + 2, none⟩) hb).trans c2
  have c3' := (hbb.cell (p := ⟨b, o + 3, none⟩) hb).trans c3
  have hb2w : b < w2.heap.size := by have := hbb.size; omega
  have hne : w2.heap.size ≠ w.heap.size := by omega
  have hne2 : w.heap.size ≠ w2.heap.size := by omega
  have hbn : b ≠ w2.heap.size := by omega
  have hbn2 : b ≠ w.heap.size := by omega
  have HB := hide hbb
  have HQ := hide hq2
  clear e1 hb1 hb2 hs1 hh1 hq2 hqc hqf hbb c0 c1 c2 c3 hb
  have ta0 := fun w => ta_no (k := 161) (ty := 125) (v := .agg #[.pointer (some ⟨b, o, none⟩)]) (z := .agg #[.pointer none]) (w := w) (by decide) rfl rfl (by go_simp)
  have ta1 := fun w => ta_no (k := 161) (ty := 160) (v := .agg #[.pointer (some ⟨b, o, none⟩)]) (z := .agg #[.pointer none]) (w := w) (by decide) rfl rfl (by go_simp)
  have ta2 := fun w => ta_no (k := 161) (ty := 109) (v := .agg #[.pointer (some ⟨b, o, none⟩)]) (z := .agg #[.pointer none]) (w := w) (by decide) rfl rfl (by go_simp)
  have HX : ∀ o1 o2 o3 o4 : Obj, ((((w2.alloc o1).alloc o2).alloc o3).alloc o4).heap[w.heap.size]? = some (.cells #[.int .i64 0, .string .empty, .string .empty, .int .i64 0] 140) := fun _ _ _ _ => keep_alloc (keep_alloc (keep_alloc (keep_alloc (unhide HQ) _) _) _) _
  have x0 : ∀ o1 o2 o3 o4 : Obj, ((((w2.alloc o1).alloc o2).alloc o3).alloc o4).cell? ⟨w.heap.size, 0, none⟩ = some (.int .i64 0) := fun _ _ _ _ => (blk (HX _ _ _ _)).2.1 0 _ rfl
  have x1 : ∀ o1 o2 o3 o4 : Obj, ((((w2.alloc o1).alloc o2).alloc o3).alloc o4).cell? ⟨w.heap.size, 1, none⟩ = some (.string .empty) := fun _ _ _ _ => (blk (HX _ _ _ _)).2.1 1 _ rfl
  have x2 : ∀ o1 o2 o3 o4 : Obj, ((((w2.alloc o1).alloc o2).alloc o3).alloc o4).cell? ⟨w.heap.size, 2, none⟩ = some (.string .empty) := fun _ _ _ _ => (blk (HX _ _ _ _)).2.1 2 _ rfl
  have x3 : ∀ o1 o2 o3 o4 : Obj, ((((w2.alloc o1).alloc o2).alloc o3).alloc o4).cell? ⟨w.heap.size, 3, none⟩ = some (.int .i64 0) := fun _ _ _ _ => (blk (HX _ _ _ _)).2.1 3 _ rfl
  have y : ∀ (o1 o2 o3 o4 : Obj) (o : Nat), ((((w2.alloc o1).alloc o2).alloc o3).alloc o4).frozen? ⟨w.heap.size, o, none⟩ = false := fun _ _ _ _ o => (blk (HX _ _ _ _)).2.2 o
  have HY := hide HX
  clear HX q0 q1 q2 q3 f0 f1 f2 f3
  go_wp2
  exact ⟨rfl, _, res_row (cs := [.int .i64 t.op, .string .empty, .string .empty, .int .i64 0]) rfl rfl (range_block (fill4 (unhide HY _ _ _ _))) rfl rfl rfl, rfl, ((((four (unhide HB) (Nat.le_of_lt hql) _ _ _ _).setCell (Nat.le_refl _) _).setCell (Nat.le_refl _) _).setCell (Nat.le_refl _) _).setCell (Nat.le_refl _) _⟩
/-- A term's label: the operator, and the fields that it names. -/
def Tm.label (t : Tm) : Value :=
  .agg #[.int .i64 t.op, .string (if t.op = 17 ∨ t.op = 18 then t.name else .empty), .string (if t.op = 1 then t.num else .empty), .int .i64 (if t.op = 18 then t.sort else 0)]
theorem labelOf_any {w : World} {b o : Nat} {t : Tm} (c0 : w.cell? ⟨b, o, none⟩ = some (.int .i64 t.op)) (c1 : w.cell? ⟨b, o + 1, none⟩ = some (.string t.name)) (c2 : w.cell? ⟨b, o + 2, none⟩ = some (.int .i64 t.sort)) (c3 : w.cell? ⟨b, o + 3, none⟩ = some (.string t.num)) (hb : b < w.heap.size) :
    Calls Tryd.prog 73 #[.iface (kindOf t.op) (.agg #[.pointer (some ⟨b, o, none⟩)])] w (VPost t.label w) := by
  unfold kindOf Tm.label
  by_cases h1 : t.op = 1
  · rw [if_pos h1, if_pos h1, if_neg (by omega), if_neg (by omega)]
    exact label_numeral c0 c1 c2 c3 hb
  rw [if_neg h1, if_neg h1]
  by_cases h2 : t.op = 2 ∨ t.op = 3
  · rw [if_pos h2, if_neg (by omega), if_neg (by omega)]
    exact label_truth c0 c1 c2 c3 hb
  rw [if_neg h2]
  by_cases h3 : 4 ≤ t.op ∧ t.op ≤ 16
  · rw [if_pos h3, if_neg (by omega), if_neg (by omega)]
    exact label_operation c0 c1 c2 c3 hb
  rw [if_neg h3]
  by_cases h4 : t.op = 17
  · rw [if_pos h4, if_pos (Or.inl h4), if_neg (by omega)]
    exact label_application c0 c1 c2 c3 hb
  rw [if_neg h4]
  by_cases h5 : t.op = 18
  · rw [if_pos h5, if_pos (Or.inr h5), if_pos h5]
    exact label_variable c0 c1 c2 c3 hb
  rw [if_neg h5, if_neg (show ¬(t.op = 17 ∨ t.op = 18) by omega), if_neg h5]
  by_cases h6 : t.op = 19
  · rw [if_pos h6]
    exact label_universal c0 c1 c2 c3 hb
  · rw [if_neg h6]
    exact label_stranger c0 c1 c2 c3 hb
end Go.Proofs.YtdkenobgfgmepaaDoor

/- The comparer's keep; slices.Equal of bound variables. -/
namespace Go.Proofs.YtdkenobgfgmepaaDoor
open Go Go.RowKit
/-- A comparer that has kept nothing yet. -/
def CS (w : World) (r s : Nat) : Prop := w.heap[r]? = some (.cells #[.map none, .int .i64 s] 82)
theorem CS.cells {w : World} {r s : Nat} (h : CS w r s) : r < w.heap.size ∧ w.cell? ⟨r, 0, none⟩ = some (.map none) ∧ w.cell? ⟨r, 1, none⟩ = some (.int .i64 s) ∧ (∀ o, w.frozen? ⟨r, o, none⟩ = false) := by
  obtain ⟨h1, h2, h3⟩ := blk h
  exact ⟨h1, h2 0 _ rfl, h2 1 _ rfl, h3⟩
theorem CS.alloc {w : World} {r s : Nat} (h : CS w r s) (o : Obj) : CS (w.alloc o) r s := keep_alloc h o
theorem CS.below {w w' : World} {r s B : Nat} (h : CS w r s) (hb : Below B w w') (hB : r < B) : CS w' r s := by
  unfold CS
  rw [hb.block r hB]
  exact h
def CPost (r s : Nat) (w : World) (e : Ending) (w' : World) : Prop := e = .returned (.tuple #[]) ∧ CS w' r s ∧ But r w w'
set_option maxRecDepth 100000 in
set_option maxHeartbeats 16000000 in
theorem ckeep_any (r s n cap n' cap' : Nat) (a a' : Option Addr) (w : World) (h : CS w r s) (hs : s + n < 65536) :
    Calls Tryd.prog 92 #[.pointer (some ⟨r, 0, none⟩), .slice a n cap, .slice a' n' cap'] w (CPost r (s + n) w) := by
  obtain ⟨hr, c0, c1, cf⟩ := h.cells
  have cf1 := cf 1
  have H := hide h
  clear h cf
  have d1 : decide (((s : Int) + (n : Int)) < 65536) = true := by simp; omega
  go_enter Tryd.func92, Tryd.ntmps92
  go_wp2
  refine ⟨rfl, _, results_none (by rfl) _ _ _, rfl, ?_, (But.refl r w).setCell (.inl rfl) _⟩
  exact set_block (unhide H) (.int .i64 ((s + n : Nat) : Int))
theorem below_drewN {B : Nat} {w w' : World} (h : Below B w w') (n : Nat) : Below B w (w'.drewN n) := ⟨h.os, h.tape, h.output, h.size, h.block⟩
theorem str_ne {a b : ByteArray} (h : ¬ a = b) : (a.toList == b.toList) = false := by
  rw [ByteArray.toList_eq, ByteArray.toList_eq]
  cases a with
  | mk a =>
    cases b with
    | mk b =>
      cases a with
      | mk a =>
        cases b with
        | mk b =>
          rw [beq_eq_false_iff_ne]
          intro e
          have e' : a = b := e
          exact h (by rw [e'])
/-- The bound variables that a slice holds. -/
def BR (w : World) (x : List (ByteArray × Int)) (b o j : Nat) : Prop := ∀ u, x[j]? = some u → w.rangeAt b o [.string u.1, .int .i64 u.2] ∧ fits u.2
set_option maxRecDepth 100000 in
set_option maxHeartbeats 16000000 in
theorem equal_q (B : Nat) (w : World) (a a' : Option Addr) (c c' : Nat) (x y : List (ByteArray × Int)) (hx : Row B a x.length c 2 (BR w x)) (hy : Row B a' y.length c' 2 (BR w y)) (hB : B ≤ w.heap.size) :
    Calls Tryd.prog 74 #[.slice a x.length c, .slice a' y.length c'] w (fun e w' => e = .returned (.bool (decide (x = y))) ∧ ∃ m, w' = w.drewN m) := by
  by_cases hl : x.length = y.length
  · have hl'' : ((x.length : Int) == (y.length : Int)) = true := by simp; omega
    have hl3 : ((x.length : Int) != (y.length : Int)) = false := by simp; omega
    have HL := hide hl
    have HX := hide hx
    have HY := hide hy
    clear hl hx hy
    go_enter Tryd.func74, Tryd.ntmps74
    go_wp2
    go_loopw [13] (fun iv wr => ∃ k : Nat, k ≤ x.length ∧ iv = .int .i64 (k : Int) ∧ x.take k = y.take k ∧ ∃ m, wr = w.drewN m) (fun iv _ => (x.length - (intOf iv).toNat))
    case atStart => exact ⟨0, Nat.zero_le _, rfl, rfl, 0, rfl⟩
    case round =>
      obtain ⟨k, hk, rfl, heq, hdr⟩ := hrel
      have hbel : Below w.heap.size w wr := by obtain ⟨m, rfl⟩ := hdr; exact below_drewN (Below.refl w.heap.size w) m
      have HD := hide hdr
      clear hdr
      by_cases hlt : k < x.length
      · have hlt' : k < y.length := by have := unhide HL; omega
        have hX := unhide HX
        have hY := unhide HY
        obtain ⟨b1, o1, rfl, hb1, h1⟩ := hX.2.2 (by omega)
        obtain ⟨b2, o2, rfl, hb2, h2⟩ := hY.2.2 (by omega)
        obtain ⟨r1, _⟩ := h1 k hlt _ (List.getElem?_eq_getElem hlt)
        obtain ⟨r2, _⟩ := h2 k hlt' _ (List.getElem?_eq_getElem hlt')
        have hd1 : decide ((k : Int) < (x.length : Int)) = true := by simp; omega
        have hd2 : decide ((k : Int) < (y.length : Int)) = true := by simp; omega
        have hXi : (k : Int) < (x.length : Int) := by omega
        have hcap : (k : Int) < 281474976710656 := by have := hX.1; have := hX.2.1; omega
        have hYi : (k : Int) < (y.length : Int) := by omega
        generalize hu : x[k] = u at *
        generalize hv : y[k] = v at *
        obtain ⟨u1, u2⟩ := u
        obtain ⟨v1, v2⟩ := v
        have p0 : wr.cell? ⟨b1, o1 + k * 2, none⟩ = some (.string u1) := (hbel.cell (p := ⟨b1, o1 + k * 2, none⟩) (by show b1 < _; omega)).trans (r1 0 _ rfl)
        have p1 : wr.cell? ⟨b1, o1 + k * 2 + 1, none⟩ = some (.int .i64 u2) := (hbel.cell (p := ⟨b1, o1 + k * 2 + 1, none⟩) (by show b1 < _; omega)).trans (r1 1 _ rfl)
        have q0 : wr.cell? ⟨b2, o2 + k * 2, none⟩ = some (.string v1) := (hbel.cell (p := ⟨b2, o2 + k * 2, none⟩) (by show b2 < _; omega)).trans (r2 0 _ rfl)
        have q1 : wr.cell? ⟨b2, o2 + k * 2 + 1, none⟩ = some (.int .i64 v2) := (hbel.cell (p := ⟨b2, o2 + k * 2 + 1, none⟩) (by show b2 < _; omega)).trans (r2 1 _ rfl)
        have HH := hide (And.intro hu (And.intro hv heq))
        have HB := hide hbel
        clear hX hY h1 h2 r1 r2 hu hv heq hbel
        by_cases he : u1 = v1
        · subst he
          by_cases hf : u2 = v2
          · subst hf
            go_wp2
            go_quiet (fail)
            go_wp2
            obtain ⟨hu, hv, heq⟩ := unhide HH
            refine ⟨⟨k + 1, by omega, rfl, ?_, (by obtain ⟨m, rfl⟩ := unhide HD; exact ⟨_, World.drewN_drewN _ _ _⟩)⟩, by simp only [intOf]; omega⟩
            rw [List.take_succ_eq_append_getElem hlt, List.take_succ_eq_append_getElem hlt', heq, hu, hv]
          · have hf' : (u2 == v2) = false := by simp [hf]
            have hne : decide (x = y) = false := by
              obtain ⟨hu, hv, heq⟩ := unhide HH
              simp
              intro e
              subst e
              rw [hu] at hv
              exact hf (Prod.mk.inj hv).2
            have HN := hide hne
            clear hne
            go_wp2
            go_quiet (fail)
            go_wp2
            go_ret
            exact ⟨by rw [unhide HN]; rfl, (by obtain ⟨m, rfl⟩ := unhide HD; exact ⟨_, World.drewN_drewN _ _ _⟩)⟩
        · have hf' : (u1.toList == v1.toList) = false := str_ne he
          have hne : decide (x = y) = false := by
            obtain ⟨hu, hv, heq⟩ := unhide HH
            simp
            intro e
            subst e
            rw [hu] at hv
            exact he (Prod.mk.inj hv).1
          have HN := hide hne
          clear hne
          go_wp2
          go_quiet (fail)
          go_wp2
          go_ret
          exact ⟨by rw [unhide HN]; rfl, (by obtain ⟨m, rfl⟩ := unhide HD; exact ⟨_, World.drewN_drewN _ _ _⟩)⟩
      · have : k = x.length := by omega
        subst this
        have e : x = y := by
          have h := heq
          rw [List.take_length, unhide HL, List.take_length] at h
          exact h
        subst e
        go_wp2
        go_ret
        exact ⟨by simp, unhide HD⟩
  · have hl'' : ((x.length : Int) != (y.length : Int)) = true := by simp; omega
    have hne : decide (x = y) = false := by simp; intro e; exact hl (by rw [e])
    rw [hne]
    clear hl hne
    go_enter Tryd.func74, Tryd.ntmps74
    go_wp2
    go_ret
    exact ⟨rfl, 0, rfl⟩
theorem equal_any (B : Nat) (w : World) (a a' : Option Addr) (c c' : Nat) (x y : List (ByteArray × Int)) (hx : Row B a x.length c 2 (BR w x)) (hy : Row B a' y.length c' 2 (BR w y)) (hB : B ≤ w.heap.size) :
    Calls Tryd.prog 74 #[.slice a x.length c, .slice a' y.length c'] w (VPost (.bool (decide (x = y))) w) :=
  (equal_q B w a a' c c' x y hx hy hB).mono fun _ _ ⟨h1, m, h2⟩ => ⟨h1, by rw [h2]; exact below_drewN (Below.refl _ w) m⟩
end Go.Proofs.YtdkenobgfgmepaaDoor

namespace Go.Proofs.YtdkenobgfgmepaaDoor
open Go Go.RowKit
theorem a3 {w : World} {b o : Nat} {v : Value} (hb : b < w.heap.size) (h : w.cell? ⟨b, o, none⟩ = some v) (x y z : Obj) : (((w.alloc x).alloc y).alloc z).cell? ⟨b, o, none⟩ = some v := ((three (Below.refl _ w) (Nat.le_refl _) x y z).cell (p := ⟨b, o, none⟩) hb).trans h
theorem a4 {w : World} {b o : Nat} {v : Value} (hb : b < w.heap.size) (h : w.cell? ⟨b, o, none⟩ = some v) (x y z u : Obj) : ((((w.alloc x).alloc y).alloc z).alloc u).cell? ⟨b, o, none⟩ = some v := ((four (Below.refl _ w) (Nat.le_refl _) x y z u).cell (p := ⟨b, o, none⟩) hb).trans h
theorem op_kind {op : Int} : (op = 1 ∧ kindOf op = 125) ∨ ((op = 2 ∨ op = 3) ∧ kindOf op = 158) ∨ ((4 ≤ op ∧ op ≤ 16) ∧ kindOf op = 159) ∨ (op = 17 ∧ kindOf op = 160) ∨ (op = 18 ∧ kindOf op = 109) ∨ (op = 19 ∧ kindOf op = 112) ∨ ((op < 1 ∨ 19 < op) ∧ kindOf op = 161) := by
  have hc : op = 1 ∨ (op = 2 ∨ op = 3) ∨ (4 ≤ op ∧ op ≤ 16) ∨ op = 17 ∨ op = 18 ∨ op = 19 ∨ (op < 1 ∨ 19 < op) := by omega
  unfold kindOf
  rcases hc with h | h | h | h | h | h | h
  · exact .inl ⟨h, by rw [if_pos h]⟩
  · exact .inr (.inl ⟨h, by rw [if_neg (by omega), if_pos h]⟩)
  · exact .inr (.inr (.inl ⟨h, by rw [if_neg (by omega), if_neg (by omega), if_pos h]⟩))
  · exact .inr (.inr (.inr (.inl ⟨h, by rw [if_neg (by omega), if_neg (by omega), if_neg (by omega), if_pos h]⟩)))
  · exact .inr (.inr (.inr (.inr (.inl ⟨h, by rw [if_neg (by omega), if_neg (by omega), if_neg (by omega), if_neg (by omega), if_pos h]⟩))))
  · exact .inr (.inr (.inr (.inr (.inr (.inl ⟨h, by rw [if_neg (by omega), if_neg (by omega), if_neg (by omega), if_neg (by omega), if_neg (by omega), if_pos h]⟩)))))
  · exact .inr (.inr (.inr (.inr (.inr (.inr ⟨h, by rw [if_neg (by omega), if_neg (by omega), if_neg (by omega), if_neg (by omega), if_neg (by omega), if_neg (by omega)]⟩)))))
def wval (op : Int) (name : ByteArray) (n : Nat) : Value := .tuple #[.string (wordT op name), .bool (aloneT op n)]
set_option maxRecDepth 100000 in
set_option maxHeartbeats 4000000 in
theorem word_truth {w : World} {b o : Nat} {op : Int} {name : ByteArray} {n : Nat} (hb : b < w.heap.size) (c0 : w.cell? ⟨b, o, none⟩ = some (.int .i64 op)) (h : op = 2 ∨ op = 3) :
    Calls Tryd.prog 69 #[.iface 158 (.agg #[.pointer (some ⟨b, o, none⟩)])] w (VPost (wval op name n) w) := by
  have ta0 := fun w => ta_yes (ty := 158) (v := .agg #[.pointer (some ⟨b, o, none⟩)]) (w := w) rfl rfl
  rcases h with rfl | rfl
  · go_enter Tryd.func69, Tryd.ntmps69
    go_wp2
    go_ret2
    exact ⟨rfl, (Below.refl _ w).alloc (Nat.le_refl _) _⟩
  · go_enter Tryd.func69, Tryd.ntmps69
    go_wp2
    go_ret2
    exact ⟨rfl, (Below.refl _ w).alloc (Nat.le_refl _) _⟩
set_option maxRecDepth 100000 in
set_option maxHeartbeats 4000000 in
theorem word_variable {w : World} {b o : Nat} {name : ByteArray} {n : Nat} (hb : b < w.heap.size) (c1 : w.cell? ⟨b, o + 1, none⟩ = some (.string name)) :
    Calls Tryd.prog 69 #[.iface 109 (.agg #[.pointer (some ⟨b, o, none⟩)])] w (VPost (wval 18 name n) w) := by
  have ta0 := fun w => ta_no (k := 109) (ty := 158) (v := .agg #[.pointer (some ⟨b, o, none⟩)]) (z := .agg #[.pointer none]) (w := w) (by decide) rfl rfl (by go_simp)
  have ta1 := fun w => ta_yes (ty := 109) (v := .agg #[.pointer (some ⟨b, o, none⟩)]) (w := w) rfl rfl
  go_enter Tryd.func69, Tryd.ntmps69
  go_wp2
  go_ret2
  exact ⟨rfl, ((Below.refl _ w).alloc (Nat.le_refl _) _).alloc (by simp) _⟩
set_option maxRecDepth 100000 in
set_option maxHeartbeats 4000000 in
theorem word_application {w : World} {b o : Nat} {name : ByteArray} {n c : Nat} {a : Option Addr} (hb : b < w.heap.size) (c1 : w.cell? ⟨b, o + 1, none⟩ = some (.string name)) (c4 : w.cell? ⟨b, o + 4, none⟩ = some (.slice a n c)) :
    Calls Tryd.prog 69 #[.iface 160 (.agg #[.pointer (some ⟨b, o, none⟩)])] w (VPost (wval 17 name n) w) := by
  have ta0 := fun w => ta_no (k := 160) (ty := 158) (v := .agg #[.pointer (some ⟨b, o, none⟩)]) (z := .agg #[.pointer none]) (w := w) (by decide) rfl rfl (by go_simp)
  have ta1 := fun w => ta_no (k := 160) (ty := 109) (v := .agg #[.pointer (some ⟨b, o, none⟩)]) (z := .agg #[.pointer none]) (w := w) (by decide) rfl rfl (by go_simp)
  have ta2 := fun w => ta_yes (ty := 160) (v := .agg #[.pointer (some ⟨b, o, none⟩)]) (w := w) rfl rfl
  have e1 := a3 hb c1
  have e4 := a3 hb c4
  have hn : (((n : Int)) == 0) = (n == 0) := by
    by_cases h : n = 0
    · simp [h]
    · rw [beq_eq_false_iff_ne.2 h, beq_eq_false_iff_ne.2 (by omega)]
  go_enter Tryd.func69, Tryd.ntmps69
  go_wp2
  go_quiet (fail)
  go_wp2
  go_ret2
  exact ⟨rfl, below_drewN (three (Below.refl _ w) (Nat.le_refl _) _ _ _) _⟩
set_option maxRecDepth 100000 in
set_option maxHeartbeats 4000000 in
theorem word_operation {w : World} {b o : Nat} {op : Int} {name : ByteArray} {n : Nat} (hb : b < w.heap.size) (h0 : 0 < w.heap.size) (c0 : w.cell? ⟨b, o, none⟩ = some (.int .i64 op)) (hR : RL w) (h : 4 ≤ op ∧ op ≤ 16) :
    Calls Tryd.prog 69 #[.iface 159 (.agg #[.pointer (some ⟨b, o, none⟩)])] w (VPost (wval op name n) w) := by
  obtain ⟨k, rfl⟩ : ∃ k : Nat, op = (k : Int) := ⟨op.toNat, by omega⟩
  have hk1 : 4 ≤ k := by omega
  have hk2 : k ≤ 16 := by omega
  have hv : wval (k : Int) name n = .tuple #[.string ⟨(opWord k).toArray⟩, .bool false] := by
    unfold wval wordT aloneT
    rw [if_neg (by omega), if_neg (by omega), if_neg (by omega), if_pos (by omega)]
    simp
    omega
  rw [hv]
  have e0 := a4 hb c0
  have er := a4 h0 (hR k hk1 hk2).1
  have hki : (k : Int) < 17 := by omega
  have ta0 := fun w => ta_no (k := 159) (ty := 158) (v := .agg #[.pointer (some ⟨b, o, none⟩)]) (z := .agg #[.pointer none]) (w := w) (by decide) rfl rfl (by go_simp)
  have ta1 := fun w => ta_no (k := 159) (ty := 109) (v := .agg #[.pointer (some ⟨b, o, none⟩)]) (z := .agg #[.pointer none]) (w := w) (by decide) rfl rfl (by go_simp)
  have ta2 := fun w => ta_no (k := 159) (ty := 160) (v := .agg #[.pointer (some ⟨b, o, none⟩)]) (z := .agg #[.pointer none]) (w := w) (by decide) rfl rfl (by go_simp)
  have ta3 := fun w => ta_yes (ty := 159) (v := .agg #[.pointer (some ⟨b, o, none⟩)]) (w := w) rfl rfl
  clear hR hv h
  go_enter Tryd.func69, Tryd.ntmps69
  go_wp2
  go_ret2
  exact ⟨rfl, four (Below.refl _ w) (Nat.le_refl _) _ _ _ _⟩
set_option maxRecDepth 100000 in
set_option maxHeartbeats 4000000 in
theorem word_stranger {w : World} {b o : Nat} {op : Int} {name : ByteArray} {n : Nat} (h : op < 1 ∨ 19 < op) :
    Calls Tryd.prog 69 #[.iface 161 (.agg #[.pointer (some ⟨b, o, none⟩)])] w (VPost (wval op name n) w) := by
  have hv : wval op name n = .tuple #[.string ⟨#[63]⟩, .bool false] := by
    unfold wval wordT aloneT
    rw [if_neg (by omega), if_neg (by omega), if_neg (by omega), if_neg (by omega)]
    simp
    omega
  rw [hv]
  clear hv h
  have ta0 := fun w => ta_no (k := 161) (ty := 158) (v := .agg #[.pointer (some ⟨b, o, none⟩)]) (z := .agg #[.pointer none]) (w := w) (by decide) rfl rfl (by go_simp)
  have ta1 := fun w => ta_no (k := 161) (ty := 109) (v := .agg #[.pointer (some ⟨b, o, none⟩)]) (z := .agg #[.pointer none]) (w := w) (by decide) rfl rfl (by go_simp)
  have ta2 := fun w => ta_no (k := 161) (ty := 160) (v := .agg #[.pointer (some ⟨b, o, none⟩)]) (z := .agg #[.pointer none]) (w := w) (by decide) rfl rfl (by go_simp)
  have ta3 := fun w => ta_no (k := 161) (ty := 159) (v := .agg #[.pointer (some ⟨b, o, none⟩)]) (z := .agg #[.pointer none]) (w := w) (by decide) rfl rfl (by go_simp)
  go_enter Tryd.func69, Tryd.ntmps69
  go_wp2
  go_ret2
  exact ⟨rfl, four (Below.refl _ w) (Nat.le_refl _) _ _ _ _⟩
/-- The word of a term that is no number and no TAll. -/
theorem wordOf_any {w : World} {b o : Nat} {op : Int} {name : ByteArray} {n c : Nat} {a : Option Addr} (hb : b < w.heap.size) (h0 : 0 < w.heap.size) (c0 : w.cell? ⟨b, o, none⟩ = some (.int .i64 op)) (c1 : w.cell? ⟨b, o + 1, none⟩ = some (.string name)) (c4 : w.cell? ⟨b, o + 4, none⟩ = some (.slice a n c)) (hR : RL w) (h1 : op ≠ 1) (h19 : op ≠ 19) :
    Calls Tryd.prog 69 #[.iface (kindOf op) (.agg #[.pointer (some ⟨b, o, none⟩)])] w (VPost (wval op name n) w) := by
  rcases op_kind (op := op) with ⟨h, e⟩ | ⟨h, e⟩ | ⟨h, e⟩ | ⟨h, e⟩ | ⟨h, e⟩ | ⟨h, e⟩ | ⟨h, e⟩
  · exact absurd h h1
  · rw [e]; exact word_truth hb c0 h
  · rw [e]; exact word_operation hb h0 c0 hR h
  · rw [e]; subst h; exact word_application hb c1 c4
  · rw [e]; subst h; exact word_variable hb c1
  · exact absurd h h19
  · rw [e]; exact word_stranger h
end Go.Proofs.YtdkenobgfgmepaaDoor
