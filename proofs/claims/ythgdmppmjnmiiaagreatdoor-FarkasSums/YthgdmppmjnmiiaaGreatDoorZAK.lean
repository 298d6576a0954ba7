/- Package farkas: sums by names, in memory; add. -/
import Derived.Test.YthgdmppmjnmiiaaGreatDoorZAJ
import Derived.BigRegion
import Derived.Laws.OwnMore
import Derived.Maps.OwnSet
import Derived.Maps.Views
import Derived.StringKeys
import Derived.Deep.RegionHeld3
set_option linter.unusedVariables false
set_option linter.unusedSimpArgs false

/- Package farkas: rows are read. -/
namespace Go.Proofs.YthgdmppmjnmiiaaGreatDoor
open Go Go.RowKit
open _root_.Go.Proofs.YthgdmppmjnmiiaaGreatDoor.Nm (IsI pw)
/-- What is read of a part, of parts, of a row. -/
def readP (c : ByteArray × ByteArray) : Option (ByteArray × Int) := if c.1.size = 0 ∨ 200 < c.1.size then none else (numT 400 c.2).map fun z => (c.1, z)
def readC : List (ByteArray × ByteArray) → Option (List (ByteArray × Int))
  | [] => some []
  | c :: cs => match readP c, readC cs with
    | some p, some ps => some (p :: ps)
    | _, _ => none
def readR (C : List (ByteArray × ByteArray)) (K : ByteArray) : Option (List (ByteArray × Int) × Int) := match numT 400 K, readC C with
  | some k, some ps => some (ps, k)
  | _, _ => none
def CA (w : World) (C : List (ByteArray × ByteArray)) (b o j : Nat) : Prop := ∀ c, C[j]? = some c → w.rangeAt b o [.string c.1, .string c.2]
def IsL (w : World) (B : Nat) (v : Value) (C : List (ByteArray × ByteArray)) (K : ByteArray) : Prop := ∃ a n c, v = .agg #[.slice a n c, .string K] ∧ n = C.length ∧ Row B a n c 2 (CA w C)
def PA (w : World) (B : Nat) (ps : List (ByteArray × Int)) (b o j : Nat) : Prop := ∀ p, ps[j]? = some p → ∃ x y, w.rangeAt b o [.string p.1, x, y] ∧ IsB w B (.agg #[x, y]) p.2
def IsR (w : World) (B : Nat) (v : Value) (ps : List (ByteArray × Int)) (k : Int) : Prop := ∃ a n c x y, v = .agg #[.slice a n c, x, y] ∧ n = ps.length ∧ Row B a n c 3 (PA w B ps) ∧ IsB w B (.agg #[x, y]) k
def RPost (C : List (ByteArray × ByteArray)) (K : ByteArray) (w : World) (e : Ending) (w' : World) : Prop := ∃ r, e = .returned (.tuple #[r, .bool (readR C K).isSome]) ∧ Below w.heap.size w w' ∧ (∃ a n c i a2 n2 c2, r = .agg #[.slice a n c, .int .i64 i, .slice a2 n2 c2]) ∧ ∀ ps k, readR C K = some (ps, k) → IsR w' w'.heap.size r ps k
theorem inf_of {P : Program} {t : TypeId} {z : Value} {n b : Nat} (h : (P.info? t).map (fun i => (i.zero, i.size, i.bytes)) = some (some z, n, b)) : ∃ i, P.info? t = some i ∧ i.zero = some z ∧ i.size = n ∧ i.bytes = b := by
  obtain ⟨i, h1, h2⟩ := Option.map_eq_some_iff.1 h
  simp only [Prod.mk.injEq] at h2
  exact ⟨i, h1, h2⟩
theorem infPart : (Tryz.prog.info? 92).map (fun i => (i.zero, i.size, i.bytes)) = some (some (.agg #[.string ⟨#[]⟩, .int .i64 0, .slice none 0 0]), 3, 48) := by kernel_rfl
theorem infRow : (Tryz.prog.info? 68).map (fun i => (i.zero, i.size, i.bytes)) = some (some (.agg #[.slice none 0 0, .int .i64 0, .slice none 0 0]), 3, 56) := by kernel_rfl
theorem mkPart (n : Nat) (w : World) (hn : n ≤ 1000000) : (Instr.makeSlice 66 (.int .i64 (n : Int)) (.int .i64 (n : Int))).run Tryz.prog w = .ok (.slice (some ⟨w.heap.size, 0, none⟩) n n) (w.alloc (.cells (madeCells #[.string ⟨#[]⟩, .int .i64 0, .slice none 0 0] (n * 3)) 92)) := by
  obtain ⟨i0, hi, hz0, hz1, hz2⟩ := inf_of infPart
  have hr := run_make (P := Tryz.prog) w 66 92 i0 _ Tryz.underlying66 hi hz0 .i64 .i64 n n (by omega) (Int.le_refl _) (by rw [hz2]; omega) (by omega)
  rw [hz1] at hr
  exact hr
theorem mkRow (n : Nat) (w : World) (hn : n ≤ 1000000) : (Instr.makeSlice 43 (.int .i64 (n : Int)) (.int .i64 (n : Int))).run Tryz.prog w = .ok (.slice (some ⟨w.heap.size, 0, none⟩) n n) (w.alloc (.cells (madeCells #[.slice none 0 0, .int .i64 0, .slice none 0 0] (n * 3)) 68)) := by
  obtain ⟨i0, hi, hz0, hz1, hz2⟩ := inf_of infRow
  have hr := run_make (P := Tryz.prog) w 43 68 i0 _ Tryz.underlying43 hi hz0 .i64 .i64 n n (by omega) (Int.le_refl _) (by rw [hz2]; omega) (by omega)
  rw [hz1] at hr
  exact hr
/-- While a row is read: i parts are there. -/
def RInv (w : World) (aC : Option Addr) (n cC : Nat) (C : List (ByteArray × ByteArray)) (K : ByteArray) (ob pb : Nat) (m0 : Int) (ma : Option Addr) (ml mc : Nat) (k : Int) (i : Nat) (V : World) : Prop :=
  Below w.heap.size w V ∧ w.heap.size + 2 ≤ V.heap.size ∧ V.heap[w.heap.size]? = some (.cells #[.slice aC n cC, .string K] 28) ∧ V.heap[w.heap.size + 1]? = some (.cells #[.slice none 0 0, .int .i64 0, .slice none 0 0] 68) ∧
  V.heap[ob]? = some (.cells #[.slice (some ⟨pb, 0, none⟩) n n, .int .i64 m0, .slice ma ml mc] 68) ∧ IsB V V.heap.size (.agg #[.int .i64 m0, .slice ma ml mc]) k ∧
  ∃ cs, V.heap[pb]? = some (.cells cs 92) ∧ cs.size = n * 3 ∧ (∀ (o : Nat) y, cs[o]? ≠ some (.int .u32 y)) ∧ ∃ ps, readC (C.take i) = some ps ∧ ps.length = i ∧ ∀ (j : Nat) p, ps[j]? = some p → ∃ x y, V.rangeAt pb (j * 3) [.string p.1, x, y] ∧ IsB V V.heap.size (.agg #[x, y]) p.2
theorem RInv.grow {w V V' : World} {aC : Option Addr} {n cC : Nat} {C : List (ByteArray × ByteArray)} {K : ByteArray} {ob pb : Nat} {m0 : Int} {ma : Option Addr} {ml mc : Nat} {k : Int} {i : Nat} (h : RInv w aC n cC C K ob pb m0 ma ml mc k i V) (hb : Below V.heap.size V V') : RInv w aC n cC C K ob pb m0 ma ml mc k i V' := by
  obtain ⟨h1, h2, h3, h4, h5, h6, cs, h7, h8, h9, ps, h10, h11, h12⟩ := h
  have q : ∀ {b : Nat} {o : Obj}, V.heap[b]? = some o → V'.heap[b]? = some o := fun {b o} h => (hb.block b (Array.getElem?_eq_some_iff.1 h).1).trans h
  refine ⟨h1.trans (hb.mono h1.size), Nat.le_trans h2 hb.size, q h3, q h4, q h5, h6.more hb hb.size, cs, q h7, h8, h9, ps, h10, h11, fun j p hp => ?_⟩
  obtain ⟨x, y, hr, hI⟩ := h12 j p hp
  exact ⟨x, y, rangeAt_below hr (Array.getElem?_eq_some_iff.1 h7).1 hb, hI.more hb hb.size⟩
theorem readC_snoc {C : List (ByteArray × ByteArray)} {c : ByteArray × ByteArray} : readC (C ++ [c]) = match readC C, readP c with
    | some ps, some p => some (ps ++ [p])
    | _, _ => none := by
  induction C with
  | nil => simp only [List.nil_append, readC]; cases readP c <;> rfl
  | cons d C ih =>
    simp only [List.cons_append, readC, ih]
    cases readP d <;> cases readC C <;> cases readP c <;> rfl
theorem readC_take {C : List (ByteArray × ByteArray)} {i : Nat} {c : ByteArray × ByteArray} (hc : C[i]? = some c) : readC (C.take (i + 1)) = match readC (C.take i), readP c with
    | some ps, some p => some (ps ++ [p])
    | _, _ => none := by
  rw [List.take_add_one, hc]
  exact readC_snoc
theorem readC_none {C D : List (ByteArray × ByteArray)} (h : readC C = none) : readC (C ++ D) = none := by
  induction C with
  | nil => simp [readC] at h
  | cons c C ih =>
    simp only [List.cons_append, readC] at h ⊢
    cases hp : readP c with
    | none => rfl
    | some p =>
      rw [hp] at h
      cases hq : readC C with
      | none => rw [ih hq]
      | some ps => rw [hq] at h; simp at h
theorem readC_bad {C : List (ByteArray × ByteArray)} {i : Nat} {c : ByteArray × ByteArray} (hc : C[i]? = some c) (h : readP c = none) : readC C = none := by
  have h1 : readC (C.take (i + 1)) = none := by
    rw [readC_take hc, h]
    cases readC (C.take i) <;> rfl
  have := readC_none (D := C.drop (i + 1)) h1
  rwa [List.take_append_drop] at this
theorem made_zero (n o : Nat) (y : Int) : (madeCells #[.string ⟨#[]⟩, .int .i64 0, .slice none 0 0] n)[o]? ≠ some (.int .u32 y) := by
  unfold madeCells
  rw [Array.getElem?_map]
  intro h
  obtain ⟨a, _, h2⟩ := Option.map_eq_some_iff.1 h
  have h3 : a % 3 < 3 := Nat.mod_lt _ (by omega)
  have h4 : (#[Value.string ⟨#[]⟩, .int .i64 0, .slice none 0 0] : Array Value).size = 3 := rfl
  rw [h4] at h2
  generalize a % 3 = b at *
  match b, h3 with
  | 0, _ => cases h2
  | 1, _ => cases h2
  | 2, _ => cases h2
theorem cell_arr {w : World} {q : Nat} {cs : Array Value} {ty : TypeId} (h : w.heap[q]? = some (.cells cs ty)) (o : Nat) : w.cell? ⟨q, o, none⟩ = cs[o]? := by
  simp only [World.cell?, h]
  cases cs[o]? <;> rfl
/-- Three cells of a row of such are filled. -/
theorem three_put {w : World} {q o : Nat} {cs : Array Value} {ty : TypeId} {x y z : Value} (h : w.heap[q]? = some (.cells cs ty)) (ho : o + 2 < cs.size) : ∃ cs', (((w.setCell ⟨q, o, none⟩ x).setCell ⟨q, o + 1, none⟩ y).setCell ⟨q, o + 2, none⟩ z).heap[q]? = some (.cells cs' ty) ∧ PutAt q w (((w.setCell ⟨q, o, none⟩ x).setCell ⟨q, o + 1, none⟩ y).setCell ⟨q, o + 2, none⟩ z) ∧ cs'.size = cs.size ∧ cs'[o]? = some x ∧ cs'[o + 1]? = some y ∧ cs'[o + 2]? = some z ∧ ∀ j, (j < o ∨ o + 2 < j) → cs'[j]? = cs[j]? := by
  refine ⟨_, set_block (set_block (set_block h _) _) _, (((PutAt.refl q w).set o x).set (o + 1) y).set (o + 2) z, by simp, ?_, ?_, ?_, fun j hj => ?_⟩
  · rw [Array.getElem?_setIfInBounds_ne (by omega), Array.getElem?_setIfInBounds_ne (by omega), Array.getElem?_setIfInBounds, if_pos rfl, if_pos (by omega)]
  · rw [Array.getElem?_setIfInBounds_ne (by omega), Array.getElem?_setIfInBounds, if_pos rfl, if_pos (by rw [Array.size_setIfInBounds]; omega)]
  · rw [Array.getElem?_setIfInBounds, if_pos rfl, if_pos (by rw [Array.size_setIfInBounds, Array.size_setIfInBounds]; omega)]
  · rw [Array.getElem?_setIfInBounds_ne (by omega), Array.getElem?_setIfInBounds_ne (by omega), Array.getElem?_setIfInBounds_ne (by omega)]
theorem RInv.put {w V : World} {aC : Option Addr} {n cC : Nat} {C : List (ByteArray × ByteArray)} {K : ByteArray} {ob pb : Nat} {m0 : Int} {ma : Option Addr} {ml mc : Nat} {k : Int} {i : Nat} (h : RInv w aC n cC C K ob pb m0 ma ml mc k i V) (hi : i < n) (hpo : w.heap.size + 2 ≤ pb ∧ w.heap.size + 2 ≤ ob ∧ pb ≠ ob) {c : ByteArray × ByteArray} {nm : ByteArray} {z z0 : Int} {za : Option Addr} {zl zc : Nat} (hc : C[i]? = some c) (hp : readP c = some (nm, z)) (hz : IsB V V.heap.size (.agg #[.int .i64 z0, .slice za zl zc]) z) : RInv w aC n cC C K ob pb m0 ma ml mc k (i + 1) (((V.setCell ⟨pb, i * 3, none⟩ (.string nm)).setCell ⟨pb, i * 3 + 1, none⟩ (.int .i64 z0)).setCell ⟨pb, i * 3 + 2, none⟩ (.slice za zl zc)) := by
  obtain ⟨h1, h2, h3, h4, h5, h6, cs, h7, h8, h9, ps, h10, h11, h12⟩ := h
  obtain ⟨cs', k1, k2, k3, k4, k5, k6, k7⟩ := three_put (o := i * 3) (x := .string nm) (y := .int .i64 z0) (z := .slice za zl zc) h7 (by omega)
  have hn' : ∀ (o : Nat) y, cs'[o]? ≠ some (.int .u32 y) := fun o y => by
    rcases (by omega : o < i * 3 ∨ i * 3 + 2 < o ∨ o = i * 3 ∨ o = i * 3 + 1 ∨ o = i * 3 + 2) with e | e | rfl | rfl | rfl
    · rw [k7 o (.inl e)]; exact h9 o y
    · rw [k7 o (.inr e)]; exact h9 o y
    · rw [k4]; simp
    · rw [k5]; simp
    · rw [k6]; simp
  have hI : ∀ {v : Value} {u : Int}, IsB V V.heap.size v u → IsB (((V.setCell ⟨pb, i * 3, none⟩ (.string nm)).setCell ⟨pb, i * 3 + 1, none⟩ (.int .i64 z0)).setCell ⟨pb, i * 3 + 2, none⟩ (.slice za zl zc)) (((V.setCell ⟨pb, i * 3, none⟩ (.string nm)).setCell ⟨pb, i * 3 + 1, none⟩ (.int .i64 z0)).setCell ⟨pb, i * 3 + 2, none⟩ (.slice za zl zc)).heap.size v u := fun {v u} hv => by
    rw [k2.size]
    exact hv.put k2 h7 h9
  refine ⟨k2.below h1 (by omega), by rw [k2.size]; exact h2, (k2.block _ (by omega)).trans h3, (k2.block _ (by omega)).trans h4, (k2.block _ (by omega)).trans h5, hI h6, cs', k1, by omega, hn', ps ++ [(nm, z)], by rw [readC_take hc, h10, hp], by simp [h11], fun j p hj => ?_⟩
  rcases Nat.lt_or_ge j i with e | e
  · rw [List.getElem?_append_left (by omega)] at hj
    obtain ⟨x, y, hr, hv⟩ := h12 j p hj
    refine ⟨x, y, fun t v ht => ?_, hI hv⟩
    have ht3 : t < 3 := by
      have := (List.getElem?_eq_some_iff.1 ht).1
      simpa using this
    rw [cell_arr k1, k7 (j * 3 + t) (by omega), ← cell_arr h7]
    exact hr t v ht
  · rw [List.getElem?_append_right (by omega), h11] at hj
    obtain rfl : j = i := by
      have := (List.getElem?_eq_some_iff.1 hj).1
      simp at this
      omega
    have : p = (nm, z) := by simpa using hj.symm
    subst this
    refine ⟨.int .i64 z0, .slice za zl zc, fun t v ht => ?_, hI hz⟩
    rw [cell_arr k1]
    match t with
    | 0 => rw [show j * 3 + 0 = j * 3 by omega, k4]; simpa using ht
    | 1 => rw [k5]; simpa using ht
    | 2 => rw [k6]; simpa using ht
    | t + 3 => simp at ht
theorem empty_of {s : ByteArray} (h : s.size = 0) : s = ⟨#[]⟩ := by
  have h2 : s.data.toList.length = s.size := by simp
  have : s.data.toList = [] := List.eq_nil_of_length_eq_zero (by omega)
  obtain ⟨d⟩ := s
  congr
  exact Array.toList_eq_nil_iff.1 this
theorem toList_ne {s : ByteArray} (h : s.size ≠ 0) : ¬ s.toList = [] := by
  intro e
  rw [Lib.toList_data] at e
  have h2 : s.data.toList.length = s.size := by simp
  rw [e] at h2
  exact h h2.symm
theorem isEmpty_ne {s : ByteArray} (h : s.size ≠ 0) : s.toList.isEmpty = false := by
  cases hs : s.toList with
  | nil => exact absurd hs (toList_ne h)
  | cons a l => rfl
set_option maxRecDepth 100000 in
set_option maxHeartbeats 4000000 in
theorem readRow_any {w : World} {B : Nat} {v : Value} {C : List (ByteArray × ByteArray)} {K : ByteArray} (hL : IsL w B v C K) (hB : B ≤ w.heap.size) (hn : C.length ≤ 1000000) : Calls Tryz.prog 25 #[v] w (RPost C K w) := by
  obtain ⟨aC, n, cC, rfl, hnC, hC⟩ := hL
  obtain ⟨w1, e1, hb1, hs1, hc1, hh1⟩ := box_new w #[.slice aC n cC, .string K] 28
  obtain ⟨w2, e2, hb2, hs2, hc2, hh2⟩ := box_new w1 #[.slice none 0 0, .int .i64 0, .slice none 0 0] 68
  have HN := hide (number_any K 400 w2 (by omega))
  have HE := hide (And.intro e1 e2)
  have hhL := (hb2.block w.heap.size (by omega)).trans hh1
  have x1 : w2.cell? ⟨w.heap.size, 1, none⟩ = some (.string K) := (blk hhL).2.1 1 _ rfl
  have x0 : w2.cell? ⟨w.heap.size, 0, none⟩ = some (.slice aC n cC) := (blk hhL).2.1 0 _ rfl
  have HB := hide (And.intro (hb1.trans (hb2.mono (by omega))) (And.intro hhL (And.intro hh2 (And.intro hs2 hs1))))
  have HC := hide (And.intro hC (And.intro hnC hB))
  rw [← e2, ← e1] at x1 x0
  clear e1 e2 hb1 hs1 hc1 hh1 hb2 hs2 hc2 hh2 hhL hC hnC hB
  go_enter Tryz.func25, Tryz.ntmps25
  go_wp2_with fail
  obtain ⟨e1, e2⟩ := unhide HE
  rw [e1, e2] at x1 x0
  rw [e1, e2]
  clear e1 e2
  refine (unhide HN).mono ?_
  rintro e w3 ⟨r, rfl, hb3, hI3⟩
  obtain ⟨m0, ma, ml, mc, rfl⟩ := hI3.form
  obtain ⟨hbw2, hhL, hhR, hs2, hs1⟩ := unhide HB
  rw [hs1] at hhR
  have hL3 := (hb3.block w.heap.size (by omega)).trans hhL
  have hR3 := (hb3.block (w.heap.size + 1) (by omega)).trans hhR
  obtain ⟨w4, e4, hb4, hs4, hc4, hh4⟩ := box_new w3 #[.int .i64 m0, .slice ma ml mc] 49
  have hL4 := (hb4.block w.heap.size (by have := hb3.size; omega)).trans hL3
  have hR4 := (hb4.block (w.heap.size + 1) (by have := hb3.size; omega)).trans hR3
  have hI4 : IsB w4 w4.heap.size (.agg #[.int .i64 m0, .slice ma ml mc]) ((numT 400 K).getD 0) := IsB.of (hI3.below hb4)
  have hbw4 : Below w.heap.size w w4 := hbw2.trans ((hb3.mono (by omega)).trans (hb4.mono (by have := hb3.size; omega)))
  have hsz4 : w.heap.size + 3 ≤ w4.heap.size := by have := hb3.size; omega
  have HE4 := hide e4
  have H4 := hide (And.intro hL4 (And.intro hR4 (And.intro hI4 (And.intro hbw4 (And.intro hsz4 (And.intro hh4 hs4))))))
  clear hb3 hI3 hbw2 hhL hhR hs2 hs1 hL3 hR3 e4 hb4 hs4 hc4 hh4 hL4 hR4 hI4 hbw4 hsz4 x0 x1 HN HB HE
  cases hk : numT 400 K with
  | none =>
    obtain ⟨hL4, hR4, hI4, hbw4, hsz4, hh4, hs4⟩ := unhide H4
    have r0 : w4.cell? ⟨w.heap.size + 1, 0, none⟩ = some (.slice none 0 0) := (blk hR4).2.1 0 _ rfl
    have r1 : w4.cell? ⟨w.heap.size + 1, 1, none⟩ = some (.int .i64 0) := (blk hR4).2.1 1 _ rfl
    have r2 : w4.cell? ⟨w.heap.size + 1, 2, none⟩ = some (.slice none 0 0) := (blk hR4).2.1 2 _ rfl
    have rf0 := (blk hR4).2.2 0
    have rf1 := (blk hR4).2.2 1
    have rf2 := (blk hR4).2.2 2
    rw [← unhide HE4] at r0 r1 r2 rf0 rf1 rf2
    clear hL4 hI4 hsz4 hh4 hs4
    have HF := hide (And.intro hR4 hbw4)
    clear hR4 hbw4
    go_wp2
    obtain ⟨hR4, hbw4⟩ := unhide HF
    rw [unhide HE4]
    have hnone : readR C K = none := by
      unfold readR
      rw [hk]
    refine bodyPost_ret (res_row2 (cs := [.slice none 0 0, .int .i64 0, .slice none 0 0]) rfl rfl rfl (range_block (fill3 hR4)) rfl rfl rfl) rfl ?_
    exact ⟨_, by rw [hnone]; rfl, (put3 w4 (w.heap.size + 1) _ _ _).below hbw4 (by omega), ⟨_, _, _, _, _, _, _, rfl⟩, fun ps k h => by rw [hnone] at h; cases h⟩
  | some k =>
    go_wp2_with fail
    rw [unhide HE4]
    obtain ⟨hL4, hR4, hI4, hbw4, hsz4, hh4, hs4⟩ := unhide H4
    have x0 : w4.cell? ⟨w.heap.size, 0, none⟩ = some (.slice aC n cC) := (blk hL4).2.1 0 _ rfl
    have y0 : w4.cell? ⟨w3.heap.size, 0, none⟩ = some (.int .i64 m0) := (blk hh4).2.1 0 _ rfl
    have y1 : w4.cell? ⟨w3.heap.size, 1, none⟩ = some (.slice ma ml mc) := (blk hh4).2.1 1 _ rfl
    have hq1 : w.heap.size < w4.heap.size := by omega
    have hq2 : w3.heap.size < w4.heap.size := by omega
    clear hh4 hs4
    have hmk : ∀ V, (Instr.makeSlice 66 (.int .i64 (n : Int)) (.int .i64 (n : Int))).run Tryz.prog V = .ok (.slice (some ⟨V.heap.size, 0, none⟩) n n) (V.alloc (.cells (madeCells #[.string ⟨#[]⟩, .int .i64 0, .slice none 0 0] (n * 3)) 92)) := fun V => mkPart n V (by have := (unhide HC).2.1; omega)
    have HS4 := hide (And.intro hL4 (And.intro hR4 (And.intro hI4 (And.intro hbw4 hsz4))))
    refine wp_mono (Q := Nm.nrm (fun a' V => ∃ (pb ob : Nat), a' = { tmps := #[.agg #[.slice aC n cC, .string K], .pointer (some ⟨w.heap.size, 0, none⟩), .pointer (some ⟨w.heap.size + 1, 0, none⟩), .bool false, .pointer (some ⟨w3.heap.size, 0, none⟩), .bool true, .pointer (some ⟨ob, 0, none⟩), undef, undef, undef, undef, .tuple #[.agg #[.int .i64 m0, .slice ma ml mc], .bool true], .pointer (some ⟨w.heap.size, 1, none⟩), .string K, .tuple #[.agg #[.int .i64 m0, .slice ma ml mc], .bool true], .agg #[.int .i64 m0, .slice ma ml mc], .bool true, .bool true, .bool false, undef, .pointer (some ⟨w.heap.size, 0, none⟩), .slice aC n cC, .int .i64 (n : Int), .slice (some ⟨pb, 0, none⟩) n n, .agg #[.int .i64 m0, .slice ma ml mc], .agg #[.slice (some ⟨pb, 0, none⟩) n n, .int .i64 m0, .slice ma ml mc], undef, undef, undef, undef, undef, undef, undef, undef, undef, undef, undef, undef, undef, undef, undef, undef, undef, undef, undef, undef, undef, undef, undef, undef, undef, undef, undef, undef, undef, undef, undef, undef, undef, undef, undef, undef, undef, undef], defers := [] } ∧ Below w4.heap.size w4 V ∧ V.heap[pb]? = some (.cells (madeCells #[.string ⟨#[]⟩, .int .i64 0, .slice none 0 0] (n * 3)) 92) ∧ V.heap[ob]? = some (.cells #[.slice (some ⟨pb, 0, none⟩) n n, .int .i64 m0, .slice ma ml mc] 68) ∧ w4.heap.size ≤ pb ∧ w4.heap.size ≤ ob ∧ pb ≠ ob)) ?_ ?_
    · go_region
      · clear x0 y0 y1 hq1 hq2 hmk
        obtain ⟨A1, eA1, hbA1, hsA1, hcA1, hhA1⟩ := box_new w4 (madeCells #[.string ⟨#[]⟩, .int .i64 0, .slice none 0 0] (n * 3)) 92
        obtain ⟨A2, eA2, hbA2, hsA2, hcA2, hhA2⟩ := box_new A1 #[.slice (some ⟨w4.heap.size, 0, none⟩) n n, .int .i64 m0, .slice ma ml mc] 68
        rw [eA1, eA2]
        rw [hsA1] at hhA2
        exact Nm.nrm_mk ⟨w4.heap.size, w4.heap.size + 1, rfl, (hbA1.trans (hbA2.mono (by omega))).drew, (hbA2.block w4.heap.size (by omega)).trans hhA1, hhA2, Nat.le_refl _, by omega, by omega⟩
      · clear x0 y0 y1 hq1 hq2 hmk
        obtain ⟨A1, eA1, hbA1, hsA1, hcA1, hhA1⟩ := box_new w4 #[.slice (some ⟨w4.heap.size + 1, 0, none⟩) n n, .int .i64 m0, .slice ma ml mc] 68
        obtain ⟨A2, eA2, hbA2, hsA2, hcA2, hhA2⟩ := box_new A1 (madeCells #[.string ⟨#[]⟩, .int .i64 0, .slice none 0 0] (n * 3)) 92
        rw [eA1, eA2]
        rw [hsA1] at hhA2
        exact Nm.nrm_mk ⟨w4.heap.size + 1, w4.heap.size, rfl, (hbA1.trans (hbA2.mono (by omega))).drew, hhA2, (hbA2.block w4.heap.size (by omega)).trans hhA1, by omega, Nat.le_refl _, by omega⟩
    · clear x0 y0 y1 hq1 hq2 hmk
      rintro e a V h9
      obtain ⟨rfl, pb, ob, rfl, hVb, hVp, hVo, hpo1, hpo2, hpo3⟩ := Nm.nrm_out h9
      have hpo : w.heap.size + 2 ≤ pb ∧ w.heap.size + 2 ≤ ob ∧ pb ≠ ob := by have := (unhide HS4).2.2.2.2; omega
      clear h9 hpo1 hpo2 hpo3
      obtain ⟨hL4, hR4, hI4, hbw4, hsz4⟩ := unhide HS4
      have hinv : RInv w aC n cC C K ob pb m0 ma ml mc k 0 V := ⟨hbw4.trans (hVb.mono (by omega)), by have := hVb.size; omega, (hVb.block _ (by omega)).trans hL4, (hVb.block _ (by omega)).trans hR4, hVo, by rw [hk] at hI4; exact hI4.more hVb hVb.size, _, hVp, size_madeCells _ _, made_zero _, [], by simp [readC], rfl, fun j p hp => by simp at hp⟩
      clear hL4 hR4 hI4 hbw4 hsz4 hVb hVp hVo HS4 HE4 H4
      have x0 : V.cell? ⟨w.heap.size, 0, none⟩ = some (.slice aC n cC) := (blk hinv.2.2.1).2.1 0 _ rfl
      have HINV := hide hinv
      clear hinv
      go_wp2_with fail
      go_loopw [29] (fun iv wr => ∃ i : Nat, i ≤ n ∧ iv = .int .i64 i ∧ RInv w aC n cC C K ob pb m0 ma ml mc k i wr) (fun iv _ => n - (intOf iv).toNat)
      case atStart => exact ⟨0, Nat.zero_le _, rfl, unhide HINV⟩
      case round =>
        obtain ⟨i, hi0, rfl, hR⟩ := hrel
        clear x0
        by_cases hi : i < n
        · obtain ⟨hC, hnC, hB⟩ := unhide HC
          obtain ⟨b, off, rfl, hbB, hCj⟩ := hC.2.2 (by omega)
          obtain ⟨c, hc⟩ : ∃ c, C[i]? = some c := ⟨_, List.getElem?_eq_getElem (by omega)⟩
          obtain ⟨nm, N⟩ := c
          have hcc := hCj i hi _ hc
          have hwr : Below w.heap.size w wr := hR.1
          have q0 : wr.cell? ⟨b, off + i * 2, none⟩ = some (.string nm) := (hwr.cell (p := ⟨b, off + i * 2, none⟩) (Nat.lt_of_lt_of_le hbB hB)).trans (hcc 0 _ rfl)
          have q1 : wr.cell? ⟨b, off + i * 2 + 1, none⟩ = some (.string N) := (hwr.cell (p := ⟨b, off + i * 2 + 1, none⟩) (Nat.lt_of_lt_of_le hbB hB)).trans (hcc 1 _ rfl)
          have g1 : (i : Int) < (n : Int) := by omega
          have g0 : (0 : Int) ≤ (i : Int) := by omega
          have g2 : (n : Int) ≤ 1000000 := by omega
          obtain ⟨A, eA, hbA, hsA, hcA, hhA⟩ := box_new wr #[.string nm, .string N] 39
          have HNum := hide (number_any N 400 A (by omega))
          have HEA := hide eA
          have HA := hide (And.intro hbA (And.intro hsA hhA))
          have HRI := hide hR
          have HCI := hide hc
          clear hC hnC hB hbB hCj hcc hwr eA hbA hsA hcA hhA hR hc
          go_wp2_with fail
          rw [unhide HEA]
          refine (unhide HNum).mono ?_
          rintro e w5 ⟨r5, rfl, hb5, hI5⟩
          obtain ⟨z0, za, zl, zc, rfl⟩ := hI5.form
          obtain ⟨hbA, hsA, hhA⟩ := unhide HA
          obtain ⟨w6, e6, hb6, hs6, hc6, hh6⟩ := box_new w5 #[.int .i64 z0, .slice za zl zc] 49
          have hbr6 : Below wr.heap.size wr w6 := hbA.trans ((hb5.mono (by omega)).trans (hb6.mono (by have := hb5.size; omega)))
          have hR6 := (unhide HRI).grow hbr6
          have hc6' : w6.heap[wr.heap.size]? = some (.cells #[.string nm, .string N] 39) := (hb6.block _ (by have := hb5.size; omega)).trans ((hb5.block _ (by omega)).trans hhA)
          have hz6 : IsB w6 w6.heap.size (.agg #[.int .i64 z0, .slice za zl zc]) ((numT 400 N).getD 0) := IsB.of (hI5.below hb6)
          have r0 : w6.cell? ⟨w.heap.size + 1, 0, none⟩ = some (.slice none 0 0) := (blk hR6.2.2.2.1).2.1 0 _ rfl
          have r1 : w6.cell? ⟨w.heap.size + 1, 1, none⟩ = some (.int .i64 0) := (blk hR6.2.2.2.1).2.1 1 _ rfl
          have r2 : w6.cell? ⟨w.heap.size + 1, 2, none⟩ = some (.slice none 0 0) := (blk hR6.2.2.2.1).2.1 2 _ rfl
          have rf0 := (blk hR6.2.2.2.1).2.2 0
          have rf1 := (blk hR6.2.2.2.1).2.2 1
          have rf2 := (blk hR6.2.2.2.1).2.2 2
          have s0 : w6.cell? ⟨wr.heap.size, 0, none⟩ = some (.string nm) := (blk hc6').2.1 0 _ rfl
          have s1 : w6.cell? ⟨wr.heap.size, 1, none⟩ = some (.string N) := (blk hc6').2.1 1 _ rfl
          have t0 : w6.cell? ⟨w5.heap.size, 0, none⟩ = some (.int .i64 z0) := (blk hh6).2.1 0 _ rfl
          have t1 : w6.cell? ⟨w5.heap.size, 1, none⟩ = some (.slice za zl zc) := (blk hh6).2.1 1 _ rfl
          have HE6 := hide e6
          have HR6 := hide (And.intro hR6 hz6)
          rw [← e6] at r0 r1 r2 rf0 rf1 rf2 s0 s1 t0 t1
          clear hb5 hI5 hbA hsA hhA e6 hb6 hs6 hc6 hh6 hbr6 hR6 hc6' hz6 q0 q1 HNum HEA HA
          obtain ⟨bad, hbad⟩ : ∃ bad, decide (nm.size = 0 ∨ 200 < nm.size) = bad := ⟨_, rfl⟩
          cases hz : numT 400 N with
          | none =>
            clear s0 s1 t0 t1 hbad
            go_wp2
            obtain ⟨hR6, _⟩ := unhide HR6
            rw [unhide HE6]
            have hnone : readR C K = none := by
              unfold readR
              rw [hk, readC_bad (unhide HCI) (by simp [readP, hz])]
            refine bodyPost_ret (res_row2 (cs := [.slice none 0 0, .int .i64 0, .slice none 0 0]) rfl rfl rfl (range_block (fill3 hR6.2.2.2.1)) rfl rfl rfl) rfl ?_
            exact ⟨_, by rw [hnone]; rfl, (put3 w6 (w.heap.size + 1) _ _ _).below hR6.1 (by omega), ⟨_, _, _, _, _, _, _, rfl⟩, fun ps k h => by rw [hnone] at h; cases h⟩
          | some z =>
            have HZ := hide hz
            by_cases hnm : nm.size = 0
            · obtain rfl := empty_of hnm
              clear t0 t1 hbad s1 hnm hz
              go_wp2
              obtain ⟨hR6, _⟩ := unhide HR6
              rw [unhide HE6]
              have hnone : readR C K = none := by
                unfold readR
                rw [hk, readC_bad (unhide HCI) (by rw [readP, if_pos]; left; rfl)]
              refine bodyPost_ret (res_row2 (cs := [.slice none 0 0, .int .i64 0, .slice none 0 0]) rfl rfl rfl (range_block (fill3 hR6.2.2.2.1)) rfl rfl rfl) rfl ?_
              exact ⟨_, by rw [hnone]; rfl, (put3 w6 (w.heap.size + 1) _ _ _).below hR6.1 (by omega), ⟨_, _, _, _, _, _, _, rfl⟩, fun ps k h => by rw [hnone] at h; cases h⟩
            · have v1 := toList_ne hnm
              have v2 := isEmpty_ne hnm
              by_cases hlong : 200 < nm.size
              · have v3 : decide ((200 : Int) < (nm.size : Int)) = true := by simp; omega
                have HL := hide (And.intro hnm hlong)
                clear t0 t1 hbad s1 hnm hz hlong
                go_wp2
                obtain ⟨hR6, _⟩ := unhide HR6
                rw [unhide HE6]
                have hnone : readR C K = none := by
                  unfold readR
                  rw [hk, readC_bad (unhide HCI) (by rw [readP, if_pos]; right; exact (unhide HL).2)]
                refine bodyPost_ret (res_row2 (cs := [.slice none 0 0, .int .i64 0, .slice none 0 0]) rfl rfl rfl (range_block (fill3 hR6.2.2.2.1)) rfl rfl rfl) rfl ?_
                exact ⟨_, by rw [hnone]; rfl, (put3 w6 (w.heap.size + 1) _ _ _).below hR6.1 (by omega), ⟨_, _, _, _, _, _, _, rfl⟩, fun ps k h => by rw [hnone] at h; cases h⟩
              · have v3 : decide ((200 : Int) < (nm.size : Int)) = false := by simp; omega
                have HL := hide (And.intro hnm hlong)
                clear hbad s1 hnm hz hlong r0 r1 r2 rf0 rf1 rf2
                obtain ⟨hR6, hz6⟩ := unhide HR6
                obtain ⟨_, _, _, _, h5, _, cs, h7, h8, _⟩ := hR6
                have o0 : w6.cell? ⟨ob, 0, none⟩ = some (.slice (some ⟨pb, 0, none⟩) n n) := (blk h5).2.1 0 _ rfl
                obtain ⟨d0, hd0⟩ : ∃ d, cs[i * 3]? = some d := ⟨_, Array.getElem?_eq_getElem (by omega)⟩
                have c0 : w6.cell? ⟨pb, i * 3, none⟩ = some d0 := by rw [cell_arr h7, hd0]
                obtain ⟨d1, hd1⟩ : ∃ d, cs[i * 3 + 1]? = some d := ⟨_, Array.getElem?_eq_getElem (by omega)⟩
                have c1 : w6.cell? ⟨pb, i * 3 + 1, none⟩ = some d1 := by rw [cell_arr h7, hd1]
                obtain ⟨d2, hd2⟩ : ∃ d, cs[i * 3 + 2]? = some d := ⟨_, Array.getElem?_eq_getElem (by omega)⟩
                have c2 : w6.cell? ⟨pb, i * 3 + 2, none⟩ = some d2 := by rw [cell_arr h7, hd2]
                have f0 := (blk h7).2.2 (i * 3)
                have f1 := (blk h7).2.2 (i * 3 + 1)
                have f2 := (blk h7).2.2 (i * 3 + 2)
                rw [← unhide HE6] at o0 c0 c1 c2 f0 f1 f2
                have hz2 : readP (nm, N) = some (nm, z) := by
                  rw [readP, if_neg (fun h => h.elim (unhide HL).1 (unhide HL).2)]
                  simp only
                  rw [unhide HZ]
                  rfl
                have HRP := hide hz2
                clear h5 h7 h8 hz6 hz2 hd0 hd1 hd2
                go_wp2
                rw [unhide HE6]
                obtain ⟨hR6, hz6⟩ := unhide HR6
                rw [unhide HZ] at hz6
                refine ⟨⟨i + 1, by omega, by simp, hR6.put hi hpo (unhide HCI) (unhide HRP) hz6⟩, ?_⟩
                simp [intOf]
                omega
        · have gi : decide ((i : Int) < (n : Int)) = false := by simp; omega
          have g1 : ¬ ((i : Int) < (n : Int)) := by omega
          obtain rfl : i = n := by omega
          have HRI := hide hR
          obtain ⟨_, _, _, h4, h5, _⟩ := hR
          have o0 : wr.cell? ⟨ob, 0, none⟩ = some (.slice (some ⟨pb, 0, none⟩) i i) := (blk h5).2.1 0 _ rfl
          have o1 : wr.cell? ⟨ob, 1, none⟩ = some (.int .i64 m0) := (blk h5).2.1 1 _ rfl
          have o2 : wr.cell? ⟨ob, 2, none⟩ = some (.slice ma ml mc) := (blk h5).2.1 2 _ rfl
          have r0 : wr.cell? ⟨w.heap.size + 1, 0, none⟩ = some (.slice none 0 0) := (blk h4).2.1 0 _ rfl
          have r1 : wr.cell? ⟨w.heap.size + 1, 1, none⟩ = some (.int .i64 0) := (blk h4).2.1 1 _ rfl
          have r2 : wr.cell? ⟨w.heap.size + 1, 2, none⟩ = some (.slice none 0 0) := (blk h4).2.1 2 _ rfl
          have rf0 := (blk h4).2.2 0
          have rf1 := (blk h4).2.2 1
          have rf2 := (blk h4).2.2 2
          clear h4 h5 hi hi0
          go_wp2
          obtain ⟨h1, h2, h3, h4, h5, h6, cs, h7, h8, h9, ps, h10, h11, h12⟩ := unhide HRI
          obtain ⟨hC, hnC, hB⟩ := unhide HC
          have hrd : readR C K = some (ps, k) := by
            unfold readR
            rw [hk]
            rw [hnC, List.take_length] at h10
            rw [h10]
          have hp := put3 wr (w.heap.size + 1) (.slice (some ⟨pb, 0, none⟩) i i) (.int .i64 m0) (.slice ma ml mc)
          have hI : ∀ {v : Value} {u : Int}, IsB wr wr.heap.size v u → IsB (((wr.setCell ⟨w.heap.size + 1, 0, none⟩ (.slice (some ⟨pb, 0, none⟩) i i)).setCell ⟨w.heap.size + 1, 1, none⟩ (.int .i64 m0)).setCell ⟨w.heap.size + 1, 2, none⟩ (.slice ma ml mc)) (((wr.setCell ⟨w.heap.size + 1, 0, none⟩ (.slice (some ⟨pb, 0, none⟩) i i)).setCell ⟨w.heap.size + 1, 1, none⟩ (.int .i64 m0)).setCell ⟨w.heap.size + 1, 2, none⟩ (.slice ma ml mc)).heap.size v u := fun {v u} hv => by
            rw [hp.size]
            exact hv.put hp h4 fun o y e => by
              match o with
              | 0 => simp at e
              | 1 => simp at e
              | 2 => simp at e
              | o + 3 => simp at e
          refine bodyPost_ret (res_row2 (cs := [.slice (some ⟨pb, 0, none⟩) i i, .int .i64 m0, .slice ma ml mc]) rfl rfl rfl (range_block (fill3 h4)) rfl rfl rfl) rfl ?_
          refine ⟨_, by rw [hrd]; rfl, hp.below h1 (by omega), ⟨_, _, _, _, _, _, _, rfl⟩, fun ps' k' h => ?_⟩
          rw [hrd] at h
          injection h with h
          injection h with e1 e2
          subst e1 e2
          have hpb : pb < wr.heap.size := (Array.getElem?_eq_some_iff.1 h7).1
          refine ⟨some ⟨pb, 0, none⟩, i, i, .int .i64 m0, .slice ma ml mc, rfl, h11.symm, ⟨Nat.le_refl _, by omega, fun _ => ⟨pb, 0, rfl, by rw [hp.size]; exact hpb, fun j hj p hpj => ?_⟩⟩, hI h6⟩
          obtain ⟨x, y, hr, hv⟩ := h12 j p hpj
          refine ⟨x, y, fun t v ht => ?_, hI hv⟩
          rw [World.cell?_of_block (w := wr) (hp.block pb (by omega)), Nat.zero_add]
          exact hr t v ht
end Go.Proofs.YthgdmppmjnmiiaaGreatDoor

/- Package farkas: lists of rows are read. -/
namespace Go.Proofs.YthgdmppmjnmiiaaGreatDoor
open Go Go.RowKit
open _root_.Go.Proofs.YthgdmppmjnmiiaaGreatDoor.Nm (IsI pw)
/-- All of a list, or nothing. -/
def allO {α β : Type} (f : α → Option β) : List α → Option (List β)
  | [] => some []
  | c :: cs => match f c, allO f cs with
    | some p, some ps => some (p :: ps)
    | _, _ => none
theorem allO_snoc {α β : Type} {f : α → Option β} {C : List α} {c : α} : allO f (C ++ [c]) = match allO f C, f c with
    | some ps, some p => some (ps ++ [p])
    | _, _ => none := by
  induction C with
  | nil => simp only [List.nil_append, allO]; cases f c <;> rfl
  | cons d C ih =>
    simp only [List.cons_append, allO, ih]
    cases f d <;> cases allO f C <;> cases f c <;> rfl
theorem allO_take {α β : Type} {f : α → Option β} {C : List α} {i : Nat} {c : α} (hc : C[i]? = some c) : allO f (C.take (i + 1)) = match allO f (C.take i), f c with
    | some ps, some p => some (ps ++ [p])
    | _, _ => none := by
  rw [List.take_add_one, hc]
  exact allO_snoc
theorem allO_none {α β : Type} {f : α → Option β} {C D : List α} (h : allO f C = none) : allO f (C ++ D) = none := by
  induction C with
  | nil => simp [allO] at h
  | cons c C ih =>
    simp only [List.cons_append, allO] at h ⊢
    cases hp : f c with
    | none => rfl
    | some p =>
      rw [hp] at h
      cases hq : allO f C with
      | none => rw [ih hq]
      | some ps => rw [hq] at h; simp at h
theorem allO_bad {α β : Type} {f : α → Option β} {C : List α} {i : Nat} {c : α} (hc : C[i]? = some c) (h : f c = none) : allO f C = none := by
  have h1 : allO f (C.take (i + 1)) = none := by
    rw [allO_take hc, h]
    cases allO f (C.take i) <;> rfl
  have := allO_none (D := C.drop (i + 1)) h1
  rwa [List.take_append_drop] at this
def readL (ls : List (List (ByteArray × ByteArray) × ByteArray)) : Option (List (List (ByteArray × Int) × Int)) := allO (fun x => readR x.1 x.2) ls
/-- A text, or a digit of a great number. -/
def Str (u : Value) : Prop := (∃ s, u = .string s) ∨ ∃ y, u = .int .u32 y
theorem IsB.keepS {w w' : World} {B B' : Nat} {v : Value} {z : Int} (h : IsB w B v z) (hw : ∀ b, b < B → (∃ o u, w.cell? ⟨b, o, none⟩ = some u ∧ Str u) → w'.heap[b]? = w.heap[b]? ∧ b < B' ∧ b < w'.heap.size) : IsB w' B' v z := h.keep fun b hb ⟨o, y, hy⟩ => hw b hb ⟨o, _, hy, .inr ⟨y, rfl⟩⟩
theorem IsR.keep {w w' : World} {B B' : Nat} {v : Value} {ps : List (ByteArray × Int)} {k : Int} (h : IsR w B v ps k) (hw : ∀ b, b < B → (∃ o u, w.cell? ⟨b, o, none⟩ = some u ∧ Str u) → w'.heap[b]? = w.heap[b]? ∧ b < B' ∧ b < w'.heap.size) : IsR w' B' v ps k := by
  obtain ⟨a, n, c, x, y, rfl, hn, ⟨h1, h2, hr⟩, hI⟩ := h
  refine ⟨a, n, c, x, y, rfl, hn, ⟨h1, h2, fun h0 => ?_⟩, hI.keepS hw⟩
  obtain ⟨b, off, rfl, hb, hj⟩ := hr h0
  have hk : w'.heap[b]? = w.heap[b]? ∧ b < B' ∧ b < w'.heap.size := by
    obtain ⟨p, hp⟩ : ∃ p, ps[0]? = some p := ⟨_, List.getElem?_eq_getElem (by omega)⟩
    obtain ⟨x, y, hr, _⟩ := hj 0 (by omega) p hp
    exact hw b hb ⟨_, _, hr 0 _ rfl, .inl ⟨_, rfl⟩⟩
  refine ⟨b, off, rfl, hk.2.1, fun j hjn p hp => ?_⟩
  obtain ⟨x, y, hr, hv⟩ := hj j hjn p hp
  exact ⟨x, y, fun t u ht => by rw [World.cell?_of_block (w := w) hk.1]; exact hr t u ht, hv.keepS hw⟩
theorem IsR.more {w w' : World} {B B' : Nat} {v : Value} {ps : List (ByteArray × Int)} {k : Int} (h : IsR w B v ps k) (hw : Below B w w') (hB : B ≤ B') (hs : B ≤ w.heap.size) : IsR w' B' v ps k := h.keep fun b hb _ => ⟨hw.block b hb, Nat.lt_of_lt_of_le hb hB, Nat.lt_of_lt_of_le (Nat.lt_of_lt_of_le hb hs) hw.size⟩
/-- A row lies there. -/
def RAt (w : World) (B : Nat) (rs : List (List (ByteArray × Int) × Int)) (b o j : Nat) : Prop := ∀ r, rs[j]? = some r → ∃ x y z, w.rangeAt b o [x, y, z] ∧ IsR w B (.agg #[x, y, z]) r.1 r.2
def LAt (w : World) (B : Nat) (ls : List (List (ByteArray × ByteArray) × ByteArray)) (b o j : Nat) : Prop := ∀ l, ls[j]? = some l → ∃ x y, w.rangeAt b o [x, y] ∧ IsL w B (.agg #[x, y]) l.1 l.2
theorem IsL.more {w w' : World} {B : Nat} {v : Value} {C : List (ByteArray × ByteArray)} {K : ByteArray} (h : IsL w B v C K) (hw : Below B w w') : IsL w' B v C K := by
  obtain ⟨a, n, c, rfl, hn, hr⟩ := h
  exact ⟨a, n, c, rfl, hn, hr.mono (Nat.le_refl _) fun b o j hb h p hp => rangeAt_below (h p hp) hb hw⟩
/-- Cells that are neither texts nor digits. -/
def NoS (cs : Array Value) : Prop := ∀ (o : Nat) u, cs[o]? = some u → ¬ Str u
theorem noS_keep {w w' : World} {q B : Nat} {cs : Array Value} {ty : TypeId} (hp : PutAt q w w') (hq : w.heap[q]? = some (.cells cs ty)) (hn : NoS cs) : ∀ b, b < B → (∃ o u, w.cell? ⟨b, o, none⟩ = some u ∧ Str u) → w'.heap[b]? = w.heap[b]? ∧ b < B ∧ b < w'.heap.size := fun b hb ⟨o, u, hu, hs⟩ => by
  have hne : b ≠ q := by
    rintro rfl
    rw [cell_arr hq] at hu
    exact hn o u hu hs
  refine ⟨hp.block b hne, hb, ?_⟩
  rw [hp.size]
  exact World.block_lt_of_cell? _ _ hu
/-- While rows are read: i of them are there. -/
def LInv (w : World) (n : Nat) (ls : List (List (ByteArray × ByteArray) × ByteArray)) (ob i : Nat) (V : World) : Prop :=
  Below w.heap.size w V ∧ ∃ cs, V.heap[ob]? = some (.cells cs 68) ∧ cs.size = n * 3 ∧ NoS cs ∧ ∃ rs, readL (ls.take i) = some rs ∧ rs.length = i ∧ ∀ j, RAt V V.heap.size rs ob (j * 3) j
theorem LInv.grow {w V V' : World} {n : Nat} {ls : List (List (ByteArray × ByteArray) × ByteArray)} {ob i : Nat} (h : LInv w n ls ob i V) (hb : Below V.heap.size V V') : LInv w n ls ob i V' := by
  obtain ⟨h1, cs, h7, h8, h9, rs, h10, h11, h12⟩ := h
  refine ⟨h1.trans (hb.mono h1.size), cs, (hb.block ob (Array.getElem?_eq_some_iff.1 h7).1).trans h7, h8, h9, rs, h10, h11, fun j r hr => ?_⟩
  obtain ⟨x, y, z, hr, hI⟩ := h12 j r hr
  exact ⟨x, y, z, rangeAt_below hr (Array.getElem?_eq_some_iff.1 h7).1 hb, hI.more hb hb.size (Nat.le_refl _)⟩
theorem LInv.put {w V : World} {n : Nat} {ls : List (List (ByteArray × ByteArray) × ByteArray)} {ob i : Nat} (h : LInv w n ls ob i V) (hi : i < n) (hob : w.heap.size ≤ ob) {l : List (ByteArray × ByteArray) × ByteArray} {r : List (ByteArray × Int) × Int} {a a2 : Option Addr} {q c q2 c2 : Nat} {z : Int} (hl : ls[i]? = some l) (hr : readR l.1 l.2 = some r) (hv : IsR V V.heap.size (.agg #[.slice a q c, .int .i64 z, .slice a2 q2 c2]) r.1 r.2) : LInv w n ls ob (i + 1) (((V.setCell ⟨ob, i * 3, none⟩ (.slice a q c)).setCell ⟨ob, i * 3 + 1, none⟩ (.int .i64 z)).setCell ⟨ob, i * 3 + 2, none⟩ (.slice a2 q2 c2)) := by
  obtain ⟨h1, cs, h7, h8, h9, rs, h10, h11, h12⟩ := h
  obtain ⟨cs', k1, k2, k3, k4, k5, k6, k7⟩ := three_put (o := i * 3) (x := .slice a q c) (y := .int .i64 z) (z := .slice a2 q2 c2) h7 (by omega)
  have hn' : NoS cs' := fun o u hu hs => by
    rcases (by omega : o < i * 3 ∨ i * 3 + 2 < o ∨ o = i * 3 ∨ o = i * 3 + 1 ∨ o = i * 3 + 2) with e | e | rfl | rfl | rfl
    · rw [k7 o (.inl e)] at hu; exact h9 o u hu hs
    · rw [k7 o (.inr e)] at hu; exact h9 o u hu hs
    · rw [k4] at hu
      injection hu with hu
      subst hu
      rcases hs with ⟨s, e⟩ | ⟨s, e⟩ <;> cases e
    · rw [k5] at hu
      injection hu with hu
      subst hu
      rcases hs with ⟨s, e⟩ | ⟨s, e⟩ <;> cases e
    · rw [k6] at hu
      injection hu with hu
      subst hu
      rcases hs with ⟨s, e⟩ | ⟨s, e⟩ <;> cases e
  have hI : ∀ {v : Value} {ps : List (ByteArray × Int)} {u : Int}, IsR V V.heap.size v ps u → IsR (((V.setCell ⟨ob, i * 3, none⟩ (.slice a q c)).setCell ⟨ob, i * 3 + 1, none⟩ (.int .i64 z)).setCell ⟨ob, i * 3 + 2, none⟩ (.slice a2 q2 c2)) (((V.setCell ⟨ob, i * 3, none⟩ (.slice a q c)).setCell ⟨ob, i * 3 + 1, none⟩ (.int .i64 z)).setCell ⟨ob, i * 3 + 2, none⟩ (.slice a2 q2 c2)).heap.size v ps u := fun {v ps u} hv => by
    rw [k2.size]
    exact hv.keep (noS_keep k2 h7 h9)
  refine ⟨k2.below h1 hob, cs', k1, by omega, hn', rs ++ [r], ?_, by simp [h11], fun j u hj => ?_⟩
  · unfold readL at h10 ⊢
    rw [allO_take hl, h10, hr]
  rcases Nat.lt_or_ge j i with e | e
  · rw [List.getElem?_append_left (by omega)] at hj
    obtain ⟨x, y, z', hr, hv⟩ := h12 j u hj
    refine ⟨x, y, z', fun t v ht => ?_, hI hv⟩
    have ht3 : t < 3 := by
      have := (List.getElem?_eq_some_iff.1 ht).1
      simpa using this
    rw [cell_arr k1, k7 (j * 3 + t) (by omega), ← cell_arr h7]
    exact hr t v ht
  · rw [List.getElem?_append_right (by omega), h11] at hj
    obtain rfl : j = i := by
      have := (List.getElem?_eq_some_iff.1 hj).1
      simp at this
      omega
    have : u = r := by simpa using hj.symm
    subst this
    refine ⟨.slice a q c, .int .i64 z, .slice a2 q2 c2, fun t v ht => ?_, hI hv⟩
    rw [cell_arr k1]
    match t with
    | 0 => rw [show j * 3 + 0 = j * 3 by omega, k4]; simpa using ht
    | 1 => rw [k5]; simpa using ht
    | 2 => rw [k6]; simpa using ht
    | t + 3 => simp at ht
theorem made_noS (n : Nat) : NoS (madeCells #[.slice none 0 0, .int .i64 0, .slice none 0 0] n) := fun o u hu hs => by
  unfold madeCells at hu
  rw [Array.getElem?_map] at hu
  obtain ⟨a, _, h2⟩ := Option.map_eq_some_iff.1 hu
  have h3 : a % 3 < 3 := Nat.mod_lt _ (by omega)
  have h4 : (#[Value.slice none 0 0, .int .i64 0, .slice none 0 0] : Array Value).size = 3 := rfl
  rw [h4] at h2
  generalize a % 3 = b at *
  match b, h3 with
  | 0, _ => subst h2; rcases hs with ⟨s, e⟩ | ⟨s, e⟩ <;> cases e
  | 1, _ => subst h2; rcases hs with ⟨s, e⟩ | ⟨s, e⟩ <;> cases e
  | 2, _ => subst h2; rcases hs with ⟨s, e⟩ | ⟨s, e⟩ <;> cases e
def LsPost (ls : List (List (ByteArray × ByteArray) × ByteArray)) (w : World) (e : Ending) (w' : World) : Prop := ∃ a n c, e = .returned (.tuple #[.slice a n c, .bool (readL ls).isSome]) ∧ Below w.heap.size w w' ∧ ∀ rs, readL ls = some rs → n = rs.length ∧ (c = n ∧ ∃ g cs, a = some ⟨g, 0, none⟩ ∧ w.heap.size ≤ g ∧ w'.heap[g]? = some (.cells cs 68) ∧ cs.size = n * 3 ∧ NoS cs) ∧ Row w'.heap.size a n c 3 (RAt w' w'.heap.size rs)
set_option maxRecDepth 100000 in
set_option maxHeartbeats 4000000 in
theorem readRows_any {w : World} {B : Nat} {aL : Option Addr} {n cL : Nat} {ls : List (List (ByteArray × ByteArray) × ByteArray)} (hL : Row B aL n cL 2 (LAt w B ls)) (hnl : n = ls.length) (hB : B ≤ w.heap.size) (hn : n ≤ 1000000) (hC : ∀ l ∈ ls, l.1.length ≤ 1000000) : Calls Tryz.prog 14 #[.slice aL n cL] w (LsPost ls w) := by
  have hmk := mkRow n w hn
  obtain ⟨A, eA, hbA, hsA, hcA, hhA⟩ := box_new w (madeCells #[.slice none 0 0, .int .i64 0, .slice none 0 0] (n * 3)) 68
  rw [eA] at hmk
  have hinv : LInv w n ls w.heap.size 0 A := ⟨hbA, _, hhA, size_madeCells _ _, made_noS _, [], rfl, rfl, fun j r hr => by simp at hr⟩
  have HC := hide (And.intro hL (And.intro hnl (And.intro hB hC)))
  have HINV := hide hinv
  clear hL hnl hB hC eA hbA hsA hcA hhA hinv
  go_enter Tryz.func14, Tryz.ntmps14
  go_wp2_with fail
  clear hmk
  go_loopw [13] (fun iv wr => ∃ i : Nat, i ≤ n ∧ iv = .int .i64 i ∧ LInv w n ls w.heap.size i wr) (fun iv _ => n - (intOf iv).toNat)
  case atStart => exact ⟨0, Nat.zero_le _, rfl, unhide HINV⟩
  case round =>
    obtain ⟨i, hi0, rfl, hR⟩ := hrel
    by_cases hi : i < n
    · obtain ⟨hL, hnl, hB, hC⟩ := unhide HC
      obtain ⟨b, off, rfl, hbB, hLj⟩ := hL.2.2 (by omega)
      obtain ⟨l, hl⟩ : ∃ l, ls[i]? = some l := ⟨_, List.getElem?_eq_getElem (by omega)⟩
      obtain ⟨x, y, hcc, hIL⟩ := hLj i hi _ hl
      have hILw := hIL
      obtain ⟨aC, nC, cC, exy, -, -⟩ := hIL
      have hx : x = .slice aC nC cC ∧ y = .string l.2 := by simpa using exy
      obtain ⟨rfl, rfl⟩ := hx
      have hwr : Below w.heap.size w wr := hR.1
      have q0 : wr.cell? ⟨b, off + i * 2, none⟩ = some (.slice aC nC cC) := (hwr.cell (p := ⟨b, off + i * 2, none⟩) (Nat.lt_of_lt_of_le hbB hB)).trans (hcc 0 _ rfl)
      have q1 : wr.cell? ⟨b, off + i * 2 + 1, none⟩ = some (.string l.2) := (hwr.cell (p := ⟨b, off + i * 2 + 1, none⟩) (Nat.lt_of_lt_of_le hbB hB)).trans (hcc 1 _ rfl)
      have g1 : (i : Int) < (n : Int) := by omega
      have g0 : (0 : Int) ≤ (i : Int) := by omega
      have g2 : (n : Int) ≤ 1000000 := by omega
      obtain ⟨A2, eA2, hbA2, hsA2, hcA2, hhA2⟩ := box_new wr #[.slice aC nC cC, .string l.2] 28
      have HRd := hide (readRow_any (w := A2) (B := B) (hILw.more ((hwr.mono hB).trans (hbA2.mono (Nat.le_trans hB hwr.size)))) (by have := hwr.size; omega) (hC l (List.mem_of_getElem? hl)))
      have HEA := hide eA2
      have HA := hide (And.intro hbA2 (And.intro hsA2 hhA2))
      have HRI := hide hR
      have HLI := hide hl
      clear hL hnl hB hC hbB hLj hcc hILw hwr eA2 hbA2 hsA2 hcA2 hhA2 hR hl exy
      go_wp2_with fail
      rw [unhide HEA]
      refine (unhide HRd).mono ?_
      rintro e w5 ⟨r5, rfl, hb5, ⟨a5, n5, c5, i5, a6, n6, c6, rfl⟩, hI5⟩
      obtain ⟨hbA2, hsA2, hhA2⟩ := unhide HA
      have hbr5 : Below wr.heap.size wr w5 := hbA2.trans (hb5.mono (by omega))
      have hR5 := (unhide HRI).grow hbr5
      obtain ⟨-, cs, h7, h8, -⟩ := id hR5
      obtain ⟨d0, hd0⟩ : ∃ d, cs[i * 3]? = some d := ⟨_, Array.getElem?_eq_getElem (by omega)⟩
      obtain ⟨d1, hd1⟩ : ∃ d, cs[i * 3 + 1]? = some d := ⟨_, Array.getElem?_eq_getElem (by omega)⟩
      obtain ⟨d2, hd2⟩ : ∃ d, cs[i * 3 + 2]? = some d := ⟨_, Array.getElem?_eq_getElem (by omega)⟩
      have c0 : w5.cell? ⟨w.heap.size, i * 3, none⟩ = some d0 := by rw [cell_arr h7, hd0]
      have c1 : w5.cell? ⟨w.heap.size, i * 3 + 1, none⟩ = some d1 := by rw [cell_arr h7, hd1]
      have c2 : w5.cell? ⟨w.heap.size, i * 3 + 2, none⟩ = some d2 := by rw [cell_arr h7, hd2]
      have f0 := (blk h7).2.2 (i * 3)
      have f1 := (blk h7).2.2 (i * 3 + 1)
      have f2 := (blk h7).2.2 (i * 3 + 2)
      have HR5 := hide (And.intro hR5 hI5)
      clear hb5 hI5 hbA2 hsA2 hhA2 hbr5 hR5 h7 h8 hd0 hd1 hd2 q0 q1 HRd HEA HA
      cases hz : readR l.1 l.2 with
      | none =>
        go_wp2
        go_ret2
        obtain ⟨hR5, _⟩ := unhide HR5
        have hnone : readL ls = none := allO_bad (unhide HLI) hz
        refine ⟨none, 0, 0, by rw [hnone]; rfl, ?_, fun rs h => by rw [hnone] at h; cases h⟩
        exact ((((PutAt.refl w.heap.size w5).set (i * 3) _).set (i * 3 + 1) _).set (i * 3 + 2) _).below hR5.1 (Nat.le_refl _)
      | some r =>
        go_wp2
        obtain ⟨hR5, hI5⟩ := unhide HR5
        refine ⟨⟨i + 1, by omega, by simp, hR5.put hi (Nat.le_refl _) (unhide HLI) hz (hI5 r.1 r.2 hz)⟩, ?_⟩
        simp [intOf]
        omega
    · have gi : decide ((i : Int) < (n : Int)) = false := by simp; omega
      have g1 : ¬ ((i : Int) < (n : Int)) := by omega
      obtain rfl : i = n := by omega
      have HRI := hide hR
      clear hR hi hi0
      go_wp2
      go_ret2
      obtain ⟨h1, cs, h7, h8, h9, rs, h10, h11, h12⟩ := unhide HRI
      obtain ⟨hL, hnl, hB, hC⟩ := unhide HC
      have hall : readL ls = some rs := by rw [hnl, List.take_length] at h10; exact h10
      refine ⟨_, _, _, by rw [hall]; rfl, h1, fun rs' h => ?_⟩
      rw [hall] at h
      injection h with h
      subst h
      refine ⟨h11.symm, ⟨rfl, w.heap.size, cs, rfl, Nat.le_refl _, h7, h8, h9⟩, Nat.le_refl _, by omega, fun _ => ⟨w.heap.size, 0, rfl, (Array.getElem?_eq_some_iff.1 h7).1, fun j hj => ?_⟩⟩
      rw [Nat.zero_add]
      exact h12 j
end Go.Proofs.YthgdmppmjnmiiaaGreatDoor

namespace Go.Proofs.YthgdmppmjnmiiaaGreatDoor
open Go Go.RowKit Go.Maps
open _root_.Go.Proofs.YthgdmppmjnmiiaaGreatDoor.Nm (IsI pw)
/-- An element of a map, read as it stands. -/
def R0 : Value → Option (DataW Value × List MemPlace) := fun v => some (.held v, [])
def zI : Value := .agg #[.int .i64 0, .slice none 0 0]
def kl (s : ByteArray) : Lit := .string s.data.toList
/-- A map by names says how many times each is there. -/
def MF (w : World) (D : DataW Value) (f : ByteArray → Int) : Prop := ∀ s : ByteArray, s.size ≤ maxLen → ∃ v, D.atKey (kl s) (.held zI) = .held v ∧ IsB w w.heap.size v (f s) ∧ (Maps.has D (kl s) = true ↔ f s ≠ 0)
theorem str_keyed : Keyed Tryz.prog 9 := string_keyed Tryz.underlying9
theorem kl_inj {s t : ByteArray} (h : kl s = kl t) : s = t := by
  unfold kl at h
  injection h with h
  exact WideShapes.bytes_inj h
theorem kl_key (s : ByteArray) : WideAt.IsKeyLit (kl s) := by
  unfold kl
  exact trivial
theorem MF.keep {w w' : World} {D : DataW Value} {f : ByteArray → Int} (h : MF w D f) (hw : ∀ b, b < w.heap.size → (∃ o u, w.cell? ⟨b, o, none⟩ = some u ∧ Str u) → w'.heap[b]? = w.heap[b]? ∧ b < w'.heap.size ∧ b < w'.heap.size) : MF w' D f := fun s hs => by
  obtain ⟨v, h1, h2, h3⟩ := h s hs
  exact ⟨v, h1, h2.keepS hw, h3⟩
theorem MF.more {w w' : World} {D : DataW Value} {f : ByteArray → Int} (h : MF w D f) (hw : Below w.heap.size w w') : MF w' D f := h.keep fun b hb _ => ⟨hw.block b hb, Nat.lt_of_lt_of_le hb hw.size, Nat.lt_of_lt_of_le hb hw.size⟩
theorem MF.new (w : World) : MF w (.map []) (fun _ => 0) := fun s hs => ⟨zI, by rw [atKey_of_not_has (by rfl)], IsB.small _ _ (by decide) (by decide), by simp [Maps.has]⟩
/-- A name's number is another one. -/
def fput (f : ByteArray → Int) (s : ByteArray) (z : Int) : ByteArray → Int := fun t => if t = s then z else f t
theorem MF.put {w : World} {D : DataW Value} {f : ByteArray → Int} (h : MF w D f) (hD : IsMap D) {s : ByteArray} {v : Value} {z : Int} (hv : IsB w w.heap.size v z) (hz : z ≠ 0) : MF w (D.put (kl s) (.held v)) (fput f s z) := fun t ht => by
  unfold fput
  by_cases e : t = s
  · subst e
    rw [if_pos rfl]
    exact ⟨v, atKey_put_same hD (kl_key _) _ _, hv, by rw [has_put_same hD (kl_key _)]; simp [hz]⟩
  · rw [if_neg e]
    have hne : kl t ≠ kl s := fun h => e (kl_inj h)
    obtain ⟨u, h1, h2, h3⟩ := h t ht
    exact ⟨u, by rw [atKey_put_other hne]; exact h1, h2, by rw [has_put_other hne]; exact h3⟩
theorem MF.del {w : World} {D : DataW Value} {f : ByteArray → Int} (h : MF w D f) {s : ByteArray} : MF w (D.del (kl s)) (fput f s 0) := fun t ht => by
  unfold fput
  by_cases e : t = s
  · subst e
    rw [if_pos rfl]
    exact ⟨zI, atKey_del_same _, IsB.small _ _ (by decide) (by decide), by rw [has_del_same]; simp⟩
  · rw [if_neg e]
    have hne : kl t ≠ kl s := fun h => e (kl_inj h)
    obtain ⟨u, h1, h2, h3⟩ := h t ht
    refine ⟨u, by rw [atKey_del_other hne]; exact h1, h2, ?_⟩
    rw [has_del_other hne]
    exact h3
/-- All stands but two blocks. -/
structure Fr (r m : Nat) (w w' : World) : Prop where
  os : w'.os = w.os
  tape : w'.tape = w.tape
  output : w'.output = w.output
  size : w.heap.size ≤ w'.heap.size
  block : ∀ k, k < w.heap.size → k ≠ r → k ≠ m → w'.heap[k]? = w.heap[k]?
theorem Fr.refl (r m : Nat) (w : World) : Fr r m w w := ⟨rfl, rfl, rfl, Nat.le_refl _, fun _ _ _ _ => rfl⟩
theorem Fr.trans {r m : Nat} {a b c : World} (h : Fr r m a b) (k : Fr r m b c) : Fr r m a c :=
  ⟨k.os.trans h.os, k.tape.trans h.tape, k.output.trans h.output, Nat.le_trans h.size k.size, fun j hj h1 h2 => (k.block j (Nat.lt_of_lt_of_le hj h.size) h1 h2).trans (h.block j hj h1 h2)⟩
theorem Fr.of {r m B : Nat} {w w' : World} (h : Below B w w') (hB : w.heap.size ≤ B) : Fr r m w w' := ⟨h.os, h.tape, h.output, h.size, fun k hk _ _ => h.block k (Nat.lt_of_lt_of_le hk hB)⟩
theorem Fr.put {r m q : Nat} {w w' : World} (h : PutAt q w w') (hq : q = r ∨ q = m ∨ w.heap.size ≤ q) : Fr r m w w' := ⟨h.os, h.tape, h.output, Nat.le_of_eq h.size.symm, fun k hk h1 h2 => h.block k (by omega)⟩
theorem Fr.below {r m B : Nat} {w w' : World} (h : Fr r m w w') (hr : B ≤ r) (hm : B ≤ m) (hB : B ≤ w.heap.size) : Below B w w' := ⟨h.os, h.tape, h.output, h.size, fun k hk => h.block k (by omega) (by omega) (by omega)⟩
theorem Fr.cell {r m : Nat} {w w' : World} (h : Fr r m w w') {b o : Nat} (hb : b < w.heap.size) (h1 : b ≠ r) (h2 : b ≠ m) : w'.cell? ⟨b, o, none⟩ = w.cell? ⟨b, o, none⟩ := World.cell?_of_block (w := w) (h.block b hb h1 h2)
theorem turned_put {w w' : World} {b : Nat} (h : w.mapTurned w' b) : PutAt b w w' := by
  obtain ⟨es, c, es', c', hb, rfl⟩ := h
  exact (put_obj (w := w) (.map es' c') (Array.getElem?_eq_some_iff.1 hb).1).1
theorem infInt : (Tryz.prog.info? 49).map (fun i => (i.zero, i.size, i.bytes)) = some (some (.agg #[.int .i64 0, .slice none 0 0]), 2, 32) := by kernel_rfl
/-- A sum in memory. -/
def SumAt (w : World) (r mb n : Nat) (f : ByteArray → Int) (k : Int) : Prop := ∃ D i a l c, w.heap[r]? = some (.cells #[.map (some mb), .int .i64 i, .slice a l c] 51) ∧ w.ownsMap Tryz.prog 9 R0 mb n D ∧ MF w D f ∧ IsB w w.heap.size (.agg #[.int .i64 i, .slice a l c]) k
theorem SumAt.more {w w' : World} {r mb n : Nat} {f : ByteArray → Int} {k : Int} (h : SumAt w r mb n f k) (hb : Below w.heap.size w w') : SumAt w' r mb n f k := by
  obtain ⟨D, i, a, l, c, h1, h2, h3, h4⟩ := h
  refine ⟨D, i, a, l, c, (hb.block r (Array.getElem?_eq_some_iff.1 h1).1).trans h1, ?_, h3.more hb, h4.more hb hb.size⟩
  obtain ⟨es, cl, hm, F, hs, hD⟩ := h2
  exact ⟨es, cl, (hb.block mb (Array.getElem?_eq_some_iff.1 hm).1).trans hm, F, hs, hD⟩
theorem map_no_cell {w : World} {mb : Nat} {es : Array MapEntry} {c : Nat} (h : w.heap[mb]? = some (.map es c)) (o : Nat) : w.cell? ⟨mb, o, none⟩ = none := by
  simp only [World.cell?, h]
def fadd (f : ByteArray → Int) (ps : List (ByteArray × Int)) (t : Int) : ByteArray → Int := ps.foldl (fun g p => fput g p.1 (g p.1 + p.2 * t)) f
theorem key_str {s : ByteArray} (hs : s.size ≤ maxLen) : keyOf Tryz.prog 9 (.string s) = some (kl s) := by
  simp [keyOf, mapKey, Tryz.underlying9, hs, kl]
theorem zero_I (w : World) : (zeroValue 49).run Tryz.prog w = .ok zI w := by
  obtain ⟨i, hi, hz, _⟩ := inf_of infInt
  simp [zeroValue, typeInfo, hi, hz, zI]
theorem lookup_sum {w : World} {r mb n : Nat} {f : ByteArray → Int} {k : Int} (h : SumAt w r mb n f k) {s : ByteArray} (hs : s.size ≤ maxLen) : ∃ v, (Instr.lookup 46 (.map (some mb)) (.string s) false).run Tryz.prog w = .ok v w ∧ IsB w w.heap.size v (f s) ∧ ∀ w', Below w.heap.size w w' → (Instr.lookup 46 (.map (some mb)) (.string s) false).run Tryz.prog w' = .ok v w' := by
  obtain ⟨D, i, a, l, c, h1, h2, h3, h4⟩ := h
  have hz : ∀ w : World, (zeroValue 49).run Tryz.prog w = .ok zI w := zero_I
  obtain ⟨v, hv1, hv2, hv3⟩ := h3 s hs
  have go : ∀ w' : World, w'.ownsMap Tryz.prog 9 R0 mb n D → (Instr.lookup 46 (.map (some mb)) (.string s) false).run Tryz.prog w' = .ok v w' := fun w' ho => by
    obtain ⟨u, ps, hr, hu⟩ := ho.lookup str_keyed Tryz.underlying46 (hz w') (zd := .held zI) (zp := []) rfl (key_str hs)
    have : u = v := by
      unfold R0 at hu
      rw [hv1] at hu
      simp at hu
      exact hu.1
    rw [this] at hr
    exact hr
  refine ⟨v, go w h2, hv2, fun w' hb => go w' ?_⟩
  obtain ⟨es, cl, hm, F, hs, hD⟩ := h2
  exact ⟨es, cl, (hb.block mb (Array.getElem?_eq_some_iff.1 hm).1).trans hm, F, hs, hD⟩
end Go.Proofs.YthgdmppmjnmiiaaGreatDoor
