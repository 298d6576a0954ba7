/- Package parse: the drawn regions with a name. -/
import Derived.Test.YtfkfnbehdcmgeaaGreatDoorZAG
set_option linter.unusedVariables false
set_option linter.unusedSimpArgs false

/- Package parse: the drawn regions of unary. -/
namespace Go.Proofs.YtfkfnbehdcmgeaaGreatDoor
open Go Go.RowKit
def stunary_r3 (W : World) (r : Nat) (ts : List (Int × ByteArray × Int)) (p d q6 : Nat) (X : (Except (Int × Int) (Ex × Nat))) (ai : Int) (T : ByteArray) (n : Nat) (s : Nat → Value) (w : World) : Prop := match n with
  | 0 => w = W.drew
  | 1 => ∃ t q, X = .ok (t, q) ∧ But r W w ∧ RD w r ts q d ∧ p ≤ q ∧ IsE w W.heap.size (s 2) t
  | 2 => ∃ t q b, X = .ok (t, q) ∧ s 3 = .slice (some ⟨b, 0, none⟩) 1 1 ∧ But r W w ∧ RD w r ts q d ∧ p ≤ q ∧ IsE w W.heap.size (.agg #[.int .i64 7, .string ⟨#[]⟩, .string ⟨#[]⟩, .bool false, .slice (some ⟨b, 0, none⟩) 1 1, .int .i64 0, .int .i64 ai]) (.mk 7 ⟨#[]⟩ ⟨#[]⟩ false [t] ai)
  | 3 => ∃ t q b, X = .ok (t, q) ∧ s 4 = .agg #[.int .i64 7, .string ⟨#[]⟩, .string ⟨#[]⟩, .bool false, .slice (some ⟨b, 0, none⟩) 1 1, .int .i64 0, .int .i64 ai] ∧ But r W w ∧ RD w r ts q d ∧ p ≤ q ∧ IsE w W.heap.size (.agg #[.int .i64 7, .string ⟨#[]⟩, .string ⟨#[]⟩, .bool false, .slice (some ⟨b, 0, none⟩) 1 1, .int .i64 0, .int .i64 ai]) (.mk 7 ⟨#[]⟩ ⟨#[]⟩ false [t] ai)
  | _ => ∃ t q b W2, X = .ok (t, q) ∧ But r W W2 ∧ RD W2 r ts q d ∧ p ≤ q ∧ IsE W2 W.heap.size (.agg #[.int .i64 7, .string ⟨#[]⟩, .string ⟨#[]⟩, .bool false, .slice (some ⟨b, 0, none⟩) 1 1, .int .i64 0, .int .i64 ai]) (.mk 7 ⟨#[]⟩ ⟨#[]⟩ false [t] ai) ∧ w = set7 W2 q6 (.int .i64 7) (.string ⟨#[]⟩) (.string ⟨#[]⟩) (.bool false) (.slice (some ⟨b, 0, none⟩) 1 1) (.int .i64 0) (.int .i64 ai)
theorem stunary_r3_at {W : World} {r p d q6 : Nat} {ts : List (Int × ByteArray × Int)} {X : (Except (Int × Int) (Ex × Nat))} {ai : Int} {T : ByteArray} {n : Nat} {s : Nat → Value} {w : World} (h : stunary_r3 W r ts p d q6 X ai T n s w) : ∀ q, q < W.heap.size → q ≠ q6 → r ≠ q → w.heap[q]? = W.heap[q]? := by
  intro q3 hq hne hr
  rcases n with _ | _ | _ | _ | n
  · obtain rfl : w = W.drew := h
    rfl
  · obtain ⟨t, q, -, hb, -⟩ := h
    exact hb.block q3 hq (Ne.symm hr)
  · obtain ⟨t, q, b, -, -, hb, -⟩ := h
    exact hb.block q3 hq (Ne.symm hr)
  · obtain ⟨t, q, b, -, -, hb, -⟩ := h
    exact hb.block q3 hq (Ne.symm hr)
  · obtain ⟨t, q, b, W2, -, hb, -, -, -, rfl⟩ := h
    unfold set7
    rw [same7 hne]
    exact hb.block q3 hq (Ne.symm hr)
set_option maxRecDepth 100000 in
set_option maxHeartbeats 4000000 in
theorem unary_r3 {Q : Exit → Act → World → Prop} {a0 : Act} {W : World} {r p d q3 q6 : Nat} {ts : List (Int × ByteArray × Int)} {X : (Except (Int × Int) (Ex × Nat))} {kk ai : Int} {T : ByteArray} (hN : a0.tmps.size = 40) (h0 : a0.tmps[0]? = some (.pointer (some ⟨r, 0, none⟩))) (h2 : a0.tmps[2]? = some (.pointer (some ⟨q6, 0, none⟩))) (h3 : a0.tmps[3]? = some (.pointer (some ⟨q3, 0, none⟩)))
    (b3 : W.heap[q3]? = some (.cells #[.int .i64 kk, .string T, .int .i64 ai] 74)) (z6 : ZB W q6) (n1 : r ≠ q3) (n2 : r ≠ q6) (n3 : q3 ≠ q6) (hC : Calls Tryz.prog 127 #[.pointer (some ⟨r, 0, none⟩)] W.drew (PE X r ts p d W.drew))
    (herr : ∀ (a : Act) (w : World) (ei en : Int), X = .error (ei, en) → a.defers = a0.defers → But r W w → Q (.panic [{ v := .iface 89 (.agg #[.int .i64 ei, .int .i64 en]), recovered := false }]) a w)
    (hend : ∀ (a : Act) (W2 : World) (t : Ex) (q b : Nat), X = .ok (t, q) → a.defers = a0.defers → (∀ k, k ∈ ((List.range 40).filter fun i => !([9, 10, 11, 12, 13].contains i)) → a.tmps[k]? = a0.tmps[k]?) → But r W W2 → RD W2 r ts q d → p ≤ q → IsE W2 W.heap.size (.agg #[.int .i64 7, .string ⟨#[]⟩, .string ⟨#[]⟩, .bool false, .slice (some ⟨b, 0, none⟩) 1 1, .int .i64 0, .int .i64 ai]) (.mk 7 ⟨#[]⟩ ⟨#[]⟩ false [t] ai) → Q .normal a (set7 W2 q6 (.int .i64 7) (.string ⟨#[]⟩) (.string ⟨#[]⟩) (.bool false) (.slice (some ⟨b, 0, none⟩) 1 1) (.int .i64 0) (.int .i64 ai))) :
    (Code.region 3 (regionOf Tryz.f126 3).toArray true).wp Tryz.prog Q a0 W := by
  have hl : (regionOf Tryz.f126 3).length = 6 := by kernel_rfl
  have hds : ((List.range 5).all fun i => ((regionOf Tryz.f126 3).getD i default).dst.isSome) = true := by kernel_rfl
  have bx : ∀ {n : Nat} {s : Nat → Value} {w : World}, stunary_r3 W r ts p d q6 X ai T n s w → w.heap[q3]? = some (.cells #[.int .i64 kk, .string T, .int .i64 ai] 74) := fun h => (stunary_r3_at h q3 (blk b3).1 n3 n1).trans b3
  have hk3 : 3 ∈ ((List.range 40).filter fun i => !([9, 10, 11, 12, 13].contains i)) := by decide
  have hk2 : 2 ∈ ((List.range 40).filter fun i => !([9, 10, 11, 12, 13].contains i)) := by decide
  have hk0 : 0 ∈ ((List.range 40).filter fun i => !([9, 10, 11, 12, 13].contains i)) := by decide
  refine wp_region_any (by kernel_rfl) ?_
  refine seqN (l := (regionOf Tryz.f126 3)) 40 ((List.range 40).filter fun i => !([9, 10, 11, 12, 13].contains i)) [2, 3, 4, 5] (fun j v => (j = 0 → v = .agg #[.int .i64 kk, .string T, .int .i64 ai]) ∧ (j = 1 → v = .pointer (some ⟨r, 0, none⟩))) (stunary_r3 W r ts p d q6 X ai T) (by kernel_rfl) hN (by decide) (by rw [hl]; decide) ?_ ?_ ?_ rfl ?_ ?_ ?_
  · intro k hk
    have hk3 : k = 0 ∨ k = 1 ∨ k = 2 := by simp at hk; omega
    rcases hk3 with rfl | rfl | rfl
    · show (preds ((regionOf Tryz.f126 3).getD 3 default)).contains 2 = true
      kernel_rfl
    · show (preds ((regionOf Tryz.f126 3).getD 4 default)).contains 3 = true
      kernel_rfl
    · show (preds ((regionOf Tryz.f126 3).getD 5 default)).contains 4 = true
      kernel_rfl
  · intro i o ho hd
    have hi : i < 6 := by rw [← hl]; exact (List.getElem?_eq_some_iff.1 ho).1
    have he : (regionOf Tryz.f126 3).getD i default = o := by simp [List.getD, ho]
    rcases Nat.lt_or_ge i 5 with h | h
    · have := List.all_eq_true.1 hds i (List.mem_range.2 h)
      rw [he, hd] at this
      cases this
    · obtain rfl : i = 5 := by omega
      exact ⟨by decide, fun v => ⟨(fun h => absurd h (by decide)), (fun h => absurd h (by decide))⟩⟩
  · intro n s s' w h hs
    have e1 : s 2 = s' 2 := h 0 (by decide) (by kernel_rfl)
    have e2 : s 3 = s' 3 := h 1 (by decide) (by kernel_rfl)
    have e3 : s 4 = s' 4 := h 2 (by decide) (by kernel_rfl)
    rcases n with _ | _ | _ | _ | n
    · exact hs
    · obtain ⟨t, q, g1, g2, g3, g4, g5⟩ := hs
      exact ⟨t, q, g1, g2, g3, g4, e1 ▸ g5⟩
    · obtain ⟨t, q, b, g1, g2, g3⟩ := hs
      exact ⟨t, q, b, g1, e2 ▸ g2, g3⟩
    · obtain ⟨t, q, b, g1, g2, g3⟩ := hs
      exact ⟨t, q, b, g1, e3 ▸ g2, g3⟩
    · exact hs
  · intro i hi hni a w n s hd hsz hk hp hn hs
    rw [hl] at hi
    have hii : i = 0 ∨ i = 1 := by simp at hni; omega
    have ke3 : a.eval (.tmp 3) = .pointer (some ⟨q3, 0, none⟩) := getD_of ((hk 3 hk3).trans h3)
    have ke0 : a.eval (.tmp 0) = .pointer (some ⟨r, 0, none⟩) := getD_of ((hk 0 hk0).trans h0)
    have cc := bx hs
    rcases hii with rfl | rfl
    · exact st_want (wnone rfl) (op_load ke3 (ld_Tok cc) ⟨_, rfl, rfl, ⟨fun _ => rfl, (fun h => absurd h (by decide))⟩⟩)
    · exact st_want (wnone rfl) (op_move ⟨_, rfl, rfl, ⟨(fun h => absurd h (by decide)), fun _ => ke0⟩⟩)
  · intro k hk a w hd hsz hkp hp hs
    have hk4 : k = 0 ∨ k = 1 ∨ k = 2 ∨ k = 3 := by simp at hk; omega
    have ke2 : a.tmps.getD 2 undef = .pointer (some ⟨q6, 0, none⟩) := getD_of ((hkp 2 hk2).trans h2)
    rcases hk4 with rfl | rfl | rfl | rfl
    · obtain rfl : w = W.drew := hs
      have e1 : a.tmps.getD 10 undef = .pointer (some ⟨r, 0, none⟩) := (hp 1 (by kernel_rfl)).2 rfl
      refine st_want (wnone rfl) (op_callP enter_unb ?_)
      have hargs : (#[Operand.tmp 10]).map a.eval = #[.pointer (some ⟨r, 0, none⟩)] := by
        simp only [List.map_toArray, List.map_cons, List.map_nil, Act.eval]
        rw [e1]
      rw [hargs]
      refine hC.mono ?_
      intro e w' h'
      rcases hX : X with er | ⟨t, q⟩
      · rw [hX] at h'
        obtain ⟨ei, en⟩ := er
        obtain ⟨hb, h'⟩ := h'
        obtain rfl : e = _ := h'
        exact .inr ⟨_, rfl, herr a w' ei en hX hd ((But.of ((Below.refl _ W).drew)).trans hb)⟩
      · rw [hX] at h'
        obtain ⟨hb, hle, hR, v, rfl, hv⟩ := h'
        exact .inl ⟨v, rfl, v, rfl, (fun _ => ⟨(fun h => absurd h (by decide)), (fun h => absurd h (by decide))⟩), t, q, (by first | rfl | exact hX), ((But.of ((Below.refl _ W).drew)).trans hb), hR, hle, hv⟩
    · obtain ⟨t, q, hX, hb, hR, hle, hv⟩ := hs
      have hv' : IsE w W.heap.size (a.tmps.getD 11 undef) t := hv
      obtain ⟨i0, i6, s1, s2, b3, a4, n4, c4, e1⟩ := hv'.form
      rw [e1] at hv'
      have hnode := node (w := w) (lo := W.heap.size) (l := [t]) (vs := [[.int .i64 i0, .string s1, .string s2, .bool b3, .slice a4 n4 c4, .int .i64 0, .int .i64 i6]]) (cs := #[.int .i64 i0, .string s1, .string s2, .bool b3, .slice a4 n4 c4, .int .i64 0, .int .i64 i6]) (ty := 36) 7 ai ⟨#[]⟩ ⟨#[]⟩ false rfl rfl (by simp) rfl (by simp) hb.size (fun j v t' hv ht => by
        rcases j with _ | j
        · obtain rfl := Option.some.inj hv
          obtain rfl := Option.some.inj ht
          exact hv'
        · simp at hv)
      have hB : Below w.heap.size w (w.alloc (.cells #[.int .i64 i0, .string s1, .string s2, .bool b3, .slice a4 n4 c4, .int .i64 0, .int .i64 i6] 36)) := (Below.refl _ w).alloc (Nat.le_refl _) _
      exact st_want (wnone rfl) (op_bs1E e1 ⟨_, rfl, (fun _ => ⟨(fun h => absurd h (by decide)), (fun h => absurd h (by decide))⟩), t, q, w.heap.size, hX, rfl, hb.trans (But.of hB), hR.keep hB, hle, hnode⟩)
    · obtain ⟨t, q, b, hX, hsl, hb, hR, hle, hv⟩ := hs
      have e1 : a.tmps.getD 9 undef = .agg #[.int .i64 kk, .string T, .int .i64 ai] := (hp 0 (by kernel_rfl)).1 rfl
      have e2 : a.tmps.getD 12 undef = .slice (some ⟨b, 0, none⟩) 1 1 := hsl
      refine st_want (wnone rfl) (op_call enter_made ?_)
      have hargs : (#[Operand.const (.int .i64 7), .tmp 9, .tmp 12]).map a.eval = #[.int .i64 7, .agg #[.int .i64 kk, .string T, .int .i64 ai], .slice (some ⟨b, 0, none⟩) 1 1] := by
        simp only [List.map_toArray, List.map_cons, List.map_nil, Act.eval]
        rw [e1, e2]
      rw [hargs]
      refine (made_any _ _ _ _ _ _ _ _).mono ?_
      rintro ex w' ⟨rfl, hbw⟩
      exact ⟨_, rfl, _, rfl, (fun _ => ⟨(fun h => absurd h (by decide)), (fun h => absurd h (by decide))⟩), t, q, b, hX, rfl, hb.trans (But.of hbw), hR.keep hbw, hle, hv.keep (Stays.of hbw) (Nat.le_refl _)⟩
    · obtain ⟨t, q, b, hX, hnd, hb, hR, hle, hv⟩ := hs
      have e2 : a.tmps.getD 13 undef = .agg #[.int .i64 7, .string ⟨#[]⟩, .string ⟨#[]⟩, .bool false, .slice (some ⟨b, 0, none⟩) 1 1, .int .i64 0, .int .i64 ai] := hnd
      have hz : ZB w q6 := (hb.block q6 (blk z6).1 (Ne.symm n2)).trans z6
      exact st_want (wnone rfl) (op_stE ke2 e2 hz ⟨undef, rfl, (fun h => absurd (show false = true from h) (by decide)), t, q, b, w, hX, hb, hR, hle, hv, rfl⟩)
  · intro a w hd hsz hk hp hs
    obtain ⟨t, q, b, W2, hX, hb, hR, hle, hv, rfl⟩ := hs
    exact hend a W2 t q b hX hd hk hb hR hle hv
def stunary_r5 (W : World) (r : Nat) (ts : List (Int × ByteArray × Int)) (p d q6 : Nat) (X : (Except (Int × Int) (Ex × Nat))) (ai : Int) (T : ByteArray) (n : Nat) (s : Nat → Value) (w : World) : Prop := match n with
  | 0 => w = W.drew
  | 1 => ∃ t q, X = .ok (t, q) ∧ But r W w ∧ RD w r ts q d ∧ p ≤ q ∧ IsE w W.heap.size (s 2) t
  | 2 => ∃ t q b, X = .ok (t, q) ∧ s 3 = .slice (some ⟨b, 0, none⟩) 1 1 ∧ But r W w ∧ RD w r ts q d ∧ p ≤ q ∧ IsE w W.heap.size (.agg #[.int .i64 8, .string ⟨#[]⟩, .string ⟨#[]⟩, .bool false, .slice (some ⟨b, 0, none⟩) 1 1, .int .i64 0, .int .i64 ai]) (.mk 8 ⟨#[]⟩ ⟨#[]⟩ false [t] ai)
  | 3 => ∃ t q b, X = .ok (t, q) ∧ s 4 = .agg #[.int .i64 8, .string ⟨#[]⟩, .string ⟨#[]⟩, .bool false, .slice (some ⟨b, 0, none⟩) 1 1, .int .i64 0, .int .i64 ai] ∧ But r W w ∧ RD w r ts q d ∧ p ≤ q ∧ IsE w W.heap.size (.agg #[.int .i64 8, .string ⟨#[]⟩, .string ⟨#[]⟩, .bool false, .slice (some ⟨b, 0, none⟩) 1 1, .int .i64 0, .int .i64 ai]) (.mk 8 ⟨#[]⟩ ⟨#[]⟩ false [t] ai)
  | _ => ∃ t q b W2, X = .ok (t, q) ∧ But r W W2 ∧ RD W2 r ts q d ∧ p ≤ q ∧ IsE W2 W.heap.size (.agg #[.int .i64 8, .string ⟨#[]⟩, .string ⟨#[]⟩, .bool false, .slice (some ⟨b, 0, none⟩) 1 1, .int .i64 0, .int .i64 ai]) (.mk 8 ⟨#[]⟩ ⟨#[]⟩ false [t] ai) ∧ w = set7 W2 q6 (.int .i64 8) (.string ⟨#[]⟩) (.string ⟨#[]⟩) (.bool false) (.slice (some ⟨b, 0, none⟩) 1 1) (.int .i64 0) (.int .i64 ai)
theorem stunary_r5_at {W : World} {r p d q6 : Nat} {ts : List (Int × ByteArray × Int)} {X : (Except (Int × Int) (Ex × Nat))} {ai : Int} {T : ByteArray} {n : Nat} {s : Nat → Value} {w : World} (h : stunary_r5 W r ts p d q6 X ai T n s w) : ∀ q, q < W.heap.size → q ≠ q6 → r ≠ q → w.heap[q]? = W.heap[q]? := by
  intro q3 hq hne hr
  rcases n with _ | _ | _ | _ | n
  · obtain rfl : w = W.drew := h
    rfl
  · obtain ⟨t, q, -, hb, -⟩ := h
    exact hb.block q3 hq (Ne.symm hr)
  · obtain ⟨t, q, b, -, -, hb, -⟩ := h
    exact hb.block q3 hq (Ne.symm hr)
  · obtain ⟨t, q, b, -, -, hb, -⟩ := h
    exact hb.block q3 hq (Ne.symm hr)
  · obtain ⟨t, q, b, W2, -, hb, -, -, -, rfl⟩ := h
    unfold set7
    rw [same7 hne]
    exact hb.block q3 hq (Ne.symm hr)
set_option maxRecDepth 100000 in
set_option maxHeartbeats 4000000 in
theorem unary_r5 {Q : Exit → Act → World → Prop} {a0 : Act} {W : World} {r p d q3 q6 : Nat} {ts : List (Int × ByteArray × Int)} {X : (Except (Int × Int) (Ex × Nat))} {kk ai : Int} {T : ByteArray} (hN : a0.tmps.size = 40) (h0 : a0.tmps[0]? = some (.pointer (some ⟨r, 0, none⟩))) (h2 : a0.tmps[2]? = some (.pointer (some ⟨q6, 0, none⟩))) (h3 : a0.tmps[3]? = some (.pointer (some ⟨q3, 0, none⟩)))
    (b3 : W.heap[q3]? = some (.cells #[.int .i64 kk, .string T, .int .i64 ai] 74)) (z6 : ZB W q6) (n1 : r ≠ q3) (n2 : r ≠ q6) (n3 : q3 ≠ q6) (hC : Calls Tryz.prog 127 #[.pointer (some ⟨r, 0, none⟩)] W.drew (PE X r ts p d W.drew))
    (herr : ∀ (a : Act) (w : World) (ei en : Int), X = .error (ei, en) → a.defers = a0.defers → But r W w → Q (.panic [{ v := .iface 89 (.agg #[.int .i64 ei, .int .i64 en]), recovered := false }]) a w)
    (hend : ∀ (a : Act) (W2 : World) (t : Ex) (q b : Nat), X = .ok (t, q) → a.defers = a0.defers → (∀ k, k ∈ ((List.range 40).filter fun i => !([17, 18, 19, 20, 21].contains i)) → a.tmps[k]? = a0.tmps[k]?) → But r W W2 → RD W2 r ts q d → p ≤ q → IsE W2 W.heap.size (.agg #[.int .i64 8, .string ⟨#[]⟩, .string ⟨#[]⟩, .bool false, .slice (some ⟨b, 0, none⟩) 1 1, .int .i64 0, .int .i64 ai]) (.mk 8 ⟨#[]⟩ ⟨#[]⟩ false [t] ai) → Q .normal a (set7 W2 q6 (.int .i64 8) (.string ⟨#[]⟩) (.string ⟨#[]⟩) (.bool false) (.slice (some ⟨b, 0, none⟩) 1 1) (.int .i64 0) (.int .i64 ai))) :
    (Code.region 5 (regionOf Tryz.f126 5).toArray true).wp Tryz.prog Q a0 W := by
  have hl : (regionOf Tryz.f126 5).length = 6 := by kernel_rfl
  have hds : ((List.range 5).all fun i => ((regionOf Tryz.f126 5).getD i default).dst.isSome) = true := by kernel_rfl
  have bx : ∀ {n : Nat} {s : Nat → Value} {w : World}, stunary_r5 W r ts p d q6 X ai T n s w → w.heap[q3]? = some (.cells #[.int .i64 kk, .string T, .int .i64 ai] 74) := fun h => (stunary_r5_at h q3 (blk b3).1 n3 n1).trans b3
  have hk3 : 3 ∈ ((List.range 40).filter fun i => !([17, 18, 19, 20, 21].contains i)) := by decide
  have hk2 : 2 ∈ ((List.range 40).filter fun i => !([17, 18, 19, 20, 21].contains i)) := by decide
  have hk0 : 0 ∈ ((List.range 40).filter fun i => !([17, 18, 19, 20, 21].contains i)) := by decide
  refine wp_region_any (by kernel_rfl) ?_
  refine seqN (l := (regionOf Tryz.f126 5)) 40 ((List.range 40).filter fun i => !([17, 18, 19, 20, 21].contains i)) [2, 3, 4, 5] (fun j v => (j = 0 → v = .agg #[.int .i64 kk, .string T, .int .i64 ai]) ∧ (j = 1 → v = .pointer (some ⟨r, 0, none⟩))) (stunary_r5 W r ts p d q6 X ai T) (by kernel_rfl) hN (by decide) (by rw [hl]; decide) ?_ ?_ ?_ rfl ?_ ?_ ?_
  · intro k hk
    have hk3 : k = 0 ∨ k = 1 ∨ k = 2 := by simp at hk; omega
    rcases hk3 with rfl | rfl | rfl
    · show (preds ((regionOf Tryz.f126 5).getD 3 default)).contains 2 = true
      kernel_rfl
    · show (preds ((regionOf Tryz.f126 5).getD 4 default)).contains 3 = true
      kernel_rfl
    · show (preds ((regionOf Tryz.f126 5).getD 5 default)).contains 4 = true
      kernel_rfl
  · intro i o ho hd
    have hi : i < 6 := by rw [← hl]; exact (List.getElem?_eq_some_iff.1 ho).1
    have he : (regionOf Tryz.f126 5).getD i default = o := by simp [List.getD, ho]
    rcases Nat.lt_or_ge i 5 with h | h
    · have := List.all_eq_true.1 hds i (List.mem_range.2 h)
      rw [he, hd] at this
      cases this
    · obtain rfl : i = 5 := by omega
      exact ⟨by decide, fun v => ⟨(fun h => absurd h (by decide)), (fun h => absurd h (by decide))⟩⟩
  · intro n s s' w h hs
    have e1 : s 2 = s' 2 := h 0 (by decide) (by kernel_rfl)
    have e2 : s 3 = s' 3 := h 1 (by decide) (by kernel_rfl)
    have e3 : s 4 = s' 4 := h 2 (by decide) (by kernel_rfl)
    rcases n with _ | _ | _ | _ | n
    · exact hs
    · obtain ⟨t, q, g1, g2, g3, g4, g5⟩ := hs
      exact ⟨t, q, g1, g2, g3, g4, e1 ▸ g5⟩
    · obtain ⟨t, q, b, g1, g2, g3⟩ := hs
      exact ⟨t, q, b, g1, e2 ▸ g2, g3⟩
    · obtain ⟨t, q, b, g1, g2, g3⟩ := hs
      exact ⟨t, q, b, g1, e3 ▸ g2, g3⟩
    · exact hs
  · intro i hi hni a w n s hd hsz hk hp hn hs
    rw [hl] at hi
    have hii : i = 0 ∨ i = 1 := by simp at hni; omega
    have ke3 : a.eval (.tmp 3) = .pointer (some ⟨q3, 0, none⟩) := getD_of ((hk 3 hk3).trans h3)
    have ke0 : a.eval (.tmp 0) = .pointer (some ⟨r, 0, none⟩) := getD_of ((hk 0 hk0).trans h0)
    have cc := bx hs
    rcases hii with rfl | rfl
    · exact st_want (wnone rfl) (op_load ke3 (ld_Tok cc) ⟨_, rfl, rfl, ⟨fun _ => rfl, (fun h => absurd h (by decide))⟩⟩)
    · exact st_want (wnone rfl) (op_move ⟨_, rfl, rfl, ⟨(fun h => absurd h (by decide)), fun _ => ke0⟩⟩)
  · intro k hk a w hd hsz hkp hp hs
    have hk4 : k = 0 ∨ k = 1 ∨ k = 2 ∨ k = 3 := by simp at hk; omega
    have ke2 : a.tmps.getD 2 undef = .pointer (some ⟨q6, 0, none⟩) := getD_of ((hkp 2 hk2).trans h2)
    rcases hk4 with rfl | rfl | rfl | rfl
    · obtain rfl : w = W.drew := hs
      have e1 : a.tmps.getD 18 undef = .pointer (some ⟨r, 0, none⟩) := (hp 1 (by kernel_rfl)).2 rfl
      refine st_want (wnone rfl) (op_callP enter_unb ?_)
      have hargs : (#[Operand.tmp 18]).map a.eval = #[.pointer (some ⟨r, 0, none⟩)] := by
        simp only [List.map_toArray, List.map_cons, List.map_nil, Act.eval]
        rw [e1]
      rw [hargs]
      refine hC.mono ?_
      intro e w' h'
      rcases hX : X with er | ⟨t, q⟩
      · rw [hX] at h'
        obtain ⟨ei, en⟩ := er
        obtain ⟨hb, h'⟩ := h'
        obtain rfl : e = _ := h'
        exact .inr ⟨_, rfl, herr a w' ei en hX hd ((But.of ((Below.refl _ W).drew)).trans hb)⟩
      · rw [hX] at h'
        obtain ⟨hb, hle, hR, v, rfl, hv⟩ := h'
        exact .inl ⟨v, rfl, v, rfl, (fun _ => ⟨(fun h => absurd h (by decide)), (fun h => absurd h (by decide))⟩), t, q, (by first | rfl | exact hX), ((But.of ((Below.refl _ W).drew)).trans hb), hR, hle, hv⟩
    · obtain ⟨t, q, hX, hb, hR, hle, hv⟩ := hs
      have hv' : IsE w W.heap.size (a.tmps.getD 19 undef) t := hv
      obtain ⟨i0, i6, s1, s2, b3, a4, n4, c4, e1⟩ := hv'.form
      rw [e1] at hv'
      have hnode := node (w := w) (lo := W.heap.size) (l := [t]) (vs := [[.int .i64 i0, .string s1, .string s2, .bool b3, .slice a4 n4 c4, .int .i64 0, .int .i64 i6]]) (cs := #[.int .i64 i0, .string s1, .string s2, .bool b3, .slice a4 n4 c4, .int .i64 0, .int .i64 i6]) (ty := 36) 8 ai ⟨#[]⟩ ⟨#[]⟩ false rfl rfl (by simp) rfl (by simp) hb.size (fun j v t' hv ht => by
        rcases j with _ | j
        · obtain rfl := Option.some.inj hv
          obtain rfl := Option.some.inj ht
          exact hv'
        · simp at hv)
      have hB : Below w.heap.size w (w.alloc (.cells #[.int .i64 i0, .string s1, .string s2, .bool b3, .slice a4 n4 c4, .int .i64 0, .int .i64 i6] 36)) := (Below.refl _ w).alloc (Nat.le_refl _) _
      exact st_want (wnone rfl) (op_bs1E e1 ⟨_, rfl, (fun _ => ⟨(fun h => absurd h (by decide)), (fun h => absurd h (by decide))⟩), t, q, w.heap.size, hX, rfl, hb.trans (But.of hB), hR.keep hB, hle, hnode⟩)
    · obtain ⟨t, q, b, hX, hsl, hb, hR, hle, hv⟩ := hs
      have e1 : a.tmps.getD 17 undef = .agg #[.int .i64 kk, .string T, .int .i64 ai] := (hp 0 (by kernel_rfl)).1 rfl
      have e2 : a.tmps.getD 20 undef = .slice (some ⟨b, 0, none⟩) 1 1 := hsl
      refine st_want (wnone rfl) (op_call enter_made ?_)
      have hargs : (#[Operand.const (.int .i64 8), .tmp 17, .tmp 20]).map a.eval = #[.int .i64 8, .agg #[.int .i64 kk, .string T, .int .i64 ai], .slice (some ⟨b, 0, none⟩) 1 1] := by
        simp only [List.map_toArray, List.map_cons, List.map_nil, Act.eval]
        rw [e1, e2]
      rw [hargs]
      refine (made_any _ _ _ _ _ _ _ _).mono ?_
      rintro ex w' ⟨rfl, hbw⟩
      exact ⟨_, rfl, _, rfl, (fun _ => ⟨(fun h => absurd h (by decide)), (fun h => absurd h (by decide))⟩), t, q, b, hX, rfl, hb.trans (But.of hbw), hR.keep hbw, hle, hv.keep (Stays.of hbw) (Nat.le_refl _)⟩
    · obtain ⟨t, q, b, hX, hnd, hb, hR, hle, hv⟩ := hs
      have e2 : a.tmps.getD 21 undef = .agg #[.int .i64 8, .string ⟨#[]⟩, .string ⟨#[]⟩, .bool false, .slice (some ⟨b, 0, none⟩) 1 1, .int .i64 0, .int .i64 ai] := hnd
      have hz : ZB w q6 := (hb.block q6 (blk z6).1 (Ne.symm n2)).trans z6
      exact st_want (wnone rfl) (op_stE ke2 e2 hz ⟨undef, rfl, (fun h => absurd (show false = true from h) (by decide)), t, q, b, w, hX, hb, hR, hle, hv, rfl⟩)
  · intro a w hd hsz hk hp hs
    obtain ⟨t, q, b, W2, hX, hb, hR, hle, hv, rfl⟩ := hs
    exact hend a W2 t q b hX hd hk hb hR hle hv
end Go.Proofs.YtfkfnbehdcmgeaaGreatDoor

namespace Go.Proofs.YtfkfnbehdcmgeaaGreatDoor
open Go Go.RowKit
theorem op_fieldV {P : Program} {X : Exit → Act → World → Prop} {K : Act → World → Prop} {a : Act} {w : World} {dst : Option Tmp} {ty : TypeId} {pos : String} {af : Array Edge} {gd : Option (Nat × Bool)} {x : Operand} {vx v : Value} {t : TypeId} {f : Nat} (hx : a.eval x = vx) (hr : (Instr.field t vx f).run P w = .ok v w) (h : K (a.put dst v) w) : Oper.wp P ⟨dst, .field t x f, ty, pos, af, gd⟩ a w K X := by
  unfold Oper.wp
  simp [execOp, hx, hr, Oper.upon, h]
def stunary_r7 (W : World) (r : Nat) (ts : List (Int × ByteArray × Int)) (p d q6 : Nat) (X : (Except (Int × Int) ((Int × ByteArray × Int) × Nat))) (ai : Int) (n : Nat) (s : Nat → Value) (w : World) : Prop := match n with
  | 0 => w = W.drew
  | 1 => ∃ t q, X = .ok (t, q) ∧ s 2 = tkV t ∧ But r W w ∧ RD w r ts q d ∧ p ≤ q
  | 2 => ∃ t q, X = .ok (t, q) ∧ s 4 = .agg #[.int .i64 5, .string t.2.1, .string ⟨#[]⟩, .bool false, .slice none 0 0, .int .i64 0, .int .i64 ai] ∧ But r W w ∧ RD w r ts q d ∧ p ≤ q
  | _ => ∃ t q W2, X = .ok (t, q) ∧ But r W W2 ∧ RD W2 r ts q d ∧ p ≤ q ∧ w = set7 W2 q6 (.int .i64 5) (.string t.2.1) (.string ⟨#[]⟩) (.bool false) (.slice none 0 0) (.int .i64 0) (.int .i64 ai)
theorem stunary_r7_at {W : World} {r p d q6 : Nat} {ts : List (Int × ByteArray × Int)} {X : (Except (Int × Int) ((Int × ByteArray × Int) × Nat))} {ai : Int} {n : Nat} {s : Nat → Value} {w : World} (h : stunary_r7 W r ts p d q6 X ai n s w) : ∀ q, q < W.heap.size → q ≠ q6 → r ≠ q → w.heap[q]? = W.heap[q]? := by
  intro q3 hq hne hr
  rcases n with _ | _ | _ | n
  · obtain rfl : w = W.drew := h
    rfl
  · obtain ⟨t, q, -, -, hb, -⟩ := h
    exact hb.block q3 hq (Ne.symm hr)
  · obtain ⟨t, q, -, -, hb, -⟩ := h
    exact hb.block q3 hq (Ne.symm hr)
  · obtain ⟨t, q, W2, -, hb, -, -, rfl⟩ := h
    unfold set7
    rw [same7 hne]
    exact hb.block q3 hq (Ne.symm hr)
set_option maxRecDepth 100000 in
set_option maxHeartbeats 4000000 in
theorem unary_r7 {Q : Exit → Act → World → Prop} {a0 : Act} {W : World} {r p d q3 q6 : Nat} {ts : List (Int × ByteArray × Int)} {X : (Except (Int × Int) ((Int × ByteArray × Int) × Nat))} {kk ai : Int} {T : ByteArray} (hN : a0.tmps.size = 40) (h0 : a0.tmps[0]? = some (.pointer (some ⟨r, 0, none⟩))) (h2 : a0.tmps[2]? = some (.pointer (some ⟨q6, 0, none⟩))) (h3 : a0.tmps[3]? = some (.pointer (some ⟨q3, 0, none⟩)))
    (b3 : W.heap[q3]? = some (.cells #[.int .i64 kk, .string T, .int .i64 ai] 74)) (z6 : ZB W q6) (n1 : r ≠ q3) (n2 : r ≠ q6) (n3 : q3 ≠ q6) (hC : Calls Tryz.prog 88 #[.pointer (some ⟨r, 0, none⟩), .int .i64 1] W.drew (RP TkOk X r ts p d W.drew))
    (herr : ∀ (a : Act) (w : World) (ei en : Int), X = .error (ei, en) → a.defers = a0.defers → But r W w → Q (.panic [{ v := .iface 89 (.agg #[.int .i64 ei, .int .i64 en]), recovered := false }]) a w)
    (hend : ∀ (a : Act) (W2 : World) (t : (Int × ByteArray × Int)) (q : Nat), X = .ok (t, q) → a.defers = a0.defers → (∀ k, k ∈ ((List.range 40).filter fun i => !([25, 26, 27, 28, 29].contains i)) → a.tmps[k]? = a0.tmps[k]?) → But r W W2 → RD W2 r ts q d → p ≤ q → Q .normal a (set7 W2 q6 (.int .i64 5) (.string t.2.1) (.string ⟨#[]⟩) (.bool false) (.slice none 0 0) (.int .i64 0) (.int .i64 ai))) :
    (Code.region 7 (regionOf Tryz.f126 7).toArray true).wp Tryz.prog Q a0 W := by
  have hl : (regionOf Tryz.f126 7).length = 6 := by kernel_rfl
  have hds : ((List.range 5).all fun i => ((regionOf Tryz.f126 7).getD i default).dst.isSome) = true := by kernel_rfl
  have bx : ∀ {n : Nat} {s : Nat → Value} {w : World}, stunary_r7 W r ts p d q6 X ai n s w → w.heap[q3]? = some (.cells #[.int .i64 kk, .string T, .int .i64 ai] 74) := fun h => (stunary_r7_at h q3 (blk b3).1 n3 n1).trans b3
  have hk3 : 3 ∈ ((List.range 40).filter fun i => !([25, 26, 27, 28, 29].contains i)) := by decide
  have hk2 : 2 ∈ ((List.range 40).filter fun i => !([25, 26, 27, 28, 29].contains i)) := by decide
  have hk0 : 0 ∈ ((List.range 40).filter fun i => !([25, 26, 27, 28, 29].contains i)) := by decide
  refine wp_region_any (by kernel_rfl) ?_
  refine seqN (l := (regionOf Tryz.f126 7)) 40 ((List.range 40).filter fun i => !([25, 26, 27, 28, 29].contains i)) [2, 4, 5] (fun j v => (j = 0 → v = .agg #[.int .i64 kk, .string T, .int .i64 ai]) ∧ (j = 1 → v = .pointer (some ⟨r, 0, none⟩)) ∧ (j = 2 → ∃ t q, X = .ok (t, q) ∧ v = tkV t) ∧ (j = 3 → ∃ t q, X = .ok (t, q) ∧ v = .string t.2.1)) (stunary_r7 W r ts p d q6 X ai) (by kernel_rfl) hN (by decide) (by rw [hl]; decide) ?_ ?_ ?_ rfl ?_ ?_ ?_
  · intro k hk
    have hk3 : k = 0 ∨ k = 1 := by simp at hk; omega
    rcases hk3 with rfl | rfl
    · show (preds ((regionOf Tryz.f126 7).getD 4 default)).contains 2 = true
      kernel_rfl
    · show (preds ((regionOf Tryz.f126 7).getD 5 default)).contains 4 = true
      kernel_rfl
  · intro i o ho hd
    have hi : i < 6 := by rw [← hl]; exact (List.getElem?_eq_some_iff.1 ho).1
    have he : (regionOf Tryz.f126 7).getD i default = o := by simp [List.getD, ho]
    rcases Nat.lt_or_ge i 5 with h | h
    · have := List.all_eq_true.1 hds i (List.mem_range.2 h)
      rw [he, hd] at this
      cases this
    · obtain rfl : i = 5 := by omega
      exact ⟨by decide, fun v => ⟨(fun h => absurd h (by decide)), (fun h => absurd h (by decide)), (fun h => absurd h (by decide)), (fun h => absurd h (by decide))⟩⟩
  · intro n s s' w h hs
    have e1 : s 2 = s' 2 := h 0 (by decide) (by kernel_rfl)
    have e2 : s 4 = s' 4 := h 1 (by decide) (by kernel_rfl)
    rcases n with _ | _ | _ | n
    · exact hs
    · obtain ⟨t, q, g1, g2, g3⟩ := hs
      exact ⟨t, q, g1, e1 ▸ g2, g3⟩
    · obtain ⟨t, q, g1, g2, g3⟩ := hs
      exact ⟨t, q, g1, e2 ▸ g2, g3⟩
    · exact hs
  · intro i hi hni a w n s hd hsz hk hp hn hs
    rw [hl] at hi
    have hii : i = 0 ∨ i = 1 ∨ i = 3 := by simp at hni; omega
    have ke3 : a.eval (.tmp 3) = .pointer (some ⟨q3, 0, none⟩) := getD_of ((hk 3 hk3).trans h3)
    have ke0 : a.eval (.tmp 0) = .pointer (some ⟨r, 0, none⟩) := getD_of ((hk 0 hk0).trans h0)
    have cc := bx hs
    rcases hii with rfl | rfl | rfl
    · exact st_want (wnone rfl) (op_load ke3 (ld_Tok cc) ⟨_, rfl, rfl, ⟨fun _ => rfl, (fun h => absurd h (by decide)), (fun h => absurd h (by decide)), (fun h => absurd h (by decide))⟩⟩)
    · exact st_want (wnone rfl) (op_move ⟨_, rfl, rfl, ⟨(fun h => absurd h (by decide)), fun _ => ke0, (fun h => absurd h (by decide)), (fun h => absurd h (by decide))⟩⟩)
    · obtain ⟨t, q, hX, e1⟩ := (hp 2 (by kernel_rfl)).2.2.1 rfl
      have e2 : a.eval (.tmp 27) = tkV t := e1
      unfold tkV at e2
      exact st_want (wnone rfl) (op_fieldV e2 (fld1 _ _ _ w) ⟨_, rfl, rfl, ⟨(fun h => absurd h (by decide)), (fun h => absurd h (by decide)), (fun h => absurd h (by decide)), fun _ => ⟨t, q, hX, rfl⟩⟩⟩)
  · intro k hk a w hd hsz hkp hp hs
    have hk4 : k = 0 ∨ k = 1 ∨ k = 2 := by simp at hk; omega
    have ke2 : a.tmps.getD 2 undef = .pointer (some ⟨q6, 0, none⟩) := getD_of ((hkp 2 hk2).trans h2)
    rcases hk4 with rfl | rfl | rfl
    · obtain rfl : w = W.drew := hs
      have e1 : a.tmps.getD 26 undef = .pointer (some ⟨r, 0, none⟩) := (hp 1 (by kernel_rfl)).2.1 rfl
      refine st_want (wnone rfl) (op_callP enter_mustBe ?_)
      have hargs : (#[Operand.tmp 26, .const (.int .i64 1)]).map a.eval = #[.pointer (some ⟨r, 0, none⟩), .int .i64 1] := by
        simp only [List.map_toArray, List.map_cons, List.map_nil, Act.eval]
        rw [e1]
      rw [hargs]
      refine hC.mono ?_
      intro e w' h'
      rcases hX : X with er | ⟨t, q⟩
      · rw [hX] at h'
        obtain ⟨ei, en⟩ := er
        obtain ⟨hb, h'⟩ := h'
        obtain rfl : e = _ := h'
        exact .inr ⟨_, rfl, herr a w' ei en hX hd ((But.of ((Below.refl _ W).drew)).trans hb)⟩
      · rw [hX] at h'
        obtain ⟨hb, hle, hR, v, rfl, hv⟩ := h'
        obtain rfl : v = _ := hv
        exact .inl ⟨_, rfl, _, rfl, (fun _ => ⟨(fun h => absurd h (by decide)), (fun h => absurd h (by decide)), (fun _ => ⟨t, q, (by first | rfl | exact hX), rfl⟩), (fun h => absurd h (by decide))⟩), t, q, (by first | rfl | exact hX), rfl, ((But.of ((Below.refl _ W).drew)).trans hb), hR, hle⟩
    · obtain ⟨t, q, hX, hsl, hb, hR, hle⟩ := hs
      have e1 : a.tmps.getD 25 undef = .agg #[.int .i64 kk, .string T, .int .i64 ai] := (hp 0 (by kernel_rfl)).1 rfl
      obtain ⟨t', q', hX', e2'⟩ := (hp 3 (by kernel_rfl)).2.2.2 rfl
      rw [hX] at hX'
      obtain ⟨rfl, rfl⟩ : t = t' ∧ q = q' := by simpa using hX'
      have e2 : a.tmps.getD 28 undef = .string t.2.1 := e2'
      refine st_want (wnone rfl) (op_call enter_named ?_)
      have hargs : (#[Operand.const (.int .i64 5), .tmp 25, .tmp 28, .const (.slice none 0 0)]).map a.eval = #[.int .i64 5, .agg #[.int .i64 kk, .string T, .int .i64 ai], .string t.2.1, .slice none 0 0] := by
        simp only [List.map_toArray, List.map_cons, List.map_nil, Act.eval]
        rw [e1, e2]
      rw [hargs]
      refine (named_any _ _ _ _ _ _ _ _ _).mono ?_
      rintro ex w' ⟨rfl, hbw⟩
      exact ⟨_, rfl, _, rfl, (fun _ => ⟨(fun h => absurd h (by decide)), (fun h => absurd h (by decide)), (fun h => absurd h (by decide)), (fun h => absurd h (by decide))⟩), t, q, hX, rfl, hb.trans (But.of hbw), hR.keep hbw, hle⟩
    · obtain ⟨t, q, hX, hnd, hb, hR, hle⟩ := hs
      have e2 : a.tmps.getD 29 undef = .agg #[.int .i64 5, .string t.2.1, .string ⟨#[]⟩, .bool false, .slice none 0 0, .int .i64 0, .int .i64 ai] := hnd
      have hz : ZB w q6 := (hb.block q6 (blk z6).1 (Ne.symm n2)).trans z6
      exact st_want (wnone rfl) (op_stE ke2 e2 hz ⟨undef, rfl, (fun h => absurd (show false = true from h) (by decide)), t, q, w, hX, hb, hR, hle, rfl⟩)
  · intro a w hd hsz hk hp hs
    obtain ⟨t, q, W2, hX, hb, hR, hle, rfl⟩ := hs
    exact hend a W2 t q hX hd hk hb hR hle
def stunary_r9 (W : World) (r : Nat) (ts : List (Int × ByteArray × Int)) (p d q6 : Nat) (X : (Except (Int × Int) ((Int × ByteArray × Int) × Nat))) (ai : Int) (n : Nat) (s : Nat → Value) (w : World) : Prop := match n with
  | 0 => w = W.drew
  | 1 => ∃ t q, X = .ok (t, q) ∧ s 2 = tkV t ∧ But r W w ∧ RD w r ts q d ∧ p ≤ q
  | 2 => ∃ t q, X = .ok (t, q) ∧ s 4 = .agg #[.int .i64 6, .string t.2.1, .string ⟨#[]⟩, .bool false, .slice none 0 0, .int .i64 0, .int .i64 ai] ∧ But r W w ∧ RD w r ts q d ∧ p ≤ q
  | _ => ∃ t q W2, X = .ok (t, q) ∧ But r W W2 ∧ RD W2 r ts q d ∧ p ≤ q ∧ w = set7 W2 q6 (.int .i64 6) (.string t.2.1) (.string ⟨#[]⟩) (.bool false) (.slice none 0 0) (.int .i64 0) (.int .i64 ai)
theorem stunary_r9_at {W : World} {r p d q6 : Nat} {ts : List (Int × ByteArray × Int)} {X : (Except (Int × Int) ((Int × ByteArray × Int) × Nat))} {ai : Int} {n : Nat} {s : Nat → Value} {w : World} (h : stunary_r9 W r ts p d q6 X ai n s w) : ∀ q, q < W.heap.size → q ≠ q6 → r ≠ q → w.heap[q]? = W.heap[q]? := by
  intro q3 hq hne hr
  rcases n with _ | _ | _ | n
  · obtain rfl : w = W.drew := h
    rfl
  · obtain ⟨t, q, -, -, hb, -⟩ := h
    exact hb.block q3 hq (Ne.symm hr)
  · obtain ⟨t, q, -, -, hb, -⟩ := h
    exact hb.block q3 hq (Ne.symm hr)
  · obtain ⟨t, q, W2, -, hb, -, -, rfl⟩ := h
    unfold set7
    rw [same7 hne]
    exact hb.block q3 hq (Ne.symm hr)
set_option maxRecDepth 100000 in
set_option maxHeartbeats 4000000 in
theorem unary_r9 {Q : Exit → Act → World → Prop} {a0 : Act} {W : World} {r p d q3 q6 : Nat} {ts : List (Int × ByteArray × Int)} {X : (Except (Int × Int) ((Int × ByteArray × Int) × Nat))} {kk ai : Int} {T : ByteArray} (hN : a0.tmps.size = 40) (h0 : a0.tmps[0]? = some (.pointer (some ⟨r, 0, none⟩))) (h2 : a0.tmps[2]? = some (.pointer (some ⟨q6, 0, none⟩))) (h3 : a0.tmps[3]? = some (.pointer (some ⟨q3, 0, none⟩)))
    (b3 : W.heap[q3]? = some (.cells #[.int .i64 kk, .string T, .int .i64 ai] 74)) (z6 : ZB W q6) (n1 : r ≠ q3) (n2 : r ≠ q6) (n3 : q3 ≠ q6) (hC : Calls Tryz.prog 88 #[.pointer (some ⟨r, 0, none⟩), .int .i64 1] W.drew (RP TkOk X r ts p d W.drew))
    (herr : ∀ (a : Act) (w : World) (ei en : Int), X = .error (ei, en) → a.defers = a0.defers → But r W w → Q (.panic [{ v := .iface 89 (.agg #[.int .i64 ei, .int .i64 en]), recovered := false }]) a w)
    (hend : ∀ (a : Act) (W2 : World) (t : (Int × ByteArray × Int)) (q : Nat), X = .ok (t, q) → a.defers = a0.defers → (∀ k, k ∈ ((List.range 40).filter fun i => !([33, 34, 35, 36, 37].contains i)) → a.tmps[k]? = a0.tmps[k]?) → But r W W2 → RD W2 r ts q d → p ≤ q → Q .normal a (set7 W2 q6 (.int .i64 6) (.string t.2.1) (.string ⟨#[]⟩) (.bool false) (.slice none 0 0) (.int .i64 0) (.int .i64 ai))) :
    (Code.region 9 (regionOf Tryz.f126 9).toArray true).wp Tryz.prog Q a0 W := by
  have hl : (regionOf Tryz.f126 9).length = 6 := by kernel_rfl
  have hds : ((List.range 5).all fun i => ((regionOf Tryz.f126 9).getD i default).dst.isSome) = true := by kernel_rfl
  have bx : ∀ {n : Nat} {s : Nat → Value} {w : World}, stunary_r9 W r ts p d q6 X ai n s w → w.heap[q3]? = some (.cells #[.int .i64 kk, .string T, .int .i64 ai] 74) := fun h => (stunary_r9_at h q3 (blk b3).1 n3 n1).trans b3
  have hk3 : 3 ∈ ((List.range 40).filter fun i => !([33, 34, 35, 36, 37].contains i)) := by decide
  have hk2 : 2 ∈ ((List.range 40).filter fun i => !([33, 34, 35, 36, 37].contains i)) := by decide
  have hk0 : 0 ∈ ((List.range 40).filter fun i => !([33, 34, 35, 36, 37].contains i)) := by decide
  refine wp_region_any (by kernel_rfl) ?_
  refine seqN (l := (regionOf Tryz.f126 9)) 40 ((List.range 40).filter fun i => !([33, 34, 35, 36, 37].contains i)) [2, 4, 5] (fun j v => (j = 0 → v = .agg #[.int .i64 kk, .string T, .int .i64 ai]) ∧ (j = 1 → v = .pointer (some ⟨r, 0, none⟩)) ∧ (j = 2 → ∃ t q, X = .ok (t, q) ∧ v = tkV t) ∧ (j = 3 → ∃ t q, X = .ok (t, q) ∧ v = .string t.2.1)) (stunary_r9 W r ts p d q6 X ai) (by kernel_rfl) hN (by decide) (by rw [hl]; decide) ?_ ?_ ?_ rfl ?_ ?_ ?_
  · intro k hk
    have hk3 : k = 0 ∨ k = 1 := by simp at hk; omega
    rcases hk3 with rfl | rfl
    · show (preds ((regionOf Tryz.f126 9).getD 4 default)).contains 2 = true
      kernel_rfl
    · show (preds ((regionOf Tryz.f126 9).getD 5 default)).contains 4 = true
      kernel_rfl
  · intro i o ho hd
    have hi : i < 6 := by rw [← hl]; exact (List.getElem?_eq_some_iff.1 ho).1
    have he : (regionOf Tryz.f126 9).getD i default = o := by simp [List.getD, ho]
    rcases Nat.lt_or_ge i 5 with h | h
    · have := List.all_eq_true.1 hds i (List.mem_range.2 h)
      rw [he, hd] at this
      cases this
    · obtain rfl : i = 5 := by omega
      exact ⟨by decide, fun v => ⟨(fun h => absurd h (by decide)), (fun h => absurd h (by decide)), (fun h => absurd h (by decide)), (fun h => absurd h (by decide))⟩⟩
  · intro n s s' w h hs
    have e1 : s 2 = s' 2 := h 0 (by decide) (by kernel_rfl)
    have e2 : s 4 = s' 4 := h 1 (by decide) (by kernel_rfl)
    rcases n with _ | _ | _ | n
    · exact hs
    · obtain ⟨t, q, g1, g2, g3⟩ := hs
      exact ⟨t, q, g1, e1 ▸ g2, g3⟩
    · obtain ⟨t, q, g1, g2, g3⟩ := hs
      exact ⟨t, q, g1, e2 ▸ g2, g3⟩
    · exact hs
  · intro i hi hni a w n s hd hsz hk hp hn hs
    rw [hl] at hi
    have hii : i = 0 ∨ i = 1 ∨ i = 3 := by simp at hni; omega
    have ke3 : a.eval (.tmp 3) = .pointer (some ⟨q3, 0, none⟩) := getD_of ((hk 3 hk3).trans h3)
    have ke0 : a.eval (.tmp 0) = .pointer (some ⟨r, 0, none⟩) := getD_of ((hk 0 hk0).trans h0)
    have cc := bx hs
    rcases hii with rfl | rfl | rfl
    · exact st_want (wnone rfl) (op_load ke3 (ld_Tok cc) ⟨_, rfl, rfl, ⟨fun _ => rfl, (fun h => absurd h (by decide)), (fun h => absurd h (by decide)), (fun h => absurd h (by decide))⟩⟩)
    · exact st_want (wnone rfl) (op_move ⟨_, rfl, rfl, ⟨(fun h => absurd h (by decide)), fun _ => ke0, (fun h => absurd h (by decide)), (fun h => absurd h (by decide))⟩⟩)
    · obtain ⟨t, q, hX, e1⟩ := (hp 2 (by kernel_rfl)).2.2.1 rfl
      have e2 : a.eval (.tmp 35) = tkV t := e1
      unfold tkV at e2
      exact st_want (wnone rfl) (op_fieldV e2 (fld1 _ _ _ w) ⟨_, rfl, rfl, ⟨(fun h => absurd h (by decide)), (fun h => absurd h (by decide)), (fun h => absurd h (by decide)), fun _ => ⟨t, q, hX, rfl⟩⟩⟩)
  · intro k hk a w hd hsz hkp hp hs
    have hk4 : k = 0 ∨ k = 1 ∨ k = 2 := by simp at hk; omega
    have ke2 : a.tmps.getD 2 undef = .pointer (some ⟨q6, 0, none⟩) := getD_of ((hkp 2 hk2).trans h2)
    rcases hk4 with rfl | rfl | rfl
    · obtain rfl : w = W.drew := hs
      have e1 : a.tmps.getD 34 undef = .pointer (some ⟨r, 0, none⟩) := (hp 1 (by kernel_rfl)).2.1 rfl
      refine st_want (wnone rfl) (op_callP enter_mustBe ?_)
      have hargs : (#[Operand.tmp 34, .const (.int .i64 1)]).map a.eval = #[.pointer (some ⟨r, 0, none⟩), .int .i64 1] := by
        simp only [List.map_toArray, List.map_cons, List.map_nil, Act.eval]
        rw [e1]
      rw [hargs]
      refine hC.mono ?_
      intro e w' h'
      rcases hX : X with er | ⟨t, q⟩
      · rw [hX] at h'
        obtain ⟨ei, en⟩ := er
        obtain ⟨hb, h'⟩ := h'
        obtain rfl : e = _ := h'
        exact .inr ⟨_, rfl, herr a w' ei en hX hd ((But.of ((Below.refl _ W).drew)).trans hb)⟩
      · rw [hX] at h'
        obtain ⟨hb, hle, hR, v, rfl, hv⟩ := h'
        obtain rfl : v = _ := hv
        exact .inl ⟨_, rfl, _, rfl, (fun _ => ⟨(fun h => absurd h (by decide)), (fun h => absurd h (by decide)), (fun _ => ⟨t, q, (by first | rfl | exact hX), rfl⟩), (fun h => absurd h (by decide))⟩), t, q, (by first | rfl | exact hX), rfl, ((But.of ((Below.refl _ W).drew)).trans hb), hR, hle⟩
    · obtain ⟨t, q, hX, hsl, hb, hR, hle⟩ := hs
      have e1 : a.tmps.getD 33 undef = .agg #[.int .i64 kk, .string T, .int .i64 ai] := (hp 0 (by kernel_rfl)).1 rfl
      obtain ⟨t', q', hX', e2'⟩ := (hp 3 (by kernel_rfl)).2.2.2 rfl
      rw [hX] at hX'
      obtain ⟨rfl, rfl⟩ : t = t' ∧ q = q' := by simpa using hX'
      have e2 : a.tmps.getD 36 undef = .string t.2.1 := e2'
      refine st_want (wnone rfl) (op_call enter_named ?_)
      have hargs : (#[Operand.const (.int .i64 6), .tmp 33, .tmp 36, .const (.slice none 0 0)]).map a.eval = #[.int .i64 6, .agg #[.int .i64 kk, .string T, .int .i64 ai], .string t.2.1, .slice none 0 0] := by
        simp only [List.map_toArray, List.map_cons, List.map_nil, Act.eval]
        rw [e1, e2]
      rw [hargs]
      refine (named_any _ _ _ _ _ _ _ _ _).mono ?_
      rintro ex w' ⟨rfl, hbw⟩
      exact ⟨_, rfl, _, rfl, (fun _ => ⟨(fun h => absurd h (by decide)), (fun h => absurd h (by decide)), (fun h => absurd h (by decide)), (fun h => absurd h (by decide))⟩), t, q, hX, rfl, hb.trans (But.of hbw), hR.keep hbw, hle⟩
    · obtain ⟨t, q, hX, hnd, hb, hR, hle⟩ := hs
      have e2 : a.tmps.getD 37 undef = .agg #[.int .i64 6, .string t.2.1, .string ⟨#[]⟩, .bool false, .slice none 0 0, .int .i64 0, .int .i64 ai] := hnd
      have hz : ZB w q6 := (hb.block q6 (blk z6).1 (Ne.symm n2)).trans z6
      exact st_want (wnone rfl) (op_stE ke2 e2 hz ⟨undef, rfl, (fun h => absurd (show false = true from h) (by decide)), t, q, w, hX, hb, hR, hle, rfl⟩)
  · intro a w hd hsz hk hp hs
    obtain ⟨t, q, W2, hX, hb, hR, hle, rfl⟩ := hs
    exact hend a W2 t q hX hd hk hb hR hle
def stprim_r12 (W : World) (r : Nat) (ts : List (Int × ByteArray × Int)) (p d q6 : Nat) (X : (Except (Int × Int) ((Int × ByteArray × Int) × Nat))) (ai : Int) (n : Nat) (s : Nat → Value) (w : World) : Prop := match n with
  | 0 => w = W.drew
  | 1 => ∃ t q, X = .ok (t, q) ∧ s 2 = tkV t ∧ But r W w ∧ RD w r ts q d ∧ p ≤ q
  | 2 => ∃ t q, X = .ok (t, q) ∧ s 4 = .agg #[.int .i64 4, .string t.2.1, .string ⟨#[]⟩, .bool false, .slice none 0 0, .int .i64 0, .int .i64 ai] ∧ But r W w ∧ RD w r ts q d ∧ p ≤ q
  | _ => ∃ t q W2, X = .ok (t, q) ∧ But r W W2 ∧ RD W2 r ts q d ∧ p ≤ q ∧ w = set7 W2 q6 (.int .i64 4) (.string t.2.1) (.string ⟨#[]⟩) (.bool false) (.slice none 0 0) (.int .i64 0) (.int .i64 ai)
theorem stprim_r12_at {W : World} {r p d q6 : Nat} {ts : List (Int × ByteArray × Int)} {X : (Except (Int × Int) ((Int × ByteArray × Int) × Nat))} {ai : Int} {n : Nat} {s : Nat → Value} {w : World} (h : stprim_r12 W r ts p d q6 X ai n s w) : ∀ q, q < W.heap.size → q ≠ q6 → r ≠ q → w.heap[q]? = W.heap[q]? := by
  intro q3 hq hne hr
  rcases n with _ | _ | _ | n
  · obtain rfl : w = W.drew := h
    rfl
  · obtain ⟨t, q, -, -, hb, -⟩ := h
    exact hb.block q3 hq (Ne.symm hr)
  · obtain ⟨t, q, -, -, hb, -⟩ := h
    exact hb.block q3 hq (Ne.symm hr)
  · obtain ⟨t, q, W2, -, hb, -, -, rfl⟩ := h
    unfold set7
    rw [same7 hne]
    exact hb.block q3 hq (Ne.symm hr)
set_option maxRecDepth 100000 in
set_option maxHeartbeats 4000000 in
theorem prim_r12 {Q : Exit → Act → World → Prop} {a0 : Act} {W : World} {r p d q3 q6 : Nat} {ts : List (Int × ByteArray × Int)} {X : (Except (Int × Int) ((Int × ByteArray × Int) × Nat))} {kk ai : Int} {T : ByteArray} (hN : a0.tmps.size = 50) (h0 : a0.tmps[0]? = some (.pointer (some ⟨r, 0, none⟩))) (h2 : a0.tmps[2]? = some (.pointer (some ⟨q6, 0, none⟩))) (h3 : a0.tmps[3]? = some (.pointer (some ⟨q3, 0, none⟩)))
    (b3 : W.heap[q3]? = some (.cells #[.int .i64 kk, .string T, .int .i64 ai] 74)) (z6 : ZB W q6) (n1 : r ≠ q3) (n2 : r ≠ q6) (n3 : q3 ≠ q6) (hC : Calls Tryz.prog 88 #[.pointer (some ⟨r, 0, none⟩), .int .i64 1] W.drew (RP TkOk X r ts p d W.drew))
    (herr : ∀ (a : Act) (w : World) (ei en : Int), X = .error (ei, en) → a.defers = a0.defers → But r W w → Q (.panic [{ v := .iface 89 (.agg #[.int .i64 ei, .int .i64 en]), recovered := false }]) a w)
    (hend : ∀ (a : Act) (W2 : World) (t : (Int × ByteArray × Int)) (q : Nat), X = .ok (t, q) → a.defers = a0.defers → (∀ k, k ∈ ((List.range 50).filter fun i => !([45, 46, 47, 48, 49].contains i)) → a.tmps[k]? = a0.tmps[k]?) → But r W W2 → RD W2 r ts q d → p ≤ q → Q .normal a (set7 W2 q6 (.int .i64 4) (.string t.2.1) (.string ⟨#[]⟩) (.bool false) (.slice none 0 0) (.int .i64 0) (.int .i64 ai))) :
    (Code.region 12 (regionOf Tryz.f128 12).toArray true).wp Tryz.prog Q a0 W := by
  have hl : (regionOf Tryz.f128 12).length = 6 := by kernel_rfl
  have hds : ((List.range 5).all fun i => ((regionOf Tryz.f128 12).getD i default).dst.isSome) = true := by kernel_rfl
  have bx : ∀ {n : Nat} {s : Nat → Value} {w : World}, stprim_r12 W r ts p d q6 X ai n s w → w.heap[q3]? = some (.cells #[.int .i64 kk, .string T, .int .i64 ai] 74) := fun h => (stprim_r12_at h q3 (blk b3).1 n3 n1).trans b3
  have hk3 : 3 ∈ ((List.range 50).filter fun i => !([45, 46, 47, 48, 49].contains i)) := by decide
  have hk2 : 2 ∈ ((List.range 50).filter fun i => !([45, 46, 47, 48, 49].contains i)) := by decide
  have hk0 : 0 ∈ ((List.range 50).filter fun i => !([45, 46, 47, 48, 49].contains i)) := by decide
  refine wp_region_any (by kernel_rfl) ?_
  refine seqN (l := (regionOf Tryz.f128 12)) 50 ((List.range 50).filter fun i => !([45, 46, 47, 48, 49].contains i)) [2, 4, 5] (fun j v => (j = 0 → v = .agg #[.int .i64 kk, .string T, .int .i64 ai]) ∧ (j = 1 → v = .pointer (some ⟨r, 0, none⟩)) ∧ (j = 2 → ∃ t q, X = .ok (t, q) ∧ v = tkV t) ∧ (j = 3 → ∃ t q, X = .ok (t, q) ∧ v = .string t.2.1)) (stprim_r12 W r ts p d q6 X ai) (by kernel_rfl) hN (by decide) (by rw [hl]; decide) ?_ ?_ ?_ rfl ?_ ?_ ?_
  · intro k hk
    have hk3 : k = 0 ∨ k = 1 := by simp at hk; omega
    rcases hk3 with rfl | rfl
    · show (preds ((regionOf Tryz.f128 12).getD 4 default)).contains 2 = true
      kernel_rfl
    · show (preds ((regionOf Tryz.f128 12).getD 5 default)).contains 4 = true
      kernel_rfl
  · intro i o ho hd
    have hi : i < 6 := by rw [← hl]; exact (List.getElem?_eq_some_iff.1 ho).1
    have he : (regionOf Tryz.f128 12).getD i default = o := by simp [List.getD, ho]
    rcases Nat.lt_or_ge i 5 with h | h
    · have := List.all_eq_true.1 hds i (List.mem_range.2 h)
      rw [he, hd] at this
      cases this
    · obtain rfl : i = 5 := by omega
      exact ⟨by decide, fun v => ⟨(fun h => absurd h (by decide)), (fun h => absurd h (by decide)), (fun h => absurd h (by decide)), (fun h => absurd h (by decide))⟩⟩
  · intro n s s' w h hs
    have e1 : s 2 = s' 2 := h 0 (by decide) (by kernel_rfl)
    have e2 : s 4 = s' 4 := h 1 (by decide) (by kernel_rfl)
    rcases n with _ | _ | _ | n
    · exact hs
    · obtain ⟨t, q, g1, g2, g3⟩ := hs
      exact ⟨t, q, g1, e1 ▸ g2, g3⟩
    · obtain ⟨t, q, g1, g2, g3⟩ := hs
      exact ⟨t, q, g1, e2 ▸ g2, g3⟩
    · exact hs
  · intro i hi hni a w n s hd hsz hk hp hn hs
    rw [hl] at hi
    have hii : i = 0 ∨ i = 1 ∨ i = 3 := by simp at hni; omega
    have ke3 : a.eval (.tmp 3) = .pointer (some ⟨q3, 0, none⟩) := getD_of ((hk 3 hk3).trans h3)
    have ke0 : a.eval (.tmp 0) = .pointer (some ⟨r, 0, none⟩) := getD_of ((hk 0 hk0).trans h0)
    have cc := bx hs
    rcases hii with rfl | rfl | rfl
    · exact st_want (wnone rfl) (op_load ke3 (ld_Tok cc) ⟨_, rfl, rfl, ⟨fun _ => rfl, (fun h => absurd h (by decide)), (fun h => absurd h (by decide)), (fun h => absurd h (by decide))⟩⟩)
    · exact st_want (wnone rfl) (op_move ⟨_, rfl, rfl, ⟨(fun h => absurd h (by decide)), fun _ => ke0, (fun h => absurd h (by decide)), (fun h => absurd h (by decide))⟩⟩)
    · obtain ⟨t, q, hX, e1⟩ := (hp 2 (by kernel_rfl)).2.2.1 rfl
      have e2 : a.eval (.tmp 47) = tkV t := e1
      unfold tkV at e2
      exact st_want (wnone rfl) (op_fieldV e2 (fld1 _ _ _ w) ⟨_, rfl, rfl, ⟨(fun h => absurd h (by decide)), (fun h => absurd h (by decide)), (fun h => absurd h (by decide)), fun _ => ⟨t, q, hX, rfl⟩⟩⟩)
  · intro k hk a w hd hsz hkp hp hs
    have hk4 : k = 0 ∨ k = 1 ∨ k = 2 := by simp at hk; omega
    have ke2 : a.tmps.getD 2 undef = .pointer (some ⟨q6, 0, none⟩) := getD_of ((hkp 2 hk2).trans h2)
    rcases hk4 with rfl | rfl | rfl
    · obtain rfl : w = W.drew := hs
      have e1 : a.tmps.getD 46 undef = .pointer (some ⟨r, 0, none⟩) := (hp 1 (by kernel_rfl)).2.1 rfl
      refine st_want (wnone rfl) (op_callP enter_mustBe ?_)
      have hargs : (#[Operand.tmp 46, .const (.int .i64 1)]).map a.eval = #[.pointer (some ⟨r, 0, none⟩), .int .i64 1] := by
        simp only [List.map_toArray, List.map_cons, List.map_nil, Act.eval]
        rw [e1]
      rw [hargs]
      refine hC.mono ?_
      intro e w' h'
      rcases hX : X with er | ⟨t, q⟩
      · rw [hX] at h'
        obtain ⟨ei, en⟩ := er
        obtain ⟨hb, h'⟩ := h'
        obtain rfl : e = _ := h'
        exact .inr ⟨_, rfl, herr a w' ei en hX hd ((But.of ((Below.refl _ W).drew)).trans hb)⟩
      · rw [hX] at h'
        obtain ⟨hb, hle, hR, v, rfl, hv⟩ := h'
        obtain rfl : v = _ := hv
        exact .inl ⟨_, rfl, _, rfl, (fun _ => ⟨(fun h => absurd h (by decide)), (fun h => absurd h (by decide)), (fun _ => ⟨t, q, (by first | rfl | exact hX), rfl⟩), (fun h => absurd h (by decide))⟩), t, q, (by first | rfl | exact hX), rfl, ((But.of ((Below.refl _ W).drew)).trans hb), hR, hle⟩
    · obtain ⟨t, q, hX, hsl, hb, hR, hle⟩ := hs
      have e1 : a.tmps.getD 45 undef = .agg #[.int .i64 kk, .string T, .int .i64 ai] := (hp 0 (by kernel_rfl)).1 rfl
      obtain ⟨t', q', hX', e2'⟩ := (hp 3 (by kernel_rfl)).2.2.2 rfl
      rw [hX] at hX'
      obtain ⟨rfl, rfl⟩ : t = t' ∧ q = q' := by simpa using hX'
      have e2 : a.tmps.getD 48 undef = .string t.2.1 := e2'
      refine st_want (wnone rfl) (op_call enter_named ?_)
      have hargs : (#[Operand.const (.int .i64 4), .tmp 45, .tmp 48, .const (.slice none 0 0)]).map a.eval = #[.int .i64 4, .agg #[.int .i64 kk, .string T, .int .i64 ai], .string t.2.1, .slice none 0 0] := by
        simp only [List.map_toArray, List.map_cons, List.map_nil, Act.eval]
        rw [e1, e2]
      rw [hargs]
      refine (named_any _ _ _ _ _ _ _ _ _).mono ?_
      rintro ex w' ⟨rfl, hbw⟩
      exact ⟨_, rfl, _, rfl, (fun _ => ⟨(fun h => absurd h (by decide)), (fun h => absurd h (by decide)), (fun h => absurd h (by decide)), (fun h => absurd h (by decide))⟩), t, q, hX, rfl, hb.trans (But.of hbw), hR.keep hbw, hle⟩
    · obtain ⟨t, q, hX, hnd, hb, hR, hle⟩ := hs
      have e2 : a.tmps.getD 49 undef = .agg #[.int .i64 4, .string t.2.1, .string ⟨#[]⟩, .bool false, .slice none 0 0, .int .i64 0, .int .i64 ai] := hnd
      have hz : ZB w q6 := (hb.block q6 (blk z6).1 (Ne.symm n2)).trans z6
      exact st_want (wnone rfl) (op_stE ke2 e2 hz ⟨undef, rfl, (fun h => absurd (show false = true from h) (by decide)), t, q, w, hX, hb, hR, hle, rfl⟩)
  · intro a w hd hsz hk hp hs
    obtain ⟨t, q, W2, hX, hb, hR, hle, rfl⟩ := hs
    exact hend a W2 t q hX hd hk hb hR hle
end Go.Proofs.YtfkfnbehdcmgeaaGreatDoor
