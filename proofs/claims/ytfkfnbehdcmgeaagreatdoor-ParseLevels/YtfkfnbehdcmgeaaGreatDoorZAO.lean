/- Package parse: rows that grow. -/
import Derived.Test.YtfkfnbehdcmgeaaGreatDoorZAG
import Derived.Test.YtfkfnbehdcmgeaaGreatDoorZAN
set_option linter.unusedVariables false
set_option linter.unusedSimpArgs false

/- The statements of package parse: a region that reads an expression into a box. -/
namespace Go.Proofs.YtfkfnbehdcmgeaaGreatDoor
open Go Go.RowKit
/-- What parse.Expr answers: blocks from lo on, but ex. -/
def XR (lo : Nat) (ex : Nat → Prop) (X : Except (Int × Int) Ex) (w : World) (v ve : Value) : Prop := match X with
  | .ok t => IsEP w (fun b => lo ≤ b ∧ ¬ ex b) v t ∧ ve = .nilIface
  | .error (i, n) => v = .agg zE ∧ ∃ b, ¬ ex b ∧ ve = .iface 61 (.pointer (some ⟨b, 0, none⟩)) ∧ w.heap[b]? = some (.cells #[.int .i64 i, .int .i64 n] 66)
theorem XR.form {lo : Nat} {ex : Nat → Prop} {X : Except (Int × Int) Ex} {w : World} {v ve : Value} (h : XR lo ex X w v ve) : ∃ (i0 i6 : Int) (s1 s2 : ByteArray) (b3 : Bool) (a4 : Option Addr) (n4 c4 : Nat), v = .agg #[.int .i64 i0, .string s1, .string s2, .bool b3, .slice a4 n4 c4, .int .i64 0, .int .i64 i6] := by
  unfold XR at h
  split at h
  · obtain ⟨i0, i6, s1, s2, b3, a4, n4, c4, e⟩ := h.1.form
    exact ⟨i0, i6, s1, s2, b3, a4, n4, c4, e⟩
  · exact ⟨0, 0, ⟨#[]⟩, ⟨#[]⟩, false, none, 0, 0, h.1⟩
theorem XR.keep {lo : Nat} {ex : Nat → Prop} {X : Except (Int × Int) Ex} {w w' : World} {v ve : Value} (h : XR lo ex X w v ve) (hs : w.heap.size ≤ w'.heap.size) (hb : ∀ k, k < w.heap.size → ¬ ex k → w'.heap[k]? = w.heap[k]?) : XR lo ex X w' v ve := by
  unfold XR at h ⊢
  split at h
  · exact ⟨IsEP.keep h.1 ⟨hs, fun k hk hsz => hb k hsz hk.2⟩ fun _ h => h, h.2⟩
  · obtain ⟨h1, b, h2, h3, h4⟩ := h
    exact ⟨h1, b, h2, h3, (hb b (blk h4).1 h2).trans h4⟩
theorem XR.alloc {lo : Nat} {X : Except (Int × Int) Ex} {w : World} {v ve : Value} (h : XR lo (fun _ => False) X w v ve) (o : Obj) : XR lo (fun b => b = w.heap.size) X (w.alloc o) v ve := by
  have hB : Below w.heap.size w (w.alloc o) := (Below.refl _ w).alloc (Nat.le_refl _) _
  unfold XR at h ⊢
  split at h
  · exact ⟨IsEP.keep (IsEP.bnd h.1) ⟨hB.size, fun k hk hsz => hB.block k hsz⟩ fun b hb => ⟨hb.1.1, fun e => by have := hb.2; omega⟩, h.2⟩
  · obtain ⟨h1, b, h2, h3, h4⟩ := h
    have hl := (blk h4).1
    exact ⟨h1, b, fun e => by omega, h3, (hB.block b hl).trans h4⟩
theorem XR.of {s : ByteArray} {w w' : World} {e : Ending} (h : ExprP s w e w') (lo : Nat) (ex : Nat → Prop) (hlo : lo ≤ w.heap.size) (hex : ∀ b, ex b → b < w.heap.size) (hz : ∀ b, ex b → ZB w b) : Below w.heap.size w w' ∧ ∃ v ve, e = .returned (.tuple #[v, ve]) ∧ XR lo ex (exprS s) w' v ve := by
  obtain ⟨hb, h⟩ := h
  refine ⟨hb, ?_⟩
  unfold XR
  split at h
  · rename_i t hX
    obtain ⟨v, e, hv⟩ := h
    refine ⟨v, _, e, ?_⟩
    rw [hX]
    exact ⟨IsEP.keep hv ⟨Nat.le_refl _, fun _ _ _ => rfl⟩ fun b h => ⟨Nat.le_trans hlo h, fun he => by have := hex b he; have h2 : w.heap.size ≤ b := h; omega⟩, rfl⟩
  · rename_i i n hX
    obtain ⟨v, e, b, rfl, hv⟩ := h
    refine ⟨_, _, e, ?_⟩
    rw [hX]
    refine ⟨rfl, b, fun he => ?_, rfl, hv⟩
    have h1 := (hb.block b (hex b he)).trans (hz b he)
    rw [hv] at h1
    simp at h1
section
variable {X : Exit → Act → World → Prop} {K : Act → World → Prop} {a0 : Act} {w : World} {dst : Option Tmp} {ty : TypeId} {pos : String} {af : Array Edge} {gd : Option (Nat × Bool)}
theorem op_idx {t : TypeId} {x ix : Operand} {u i v : Value} (h1 : a0.eval x = u) (h2 : a0.eval ix = i) (hr : (Instr.indexAt t u i).run Tryz.prog w = .ok v w) (h : K (a0.put dst v) w) : Oper.wp Tryz.prog ⟨dst, .indexAddr t x ix, ty, pos, af, gd⟩ a0 w K X := by
  unfold Oper.wp
  simp only [execOp, h1, h2]
  simp [go_sem, hr, Oper.upon]
  exact h
theorem op_addS {x y : Operand} {m n : ByteArray} (p : a0.eval x = .string m) (q : a0.eval y = .string n) (hl : m.size + n.size ≤ 100000) (h : K (a0.put dst (.string (m ++ n))) w) : Oper.wp Tryz.prog ⟨dst, .binOp .add 9 x y 9, ty, pos, af, gd⟩ a0 w K X := by
  unfold Oper.wp
  simp only [execOp, p, q]
  go_simp
  rw [if_neg (by omega)]
  exact h
theorem op_alE (h : K (a0.put dst (.pointer (some ⟨w.heap.size, 0, none⟩))) (w.alloc (.cells #[.int .i64 0, .string ⟨#[]⟩, .string ⟨#[]⟩, .bool false, .slice none 0 0, .int .i64 0, .int .i64 0] 36))) : Oper.wp Tryz.prog ⟨dst, .alloc 36, ty, pos, af, gd⟩ a0 w K X := by
  unfold Oper.wp
  go_simp
  exact h
theorem op_ext {s i : Nat} {vs : Array Value} {v : Value} (hs : a0.tmps.getD s undef = .tuple vs) (hi : vs[i]? = some v) (h : K (a0.put dst v) w) : Oper.wp Tryz.prog ⟨dst, .extract (.tmp s) i, ty, pos, af, gd⟩ a0 w K X := by
  have hs' : a0.eval (.tmp s) = .tuple vs := hs
  unfold Oper.wp
  simp only [execOp, hs']
  simp [go_sem, hi, Oper.upon]
  exact h
end
theorem enter_pexpr : Enters Tryz.prog 17 := ⟨fun xs w => by go_simp⟩
theorem lv_ix {sq i : Nat} {w : World} (hi : i < 12) : (Instr.indexAt 44 (.slice (some ⟨sq, 0, none⟩) 12 12) (.int .i64 (i : Int))).run Tryz.prog w = .ok (.pointer (some ⟨sq, i, none⟩)) w := by
  have h1 : ¬ (i : Int) < 0 := by omega
  have h2 : ¬ (12 : Int) ≤ (i : Int) := by omega
  go_simp
/-- How far the region has come. -/
def levels_r6S (W : World) (X : Except (Int × Int) Ex) (L : Nat → Bool) (s : Nat → Value) (w : World) : Prop :=
  (L 13 = true → s 13 = s 12) ∧ (L 14 = true → ∃ v ve, s 12 = .tuple #[v, ve] ∧ s 14 = v) ∧ (L 15 = true → ∃ v ve, s 12 = .tuple #[v, ve] ∧ s 15 = ve) ∧ (L 18 = true → s 18 = s 15) ∧
  (L 17 = true → ∃ W2 qb v ve i0 i6 s1 s2 b3 a4 n4 c4, s 16 = .pointer (some ⟨qb, 0, none⟩) ∧ s 12 = .tuple #[v, ve] ∧ v = .agg #[.int .i64 i0, .string s1, .string s2, .bool b3, .slice a4 n4 c4, .int .i64 0, .int .i64 i6] ∧ W.heap.size ≤ qb ∧ ZB W2 qb ∧ Below W.heap.size W W2 ∧ XR W.heap.size (fun b => b = qb) X W2 v ve ∧ w = set7 W2 qb (.int .i64 i0) (.string s1) (.string s2) (.bool b3) (.slice a4 n4 c4) (.int .i64 0) (.int .i64 i6)) ∧
  (L 17 = false → L 12 = false → L 16 = false → w = W.drew) ∧
  (L 17 = false → L 12 = false → L 16 = true → s 16 = .pointer (some ⟨W.heap.size, 0, none⟩) ∧ w = (W.drew.alloc (.cells #[.int .i64 0, .string ⟨#[]⟩, .string ⟨#[]⟩, .bool false, .slice none 0 0, .int .i64 0, .int .i64 0] 36))) ∧
  (L 17 = false → L 12 = true → L 16 = false → ∃ v ve, s 12 = .tuple #[v, ve] ∧ Below W.heap.size W w ∧ XR W.heap.size (fun _ => False) X w v ve) ∧
  (L 17 = false → L 12 = true → L 16 = true → ∃ qb v ve, s 16 = .pointer (some ⟨qb, 0, none⟩) ∧ s 12 = .tuple #[v, ve] ∧ W.heap.size ≤ qb ∧ ZB w qb ∧ Below W.heap.size W w ∧ XR W.heap.size (fun b => b = qb) X w v ve)
theorem levels_r6S.below {W : World} {X : Except (Int × Int) Ex} {L : Nat → Bool} {s : Nat → Value} {w : World} (h : levels_r6S W X L s w) : Below W.heap.size W w := by
  obtain ⟨-, -, -, -, h8, h1, h2, h3, h4⟩ := h
  cases e8 : L 17 with
  | true =>
    obtain ⟨W2, qb, v, ve, i0, i6, s1, s2, b3, a4, n4, c4, -, -, -, hqb, -, hc, -, rfl⟩ := h8 e8
    exact below7 hc hqb _ _ _ _ _ _ _
  | false =>
    cases e3 : L 12 with
    | false =>
      cases e7 : L 16 with
      | false => rw [h1 e8 e3 e7]; exact (Below.refl _ W).drew
      | true => rw [(h2 e8 e3 e7).2]; exact ((Below.refl _ W).drew).alloc (Nat.le_refl _) _
    | true =>
      cases e7 : L 16 with
      | false =>
        obtain ⟨v, ve, -, hb, -⟩ := h3 e8 e3 e7
        exact hb
      | true =>
        obtain ⟨qb, v, ve, -, -, -, -, hb, -⟩ := h4 e8 e3 e7
        exact hb
set_option maxRecDepth 100000 in
set_option maxHeartbeats 8000000 in
theorem levels_r6 {Q : Exit → Act → World → Prop} {a0 : Act} {W : World} {sq ia ja : Nat} {SI SJ : ByteArray} (h5 : a0.tmps[5]? = some (.slice (some ⟨sq, 0, none⟩) 12 12)) (h7 : a0.tmps[7]? = some (.int .i64 (ia : Int))) (h8 : a0.tmps[8]? = some (.int .i64 (ja : Int))) (hia : ia < 12) (hja : ja < 12) (hsi : SI.size ≤ 3) (hsj : SJ.size ≤ 3) (hc : ∀ w, Below W.heap.size W w → w.cell? ⟨sq, ia, none⟩ = some (.string SI) ∧ w.cell? ⟨sq, ja, none⟩ = some (.string SJ)) (hN : a0.tmps.size = 130) (hC : ∀ W', Below W.heap.size W W' → Calls Tryz.prog 17 #[.string ((⟨#[117, 32]⟩ : ByteArray) ++ SI ++ (⟨#[32, 118, 32]⟩ : ByteArray) ++ SJ ++ (⟨#[32, 119]⟩ : ByteArray))] W' (ExprP ((⟨#[117, 32]⟩ : ByteArray) ++ SI ++ (⟨#[32, 118, 32]⟩ : ByteArray) ++ SJ ++ (⟨#[32, 119]⟩ : ByteArray)) W'))
    (hend : ∀ (a : Act) (W2 : World) (qb : Nat) (ve : Value) (i0 i6 : Int) (s1 s2 : ByteArray) (b3 : Bool) (a4 : Option Addr) (n4 c4 : Nat), a.defers = a0.defers → (∀ k, k ∈ ((List.range 130).filter fun i => !([9, 10, 28, 29, 30, 31, 32, 33, 34, 35, 36, 37, 38, 39, 40, 41, 42, 43].contains i)) → a.tmps[k]? = a0.tmps[k]?) → a.tmps.size = 130 → a.tmps[9]? = some (.pointer (some ⟨qb, 0, none⟩)) → a.tmps[10]? = some ve → W.heap.size ≤ qb → ZB W2 qb → Below W.heap.size W W2 → XR W.heap.size (fun b => b = qb) (exprS ((⟨#[117, 32]⟩ : ByteArray) ++ SI ++ (⟨#[32, 118, 32]⟩ : ByteArray) ++ SJ ++ (⟨#[32, 119]⟩ : ByteArray))) W2 (.agg #[.int .i64 i0, .string s1, .string s2, .bool b3, .slice a4 n4 c4, .int .i64 0, .int .i64 i6]) ve → Q .normal a (set7 W2 qb (.int .i64 i0) (.string s1) (.string s2) (.bool b3) (.slice a4 n4 c4) (.int .i64 0) (.int .i64 i6))) :
    (Code.region 6 (regionOf Tryz.f9 6).toArray true).wp Tryz.prog Q a0 W := by
  have z1 : (⟨#[117, 32]⟩ : ByteArray).size = 2 := rfl
  have z2 : (⟨#[32, 118, 32]⟩ : ByteArray).size = 3 := rfl
  have z3 : (⟨#[32, 119]⟩ : ByteArray).size = 2 := rfl
  have hl : (regionOf Tryz.f9 6).length = 19 := by kernel_rfl
  have hds : ((List.range 19).all fun i => i == 17 || ((regionOf Tryz.f9 6).getD i default).dst.isSome) = true := by kernel_rfl
  refine wp_region_any (by kernel_rfl) ?_
  refine seqP (l := (regionOf Tryz.f9 6)) 130 ((List.range 130).filter fun i => !([9, 10, 28, 29, 30, 31, 32, 33, 34, 35, 36, 37, 38, 39, 40, 41, 42, 43].contains i)) (fun j v => ∀ u, ([.slice (some ⟨sq, 0, none⟩) 12 12, .int .i64 (ia : Int), .pointer (some ⟨sq, ia, none⟩), .string SI, .string ((⟨#[117, 32]⟩ : ByteArray) ++ SI), .string ((⟨#[117, 32]⟩ : ByteArray) ++ SI ++ (⟨#[32, 118, 32]⟩ : ByteArray)), .slice (some ⟨sq, 0, none⟩) 12 12, .int .i64 (ja : Int), .pointer (some ⟨sq, ja, none⟩), .string SJ, .string ((⟨#[117, 32]⟩ : ByteArray) ++ SI ++ (⟨#[32, 118, 32]⟩ : ByteArray) ++ SJ), .string ((⟨#[117, 32]⟩ : ByteArray) ++ SI ++ (⟨#[32, 118, 32]⟩ : ByteArray) ++ SJ ++ (⟨#[32, 119]⟩ : ByteArray))] : List Value)[j]? = some u → v = u) (fun j => j == 12 || j == 13 || j == 14 || j == 15 || j == 16 || j == 17 || j == 18) (levels_r6S W (exprS ((⟨#[117, 32]⟩ : ByteArray) ++ SI ++ (⟨#[32, 118, 32]⟩ : ByteArray) ++ SJ ++ (⟨#[32, 119]⟩ : ByteArray)))) (by kernel_rfl) hN ?_ ?_ ?_ ?_ ?_ ?_ ?_
  · intro i hi
    rw [hl]
    simp at hi
    omega
  · refine ⟨fun h => (by cases h), fun h => (by cases h), fun h => (by cases h), fun h => (by cases h), fun h => (by cases h), fun _ _ _ => rfl, fun _ _ h => (by cases h), fun _ h => (by cases h), fun _ h => (by cases h)⟩
  · intro L L' s s' w h hs
    have l12 := (h 12 (by decide)).1
    have l13 := (h 13 (by decide)).1
    have l14 := (h 14 (by decide)).1
    have l15 := (h 15 (by decide)).1
    have l16 := (h 16 (by decide)).1
    have l17 := (h 17 (by decide)).1
    have l18 := (h 18 (by decide)).1
    have s12 := (h 12 (by decide)).2 (by kernel_rfl)
    have s13 := (h 13 (by decide)).2 (by kernel_rfl)
    have s14 := (h 14 (by decide)).2 (by kernel_rfl)
    have s15 := (h 15 (by decide)).2 (by kernel_rfl)
    have s16 := (h 16 (by decide)).2 (by kernel_rfl)
    have s18 := (h 18 (by decide)).2 (by kernel_rfl)
    unfold levels_r6S at hs ⊢
    rw [← l12, ← l13, ← l14, ← l15, ← l16, ← l17, ← l18, ← s12, ← s13, ← s14, ← s15, ← s16, ← s18]
    exact hs
  · intro i o ho hd
    have hi : i < 19 := by rw [← hl]; exact (List.getElem?_eq_some_iff.1 ho).1
    have he : (regionOf Tryz.f9 6).getD i default = o := by simp [List.getD, ho]
    have := List.all_eq_true.1 hds i (List.mem_range.2 hi)
    rw [he, hd] at this
    obtain rfl : i = 17 := by simpa using this
    exact ⟨by decide, fun v u hu => by cases hu⟩
  · intro i hi hni a w L hd hsz hk hp hs
    rw [hl] at hi
    have hii : i = 0 ∨ i = 1 ∨ i = 2 ∨ i = 3 ∨ i = 4 ∨ i = 5 ∨ i = 6 ∨ i = 7 ∨ i = 8 ∨ i = 9 ∨ i = 10 ∨ i = 11 := by simp at hni; omega
    have hBw := levels_r6S.below hs
    rcases hii with rfl | rfl | rfl | rfl | rfl | rfl | rfl | rfl | rfl | rfl | rfl | rfl
    · exact st_want (wnone rfl) (op_move ⟨_, rfl, rfl, fun u hu => (getD_of ((hk 5 (by decide)).trans h5)).trans (Option.some.inj hu)⟩)
    · exact st_want (wnone rfl) (op_move ⟨_, rfl, rfl, fun u hu => (getD_of ((hk 7 (by decide)).trans h7)).trans (Option.some.inj hu)⟩)
    · have e1 : a.eval (.tmp 29) = .slice (some ⟨sq, 0, none⟩) 12 12 := hp 0 (by kernel_rfl) _ rfl
      have e2 : a.eval (.tmp 30) = .int .i64 (ia : Int) := hp 1 (by kernel_rfl) _ rfl
      exact st_want (wnone rfl) (op_idx e1 e2 (lv_ix hia) ⟨_, rfl, rfl, fun u hu => (Option.some.inj hu)⟩)
    · have e1 : a.eval (.tmp 31) = .pointer (some ⟨sq, ia, none⟩) := hp 2 (by kernel_rfl) _ rfl
      exact st_want (wnone rfl) (op_load e1 (ld_str (hc w hBw).1) ⟨_, rfl, rfl, fun u hu => (Option.some.inj hu)⟩)
    · have e1 : a.eval (.tmp 32) = .string SI := hp 3 (by kernel_rfl) _ rfl
      exact st_want (wnone rfl) (op_addS rfl e1 (by simp only [ByteArray.size_append, z1, z2, z3]; omega) ⟨_, rfl, rfl, fun u hu => (Option.some.inj hu)⟩)
    · have e1 : a.eval (.tmp 33) = .string ((⟨#[117, 32]⟩ : ByteArray) ++ SI) := hp 4 (by kernel_rfl) _ rfl
      exact st_want (wnone rfl) (op_addS e1 rfl (by simp only [ByteArray.size_append, z1, z2, z3]; omega) ⟨_, rfl, rfl, fun u hu => (Option.some.inj hu)⟩)
    · exact st_want (wnone rfl) (op_move ⟨_, rfl, rfl, fun u hu => (getD_of ((hk 5 (by decide)).trans h5)).trans (Option.some.inj hu)⟩)
    · exact st_want (wnone rfl) (op_move ⟨_, rfl, rfl, fun u hu => (getD_of ((hk 8 (by decide)).trans h8)).trans (Option.some.inj hu)⟩)
    · have e1 : a.eval (.tmp 35) = .slice (some ⟨sq, 0, none⟩) 12 12 := hp 6 (by kernel_rfl) _ rfl
      have e2 : a.eval (.tmp 36) = .int .i64 (ja : Int) := hp 7 (by kernel_rfl) _ rfl
      exact st_want (wnone rfl) (op_idx e1 e2 (lv_ix hja) ⟨_, rfl, rfl, fun u hu => (Option.some.inj hu)⟩)
    · have e1 : a.eval (.tmp 37) = .pointer (some ⟨sq, ja, none⟩) := hp 8 (by kernel_rfl) _ rfl
      exact st_want (wnone rfl) (op_load e1 (ld_str (hc w hBw).2) ⟨_, rfl, rfl, fun u hu => (Option.some.inj hu)⟩)
    · have e1 : a.eval (.tmp 34) = .string ((⟨#[117, 32]⟩ : ByteArray) ++ SI ++ (⟨#[32, 118, 32]⟩ : ByteArray)) := hp 5 (by kernel_rfl) _ rfl
      have e2 : a.eval (.tmp 38) = .string SJ := hp 9 (by kernel_rfl) _ rfl
      exact st_want (wnone rfl) (op_addS e1 e2 (by simp only [ByteArray.size_append, z1, z2, z3]; omega) ⟨_, rfl, rfl, fun u hu => (Option.some.inj hu)⟩)
    · have e1 : a.eval (.tmp 39) = .string ((⟨#[117, 32]⟩ : ByteArray) ++ SI ++ (⟨#[32, 118, 32]⟩ : ByteArray) ++ SJ) := hp 10 (by kernel_rfl) _ rfl
      exact st_want (wnone rfl) (op_addS e1 rfl (by simp only [ByteArray.size_append, z1, z2, z3]; omega) ⟨_, rfl, rfl, fun u hu => (Option.some.inj hu)⟩)
  · intro i hi a w L hd hsz hk hp hLi hdown hs
    have hi4 : i = 12 ∨ i = 13 ∨ i = 14 ∨ i = 15 ∨ i = 16 ∨ i = 17 ∨ i = 18 := by simp at hi; omega
    have hBw := levels_r6S.below hs
    obtain ⟨gM, gX, gE, gB, g8, g1, g2, g3, g4⟩ := hs
    have dn : ∀ j k, j < 19 → L j = true → (preds ((regionOf Tryz.f9 6).getD j default)).contains k = true → L k = true := fun j k hj h1 h2 => hdown j (by rw [hl]; exact hj) h1 k h2
    rcases hi4 with rfl | rfl | rfl | rfl | rfl | rfl | rfl
    · have hM : L 13 = false := (by cases e : L 13 with | false => rfl | true => exact absurd (dn 13 12 (by omega) e (by kernel_rfl)) (by rw [hLi]; exact Bool.false_ne_true))
      have hX : L 14 = false := by cases e : L 14 with | false => rfl | true => exact absurd (dn 14 13 (by omega) e (by kernel_rfl)) (by rw [hM]; exact Bool.false_ne_true)
      have hE : L 15 = false := by cases e : L 15 with | false => rfl | true => exact absurd (dn 15 13 (by omega) e (by kernel_rfl)) (by rw [hM]; exact Bool.false_ne_true)
      have hB : L 18 = false := by cases e : L 18 with | false => rfl | true => exact absurd (dn 18 15 (by omega) e (by kernel_rfl)) (by rw [hE]; exact Bool.false_ne_true)
      have h8 : L 17 = false := by cases e : L 17 with | false => rfl | true => exact absurd (dn 17 14 (by omega) e (by kernel_rfl)) (by rw [hX]; exact Bool.false_ne_true)
      have e1 : a.tmps.getD 40 undef = .string ((⟨#[117, 32]⟩ : ByteArray) ++ SI ++ (⟨#[32, 118, 32]⟩ : ByteArray) ++ SJ ++ (⟨#[32, 119]⟩ : ByteArray)) := (hp 11 (by kernel_rfl)).2 _ rfl
      have hargs : (#[Operand.tmp 40]).map a.eval = #[.string ((⟨#[117, 32]⟩ : ByteArray) ++ SI ++ (⟨#[32, 118, 32]⟩ : ByteArray) ++ SJ ++ (⟨#[32, 119]⟩ : ByteArray))] := by
        simp only [List.map_toArray, List.map_cons, List.map_nil, Act.eval]
        rw [e1]
      refine st_want (wnone rfl) (op_callP enter_pexpr ?_)
      rw [hargs]
      refine (hC w hBw).mono ?_
      intro e w' h'
      have hu : ∀ j, j ≠ 12 → upL L 12 j = L j := fun j h => upL_other h
      cases e7 : L 16 with
      | false =>
        have hw := g1 h8 hLi e7
        obtain ⟨hb, v, ve, rfl, hx⟩ := XR.of h' W.heap.size (fun _ => False) (by rw [hw]; exact Nat.le_refl _) (fun b h => h.elim) (fun b h => h.elim)
        refine .inl ⟨_, rfl, _, rfl, (fun _ u hu => by cases hu), fun h => ?_, fun h => ?_, fun h => ?_, fun h => ?_, fun h => ?_, fun _ h => ?_, fun _ h => ?_, fun _ _ _ => ?_, fun _ _ h => ?_⟩
        · rw [hu 13 (by decide), hM] at h; cases h
        · rw [hu 14 (by decide), hX] at h; cases h
        · rw [hu 15 (by decide), hE] at h; cases h
        · rw [hu 18 (by decide), hB] at h; cases h
        · rw [hu 17 (by decide), h8] at h; cases h
        · rw [upL_same] at h; cases h
        · rw [upL_same] at h; cases h
        · exact ⟨v, ve, upS_same _ _ _, hBw.trans (hb.mono hBw.size), hx⟩
        · rw [hu 16 (by decide), e7] at h; cases h
      | true =>
        obtain ⟨h1, hw⟩ := g2 h8 hLi e7
        have hsz2 : w.heap.size = W.heap.size + 1 := by rw [hw]; simp
        have hz0 : ZB w W.heap.size := by rw [hw]; exact (MapKept.heap_alloc W.drew _).1
        obtain ⟨hb, v, ve, rfl, hx⟩ := XR.of h' W.heap.size (fun b => b = W.heap.size) hBw.size (fun b h => by rw [h]; omega) (fun b h => by rw [h]; exact hz0)
        refine .inl ⟨_, rfl, _, rfl, (fun _ u hu => by cases hu), fun h => ?_, fun h => ?_, fun h => ?_, fun h => ?_, fun h => ?_, fun _ h => ?_, fun _ h => ?_, fun _ _ h => ?_, fun _ _ _ => ?_⟩
        · rw [hu 13 (by decide), hM] at h; cases h
        · rw [hu 14 (by decide), hX] at h; cases h
        · rw [hu 15 (by decide), hE] at h; cases h
        · rw [hu 18 (by decide), hB] at h; cases h
        · rw [hu 17 (by decide), h8] at h; cases h
        · rw [upL_same] at h; cases h
        · rw [upL_same] at h; cases h
        · rw [hu 16 (by decide), e7] at h; cases h
        · exact ⟨W.heap.size, v, ve, (upS_other (by decide)).trans h1, upS_same _ _ _, Nat.le_refl _, (hb.block _ (by omega)).trans hz0, hBw.trans (hb.mono hBw.size), hx⟩
    · have hC' : L 12 = true := (hp 12 (by kernel_rfl)).1
      have hX : L 14 = false := (by cases e : L 14 with | false => rfl | true => exact absurd (dn 14 13 (by omega) e (by kernel_rfl)) (by rw [hLi]; exact Bool.false_ne_true))
      have hE : L 15 = false := (by cases e : L 15 with | false => rfl | true => exact absurd (dn 15 13 (by omega) e (by kernel_rfl)) (by rw [hLi]; exact Bool.false_ne_true))
      have hu : ∀ j, j ≠ 13 → upL L 13 j = L j := fun j h => upL_other h
      refine st_want (wnone rfl) (op_move ⟨_, rfl, (fun _ u hu => by cases hu), fun h => ?_, fun h => ?_, fun h => ?_, fun h => ?_, ?_, ?_, ?_, ?_, ?_⟩)
      · rw [upS_same, upS_other (by decide)]; rfl
      · rw [hu 14 (by decide), hX] at h; cases h
      · rw [hu 15 (by decide), hE] at h; cases h
      · rw [hu 18 (by decide)] at h; rw [upS_other (by decide), upS_other (by decide)]; exact gB h
      · rw [hu 17 (by decide)] at *; rw [upS_other (by decide), upS_other (by decide)]; exact g8
      · rw [hu 17 (by decide), hu 12 (by decide), hu 16 (by decide)]; exact g1
      · rw [hu 17 (by decide), hu 12 (by decide), hu 16 (by decide), upS_other (by decide)]; exact g2
      · rw [hu 17 (by decide), hu 12 (by decide), hu 16 (by decide), upS_other (by decide)]; exact g3
      · rw [hu 17 (by decide), hu 12 (by decide), hu 16 (by decide), upS_other (by decide), upS_other (by decide)]; exact g4
    · have hM' : L 13 = true := (hp 13 (by kernel_rfl)).1
      have hC' : L 12 = true := dn 13 12 (by omega) hM' (by kernel_rfl)
      have htup : ∃ v ve, slotOf (regionOf Tryz.f9 6).toArray a 12 = .tuple #[v, ve] := by
        cases e8 : L 17 with
        | true =>
          obtain ⟨W2, qb, v, ve, i0, i6, s1, s2, b3, a4, n4, c4, -, h, -⟩ := g8 e8
          exact ⟨v, ve, h⟩
        | false =>
          cases e7 : L 16 with
          | false =>
            obtain ⟨v, ve, h, -⟩ := g3 e8 hC' e7
            exact ⟨v, ve, h⟩
          | true =>
            obtain ⟨qb, v, ve, -, h, -⟩ := g4 e8 hC' e7
            exact ⟨v, ve, h⟩
      obtain ⟨v, ve, e0⟩ := htup
      have e1 : a.tmps.getD 28 undef = .tuple #[v, ve] := (gM hM').trans e0
      have hu : ∀ j, j ≠ 14 → upL L 14 j = L j := fun j h => upL_other h
      refine st_want (wnone rfl) (op_ext e1 (show (#[v, ve] : Array Value)[0]? = some v from rfl) ⟨_, rfl, (fun _ u hu => by cases hu), fun h => ?_, fun h => ?_, fun h => ?_, fun h => ?_, ?_, ?_, ?_, ?_, ?_⟩)
      · rw [hu 13 (by decide)] at h; rw [upS_other (by decide), upS_other (by decide)]; exact gM h
      · exact ⟨v, ve, (upS_other (by decide)).trans e0, upS_same _ _ _⟩
      · rw [hu 15 (by decide)] at h; rw [upS_other (by decide), upS_other (by decide)]; exact gE h
      · rw [hu 18 (by decide)] at h; rw [upS_other (by decide), upS_other (by decide)]; exact gB h
      · rw [hu 17 (by decide)] at *; rw [upS_other (by decide), upS_other (by decide)]; exact g8
      · rw [hu 17 (by decide), hu 12 (by decide), hu 16 (by decide)]; exact g1
      · rw [hu 17 (by decide), hu 12 (by decide), hu 16 (by decide), upS_other (by decide)]; exact g2
      · rw [hu 17 (by decide), hu 12 (by decide), hu 16 (by decide), upS_other (by decide)]; exact g3
      · rw [hu 17 (by decide), hu 12 (by decide), hu 16 (by decide), upS_other (by decide), upS_other (by decide)]; exact g4
    · have hM' : L 13 = true := (hp 13 (by kernel_rfl)).1
      have hC' : L 12 = true := dn 13 12 (by omega) hM' (by kernel_rfl)
      have hB : L 18 = false := (by cases e : L 18 with | false => rfl | true => exact absurd (dn 18 15 (by omega) e (by kernel_rfl)) (by rw [hLi]; exact Bool.false_ne_true))
      have htup : ∃ v ve, slotOf (regionOf Tryz.f9 6).toArray a 12 = .tuple #[v, ve] := by
        cases e8 : L 17 with
        | true =>
          obtain ⟨W2, qb, v, ve, i0, i6, s1, s2, b3, a4, n4, c4, -, h, -⟩ := g8 e8
          exact ⟨v, ve, h⟩
        | false =>
          cases e7 : L 16 with
          | false =>
            obtain ⟨v, ve, h, -⟩ := g3 e8 hC' e7
            exact ⟨v, ve, h⟩
          | true =>
            obtain ⟨qb, v, ve, -, h, -⟩ := g4 e8 hC' e7
            exact ⟨v, ve, h⟩
      obtain ⟨v, ve, e0⟩ := htup
      have e1 : a.tmps.getD 28 undef = .tuple #[v, ve] := (gM hM').trans e0
      have hu : ∀ j, j ≠ 15 → upL L 15 j = L j := fun j h => upL_other h
      refine st_want (wnone rfl) (op_ext e1 (show (#[v, ve] : Array Value)[1]? = some ve from rfl) ⟨_, rfl, (fun _ u hu => by cases hu), fun h => ?_, fun h => ?_, fun h => ?_, fun h => ?_, ?_, ?_, ?_, ?_, ?_⟩)
      · rw [hu 13 (by decide)] at h; rw [upS_other (by decide), upS_other (by decide)]; exact gM h
      · rw [hu 14 (by decide)] at h; rw [upS_other (by decide), upS_other (by decide)]; exact gX h
      · exact ⟨v, ve, (upS_other (by decide)).trans e0, upS_same _ _ _⟩
      · rw [hu 18 (by decide), hB] at h; cases h
      · rw [hu 17 (by decide)] at *; rw [upS_other (by decide), upS_other (by decide)]; exact g8
      · rw [hu 17 (by decide), hu 12 (by decide), hu 16 (by decide)]; exact g1
      · rw [hu 17 (by decide), hu 12 (by decide), hu 16 (by decide), upS_other (by decide)]; exact g2
      · rw [hu 17 (by decide), hu 12 (by decide), hu 16 (by decide), upS_other (by decide)]; exact g3
      · rw [hu 17 (by decide), hu 12 (by decide), hu 16 (by decide), upS_other (by decide), upS_other (by decide)]; exact g4
    · have h8 : L 17 = false := (by cases e : L 17 with | false => rfl | true => exact absurd (dn 17 16 (by omega) e (by kernel_rfl)) (by rw [hLi]; exact Bool.false_ne_true))
      have hu : ∀ j, j ≠ 16 → upL L 16 j = L j := fun j h => upL_other h
      refine st_want (wnone rfl) (op_alE ⟨_, rfl, (fun _ u hu => by cases hu), fun h => ?_, fun h => ?_, fun h => ?_, fun h => ?_, fun h => ?_, fun _ _ h => ?_, fun _ h _ => ?_, fun _ _ h => ?_, fun _ h _ => ?_⟩)
      · rw [hu 13 (by decide)] at h; rw [upS_other (by decide), upS_other (by decide)]; exact gM h
      · rw [hu 14 (by decide)] at h; rw [upS_other (by decide), upS_other (by decide)]; exact gX h
      · rw [hu 15 (by decide)] at h; rw [upS_other (by decide), upS_other (by decide)]; exact gE h
      · rw [hu 18 (by decide)] at h; rw [upS_other (by decide), upS_other (by decide)]; exact gB h
      · rw [hu 17 (by decide), h8] at h; cases h
      · rw [upL_same] at h; cases h
      · rw [hu 12 (by decide)] at h
        have hw := g1 h8 h hLi
        rw [upS_same, hw]
        exact ⟨rfl, rfl⟩
      · rw [upL_same] at h; cases h
      · rw [hu 12 (by decide)] at h
        obtain ⟨v, ve, e0, hb, hx⟩ := g3 h8 h hLi
        have hB : Below w.heap.size w (w.alloc (.cells #[.int .i64 0, .string ⟨#[]⟩, .string ⟨#[]⟩, .bool false, .slice none 0 0, .int .i64 0, .int .i64 0] 36)) := (Below.refl _ w).alloc (Nat.le_refl _) _
        rw [upS_same, upS_other (by decide)]
        exact ⟨w.heap.size, v, ve, rfl, e0, hb.size, (MapKept.heap_alloc w _).1, hb.trans (hB.mono hb.size), hx.alloc _⟩
    · have hX' := (hp 14 (by kernel_rfl)).1
      have hA' := (hp 16 (by kernel_rfl)).1
      have hM' : L 13 = true := dn 14 13 (by omega) hX' (by kernel_rfl)
      have hC' : L 12 = true := dn 13 12 (by omega) hM' (by kernel_rfl)
      obtain ⟨v2, ve2, eC, eX⟩ := gX hX'
      obtain ⟨qb, v, ve, eA, eC2, hqb, hz, hb, hx⟩ := g4 hLi hC' hA'
      obtain ⟨rfl, rfl⟩ : v2 = v ∧ ve2 = ve := by rw [eC] at eC2; simpa using eC2
      obtain ⟨i0, i6, s1, s2, b3, a4, n4, c4, rfl⟩ := hx.form
      have hu : ∀ j, j ≠ 17 → upL L 17 j = L j := fun j h => upL_other h
      have eA' : a.tmps.getD 9 undef = .pointer (some ⟨qb, 0, none⟩) := eA
      have eX' : a.tmps.getD 42 undef = .agg #[.int .i64 i0, .string s1, .string s2, .bool b3, .slice a4 n4 c4, .int .i64 0, .int .i64 i6] := eX
      refine st_want (wnone rfl) (op_stE eA' eX' hz ⟨undef, rfl, (fun h => absurd (show false = true from h) (by decide)), fun h => ?_, fun h => ?_, fun h => ?_, fun h => ?_, fun _ => ?_, fun h => ?_, fun h => ?_, fun h => ?_, fun h => ?_⟩)
      · rw [hu 13 (by decide)] at h; rw [upS_other (by decide), upS_other (by decide)]; exact gM h
      · rw [hu 14 (by decide)] at h; rw [upS_other (by decide), upS_other (by decide)]; exact gX h
      · rw [hu 15 (by decide)] at h; rw [upS_other (by decide), upS_other (by decide)]; exact gE h
      · rw [hu 18 (by decide)] at h; rw [upS_other (by decide), upS_other (by decide)]; exact gB h
      · rw [upS_other (by decide), upS_other (by decide)]
        exact ⟨w, qb, _, ve2, i0, i6, s1, s2, b3, a4, n4, c4, eA, eC, rfl, hqb, hz, hb, hx, rfl⟩
      · rw [upL_same] at h; cases h
      · rw [upL_same] at h; cases h
      · rw [upL_same] at h; cases h
      · rw [upL_same] at h; cases h
    · have hE' : L 15 = true := (hp 15 (by kernel_rfl)).1
      have hu : ∀ j, j ≠ 18 → upL L 18 j = L j := fun j h => upL_other h
      refine st_want (wnone rfl) (op_assign ⟨_, rfl, (fun _ u hu => by cases hu), fun h => ?_, fun h => ?_, fun h => ?_, fun h => ?_, ?_, ?_, ?_, ?_, ?_⟩)
      · rw [hu 13 (by decide)] at h; rw [upS_other (by decide), upS_other (by decide)]; exact gM h
      · rw [hu 14 (by decide)] at h; rw [upS_other (by decide), upS_other (by decide)]; exact gX h
      · rw [hu 15 (by decide)] at h; rw [upS_other (by decide), upS_other (by decide)]; exact gE h
      · rw [upS_same, upS_other (by decide)]; rfl
      · rw [hu 17 (by decide)] at *; rw [upS_other (by decide), upS_other (by decide)]; exact g8
      · rw [hu 17 (by decide), hu 12 (by decide), hu 16 (by decide)]; exact g1
      · rw [hu 17 (by decide), hu 12 (by decide), hu 16 (by decide), upS_other (by decide)]; exact g2
      · rw [hu 17 (by decide), hu 12 (by decide), hu 16 (by decide), upS_other (by decide)]; exact g3
      · rw [hu 17 (by decide), hu 12 (by decide), hu 16 (by decide), upS_other (by decide), upS_other (by decide)]; exact g4
  · intro a w hd hsz hk hp hs
    obtain ⟨-, -, hE, hB, hS, -⟩ := hs
    obtain ⟨W2, qb, v, ve, i0, i6, s1, s2, b3, a4, n4, c4, eA, eC, rfl, hqb, hz, hb, hx, rfl⟩ := hS rfl
    obtain ⟨v2, ve2, eC2, eE⟩ := hE rfl
    obtain ⟨-, rfl⟩ : _ = v2 ∧ ve = ve2 := by rw [eC] at eC2; simpa using eC2
    have eA' : a.tmps.getD 9 undef = .pointer (some ⟨qb, 0, none⟩) := eA
    have eB' : a.tmps.getD 10 undef = ve := (hB rfl).trans eE
    have get : ∀ k v, k < 130 → a.tmps.getD k undef = v → a.tmps[k]? = some v := fun k v hk h => by
      have h1 : k < a.tmps.size := by omega
      rw [Array.getD_eq_getD_getElem?, Array.getElem?_eq_getElem h1] at h
      rw [Array.getElem?_eq_getElem h1]
      exact congrArg some h
    exact hend a W2 qb ve i0 i6 s1 s2 b3 a4 n4 c4 hd hk hsz (get _ _ (by omega) eA') (get _ _ (by omega) eB') hqb hz hb hx
end Go.Proofs.YtfkfnbehdcmgeaaGreatDoor

/- Package parse: a parameter. -/
namespace Go.Proofs.YtfkfnbehdcmgeaaGreatDoor
open Go Go.RowKit
def setAll (x : Nat → Value) : List Nat → Array Value → Array Value
  | [], t => t
  | k :: ks, t => setAll x ks (t.setIfInBounds k (x k))
theorem setAll_size (x : Nat → Value) : ∀ (ks : List Nat) (t : Array Value), (setAll x ks t).size = t.size
  | [], _ => rfl
  | k :: ks, t => by
    show (setAll x ks (t.setIfInBounds k (x k))).size = t.size
    rw [setAll_size x ks, Array.size_setIfInBounds]
theorem setAll_off (x : Nat → Value) {i : Nat} : ∀ (ks : List Nat) (t : Array Value), i ∉ ks → (setAll x ks t)[i]? = t[i]?
  | [], _, _ => rfl
  | k :: ks, t, h => by
    show (setAll x ks (t.setIfInBounds k (x k)))[i]? = t[i]?
    rw [setAll_off x ks _ (fun e => h (List.mem_cons_of_mem _ e)), Array.getElem?_setIfInBounds, if_neg fun e => h (by rw [e]; exact List.mem_cons_self)]
theorem setAll_on (x : Nat → Value) {i : Nat} : ∀ (ks : List Nat) (t : Array Value), i ∈ ks → i < t.size → (setAll x ks t)[i]? = some (x i)
  | k :: ks, t, h, hi => by
    show (setAll x ks (t.setIfInBounds k (x k)))[i]? = some (x i)
    by_cases hm : i ∈ ks
    · exact setAll_on x ks _ hm (by rw [Array.size_setIfInBounds]; exact hi)
    · obtain rfl : i = k := (List.mem_cons.1 h).resolve_right hm
      rw [setAll_off x ks _ hm, Array.getElem?_setIfInBounds, if_pos rfl, if_pos hi]
/-- A frame that is another one but for some slots. -/
theorem act_set {N : Nat} {kept : List Nat} (ks : List Nat) {a a0 : Act} (hc : ((List.range N).all fun i => kept.contains i || ks.contains i) = true) (hd : a.defers = a0.defers) (hn : a.tmps.size = N) (hN : a0.tmps.size = N) (hk : ∀ k, k ∈ kept → a.tmps[k]? = a0.tmps[k]?) : ∃ x : Nat → Value, a = ⟨setAll x ks a0.tmps, a0.defers⟩ ∧ ∀ i, x i = a.tmps.getD i undef := by
  refine ⟨fun i => a.tmps.getD i undef, ?_, fun _ => rfl⟩
  obtain ⟨tm, df⟩ := a
  simp only at hd hn hk ⊢
  rw [hd]
  congr 1
  refine Array.ext_getElem? fun i => ?_
  by_cases h : i < N
  · by_cases hm : i ∈ ks
    · rw [setAll_on _ ks _ hm (by omega)]
      simp [Array.getD_eq_getD_getElem?, hn, h]
    · rw [setAll_off _ ks _ hm]
      refine hk i ?_
      have := List.all_eq_true.1 hc i (List.mem_range.2 h)
      simpa [hm] using this
  · rw [Array.getElem?_eq_none (by omega), Array.getElem?_eq_none (by rw [setAll_size]; omega)]
/-- A parameter as a value. -/
def PmV (w : World) (lo : Nat) (v : Value) (x : Pm) : Prop := ∃ a n c, v = .agg #[.string x.name, .int .i64 x.t.kind, .string x.t.name, .slice a n c, .int .i64 x.t.at', .int .i64 x.at'] ∧ IsLs w lo (.slice a n c) x.t.r
theorem PmV.keep (w w' : World) (lo lo' : Nat) (v : Value) (t : Pm) (h : PmV w lo v t) (hb : Stays lo w w') (hl : lo' ≤ lo) : PmV w' lo' v t := by
  obtain ⟨a, n, c, e, h⟩ := h
  exact ⟨a, n, c, e, h.keep hb hl⟩
set_option maxRecDepth 100000 in
set_option maxHeartbeats 8000000 in
theorem param_of {r d lo : Nat} {ts : List (Int × ByteArray × Int)} (hT : TsOk ts) (hE : RuC 59 r ts d lo (exR ts)) {w : World} {p : Nat} (hlo : lo ≤ p) (hR : RD w r ts p d) : Calls Tryz.prog 105 #[.pointer (some ⟨r, 0, none⟩)] w (RP (fun w' v t => PmV w' w.heap.size v t) (paramR ts p) r ts p d w) := by
  obtain ⟨Y, hY⟩ : ∃ Y, paramR ts p = Y := ⟨_, rfl⟩
  rw [hY]
  unfold paramR at hY
  have hr := hR.rlt
  obtain ⟨A, eA, hbA, hsA, hzA⟩ := box_new w #[.string ⟨#[]⟩, .int .i64 0, .string ⟨#[]⟩, .slice none 0 0, .int .i64 0, .int .i64 0] 81
  have HB := hide (But.of (r := r) hbA)
  have HR := hide (hR.keep hbA)
  have HZ := hide hzA
  have HS : Hid (w.heap.size < A.heap.size) := by show _ < _; omega
  have HL : Hid (p ≤ p ∧ lo ≤ p) := ⟨Nat.le_refl _, hlo⟩
  have HSA := hide hsA
  have HE := hide eA
  have HT := hide hT
  have HY := hide hY
  have hrne : r ≠ w.heap.size := by omega
  replace hE := hide hE
  clear hlo hR hbA hzA hsA eA hT hY
  go_enter Tryz.func105, Tryz.ntmps105
  have HC0 := hide (must_any (unhide HR) (unhide HT) (s := ⟨#[40]⟩) (by decide))
  go_wp2_with fail
  rw [unhide HE]
  refine (unhide HC0).mono ?_
  intro e w0 h0
  rcases hX0 : mustR ts ⟨#[40]⟩ (p) with er | ⟨t0, q0⟩
  · rw [hX0] at h0
    obtain ⟨ei, en⟩ := er
    have hYe : Y = .error (ei, en) := by have h := unhide HY; rw [hX0] at h; exact h.symm
    subst hYe
    obtain ⟨hb0, h0⟩ := h0
    obtain rfl : e = _ := h0
    have HP := hide ((unhide HB).trans hb0)
    clear hb0 HC0 hX0
    go_wp2
    exact ⟨rfl, unhide HP, rfl⟩
  rw [hX0] at h0
  obtain ⟨hb0, hle0, hR0, v0, rfl, hv0⟩ := h0
  have hY0 := unhide HY
  rw [hX0] at hY0
  simp only [thenR] at hY0
  replace HY := hide hY0
  clear hY0
  obtain rfl : v0 = _ := hv0
  replace HB := hide ((unhide HB).trans hb0)
  replace HZ := hide (zkeep (unhide HZ) hb0 hrne)
  replace HS := hide (Nat.lt_of_lt_of_le (unhide HS) hb0.size)
  replace HR := hide hR0
  replace HL := hide (And.intro (Nat.le_trans (unhide HL).1 hle0) (Nat.le_trans (unhide HL).2 hle0))
  clear hb0 hle0 hR0 HC0 hX0
  have HC1 := hide (mustBe_any (unhide HR) (unhide HT) (k := 1) (by decide))
  go_wp2_with fail
  refine (unhide HC1).mono ?_
  intro e w1 h1
  rcases hX1 : mustBeR ts 1 (q0) with er | ⟨t1, q1⟩
  · rw [hX1] at h1
    obtain ⟨ei, en⟩ := er
    have hYe : Y = .error (ei, en) := by have h := unhide HY; rw [hX1] at h; exact h.symm
    subst hYe
    obtain ⟨hb1, h1⟩ := h1
    obtain rfl : e = _ := h1
    have HP := hide ((unhide HB).trans hb1)
    clear hb1 HC1 hX1
    go_wp2
    exact ⟨rfl, unhide HP, rfl⟩
  rw [hX1] at h1
  obtain ⟨hb1, hle1, hR1, v1, rfl, hv1⟩ := h1
  have hY1 := unhide HY
  rw [hX1] at hY1
  simp only [thenR] at hY1
  replace HY := hide hY1
  clear hY1
  obtain ⟨kk1, T1, at1⟩ := t1
  obtain rfl : v1 = _ := hv1
  have hf01 := fld0 (.int .i64 kk1) (.string T1) (.int .i64 at1)
  have hf11 := fld1 (.int .i64 kk1) (.string T1) (.int .i64 at1)
  unfold tkV
  replace HB := hide ((unhide HB).trans hb1)
  replace HZ := hide (zkeep (unhide HZ) hb1 hrne)
  replace HS := hide (Nat.lt_of_lt_of_le (unhide HS) hb1.size)
  replace HR := hide hR1
  replace HL := hide (And.intro (Nat.le_trans (unhide HL).1 hle1) (Nat.le_trans (unhide HL).2 hle1))
  clear hb1 hle1 hR1 HC1 hX1
  obtain ⟨B2, eB2, hbB2, hsB2, hhB2⟩ := box_new w1 #[.int .i64 kk1, .string T1, .int .i64 at1] 74
  have ne2 : r ≠ w1.heap.size := by have := unhide HS; omega
  have HQHX2 := HS
  have hbu3 := But.of (r := r) hbB2
  replace HR := hide ((unhide HR).keep hbB2)
  replace HB := hide ((unhide HB).trans hbu3)
  replace HZ := hide (zkeep (unhide HZ) hbu3 hrne)
  replace HS := hide (Nat.lt_of_lt_of_le (unhide HS) hbu3.size)
  have HX2 := hide hhB2
  have HEB2 := hide eB2
  have HSB2 := hide hsB2
  clear eB2 hbB2 hhB2 hsB2
  have HC4 := hide (must_any (unhide HR) (unhide HT) (s := ⟨#[58]⟩) (by decide))
  go_wp2_with fail
  rw [unhide HEB2]
  refine (unhide HC4).mono ?_
  intro e w4 h4
  rcases hX4 : mustR ts ⟨#[58]⟩ (q1) with er | ⟨t4, q4⟩
  · rw [hX4] at h4
    obtain ⟨ei, en⟩ := er
    have hYe : Y = .error (ei, en) := by have h := unhide HY; rw [hX4] at h; exact h.symm
    subst hYe
    obtain ⟨hb4, h4⟩ := h4
    obtain rfl : e = _ := h4
    have HP := hide ((unhide HB).trans hb4)
    clear hb4 HC4 hX4
    go_wp2
    exact ⟨rfl, unhide HP, rfl⟩
  rw [hX4] at h4
  obtain ⟨hb4, hle4, hR4, v4, rfl, hv4⟩ := h4
  have hY4 := unhide HY
  rw [hX4] at hY4
  simp only [thenR] at hY4
  replace HY := hide hY4
  clear hY4
  obtain rfl : v4 = _ := hv4
  replace HB := hide ((unhide HB).trans hb4)
  replace HZ := hide (zkeep (unhide HZ) hb4 hrne)
  replace HX2 := hide (zkeep (unhide HX2) hb4 ne2)
  replace HS := hide (Nat.lt_of_lt_of_le (unhide HS) hb4.size)
  replace HR := hide hR4
  replace HL := hide (And.intro (Nat.le_trans (unhide HL).1 hle4) (Nat.le_trans (unhide HL).2 hle4))
  clear hb4 hle4 hR4 HC4 hX4
  go_wp2_with fail
  refine param_r4 (X := typeR ts q4) rfl rfl rfl (unhide HX2) ne2 (unhide HR).rlt (fun W2 hb2 => typeOf_of (unhide HT) (unhide hE) (unhide HL).2 ((unhide HR).keep hb2)) ?_ ?_
  · intro a w9 ei en hX hd hb
    have hYe : Y = .error (ei, en) := by have h := unhide HY; rw [hX] at h; exact h.symm
    subst hYe
    exact ⟨hd, (unhide HB).trans hb, rfl⟩
  intro a W2 t q qb k n ad m c i hX hd hk h4 hsz hqb hz hb hR hle hv
  obtain ⟨x, hae, hx⟩ := act_set (N := 21) (kept := ((List.range 21).filter fun i => !([11, 12, 13, 14, 15, 16, 17, 4].contains i))) [11, 12, 13, 14, 15, 16, 17, 4] (by decide) hd hsz rfl hk
  have hx4 : x 4 = .pointer (some ⟨qb, 0, none⟩) := by rw [hx, Array.getD_eq_getD_getElem?, h4]; rfl
  subst hae
  obtain ⟨ad2, m2, c2, e9, hls⟩ := hv
  obtain ⟨rfl, rfl, ⟨rfl, rfl, rfl⟩, rfl⟩ : k = t.kind ∧ n = t.name ∧ (ad = ad2 ∧ m = m2 ∧ c = c2) ∧ i = t.at' := by simpa using e9
  obtain ⟨V2, eV2⟩ : ∃ V2, setN W2 qb 0 [.string T1, .int .i64 t.kind, .string t.name, .slice ad m c, .int .i64 t.at', .int .i64 at1] = V2 := ⟨_, rfl⟩
  rw [eV2]
  have hHS := unhide HS
  have hqn : w.heap.size < qb := by omega
  have hY9 := unhide HY
  rw [hX] at hY9
  simp only [thenR] at hY9
  replace HY := hide hY9
  replace HB := hide (by rw [← eV2]; exact But.setN [.string T1, .int .i64 t.kind, .string t.name, .slice ad m c, .int .i64 t.at', .int .i64 at1] W2 0 ((unhide HB).trans hb) (by omega) : But r w V2)
  replace HR := hide (by rw [← eV2]; exact hR.setN (by omega) 0 [.string T1, .int .i64 t.kind, .string t.name, .slice ad m c, .int .i64 t.at', .int .i64 at1] : RD V2 r ts q d)
  replace HZ := hide (by rw [← eV2]; exact (heap_setN (by omega) [.string T1, .int .i64 t.kind, .string t.name, .slice ad m c, .int .i64 t.at', .int .i64 at1] W2 0).trans (zkeep (unhide HZ) hb hrne) : V2.heap[w.heap.size]? = some (.cells #[.string ⟨#[]⟩, .int .i64 0, .string ⟨#[]⟩, .slice none 0 0, .int .i64 0, .int .i64 0] 81))
  have HXq := hide (by rw [← eV2]; exact blk_all (xs := [.string ⟨#[]⟩, .int .i64 0, .string ⟨#[]⟩, .slice none 0 0, .int .i64 0, .int .i64 0]) hz rfl : V2.heap[qb]? = some (.cells [.string T1, .int .i64 t.kind, .string t.name, .slice ad m c, .int .i64 t.at', .int .i64 at1].toArray 81))
  have hsV : V2.heap.size = W2.heap.size := by rw [← eV2]; exact size_setN [.string T1, .int .i64 t.kind, .string t.name, .slice ad m c, .int .i64 t.at', .int .i64 at1] W2 0
  have HTq : Hid (IsLs V2 (w.heap.size + 1) (.slice ad m c) t.r) := (LsP.keep (P' := fun b => w.heap.size + 1 ≤ b) hls ⟨by omega, fun k hk hs => by rw [← eV2]; exact heap_setN hk.2 [.string T1, .int .i64 t.kind, .string t.name, .slice ad m c, .int .i64 t.at', .int .i64 at1] W2 0⟩ fun b hb => by have := hb.1; omega : LsP V2 _ _ _)
  replace HS := hide (by have := hb.size; omega : w.heap.size < V2.heap.size)
  replace HL := hide (And.intro (Nat.le_trans (unhide HL).1 hle) (Nat.le_trans (unhide HL).2 hle))
  have neq : r ≠ qb := by omega
  have hdf : V2 = V2 := rfl
  clear hdf hX hd hk h4 hsz hz hb hR hle e9 hls eV2 hHS hY9 hsV hx hqb
  simp only [setAll]
  rw [hx4]
  clear hx4
  have HC5 := hide (must_any (unhide HR) (unhide HT) (s := ⟨#[41]⟩) (by decide))
  go_wp2_with fail
  refine (unhide HC5).mono ?_
  intro e w5 h5
  rcases hX5 : mustR ts ⟨#[41]⟩ (q) with er | ⟨t5, q5⟩
  · rw [hX5] at h5
    obtain ⟨ei, en⟩ := er
    have hYe : Y = .error (ei, en) := by have h := unhide HY; rw [hX5] at h; exact h.symm
    subst hYe
    obtain ⟨hb5, h5⟩ := h5
    obtain rfl : e = _ := h5
    have HP := hide ((unhide HB).trans hb5)
    clear hb5 HC5 hX5
    go_wp2
    exact ⟨rfl, unhide HP, rfl⟩
  rw [hX5] at h5
  obtain ⟨hb5, hle5, hR5, v5, rfl, hv5⟩ := h5
  have hY5 := unhide HY
  rw [hX5] at hY5
  simp only [thenR] at hY5
  replace HY := hide hY5
  clear hY5
  obtain rfl : v5 = _ := hv5
  replace HB := hide ((unhide HB).trans hb5)
  replace HZ := hide (zkeep (unhide HZ) hb5 hrne)
  replace HXq := hide (zkeep (unhide HXq) hb5 neq)
  replace HTq := hide ((unhide HTq).keep (Stays.but hb5 (by omega)) (Nat.le_refl _))
  replace HS := hide (Nat.lt_of_lt_of_le (unhide HS) hb5.size)
  replace HR := hide hR5
  replace HL := hide (And.intro (Nat.le_trans (unhide HL).1 hle5) (Nat.le_trans (unhide HL).2 hle5))
  clear hb5 hle5 hR5 HC5 hX5
  have x0 := (blk (unhide HXq)).2.1 0 _ rfl
  have x1 := (blk (unhide HXq)).2.1 1 _ rfl
  have x2 := (blk (unhide HXq)).2.1 2 _ rfl
  have x3 := (blk (unhide HXq)).2.1 3 _ rfl
  have x4 := (blk (unhide HXq)).2.1 4 _ rfl
  have x5 := (blk (unhide HXq)).2.1 5 _ rfl
  have HF0 : PmV w5 (w.heap.size + 1) (.agg #[.string T1, .int .i64 t.kind, .string t.name, .slice ad m c, .int .i64 t.at', .int .i64 at1]) (.mk T1 t at1) := ⟨_, _, _, rfl, unhide HTq⟩
  have HF := hide HF0
  clear HF0
  have y0 := (blk (unhide HZ)).2.1 0 _ rfl
  have z0 := (blk (unhide HZ)).2.2 0
  have y1 := (blk (unhide HZ)).2.1 1 _ rfl
  have z1 := (blk (unhide HZ)).2.2 1
  have y2 := (blk (unhide HZ)).2.1 2 _ rfl
  have z2 := (blk (unhide HZ)).2.2 2
  have y3 := (blk (unhide HZ)).2.1 3 _ rfl
  have z3 := (blk (unhide HZ)).2.2 3
  have y4 := (blk (unhide HZ)).2.1 4 _ rfl
  have z4 := (blk (unhide HZ)).2.2 4
  have y5 := (blk (unhide HZ)).2.1 5 _ rfl
  have z5 := (blk (unhide HZ)).2.2 5
  go_wp2
  exact ret_row (cs := [.string T1, .int .i64 t.kind, .string t.name, .slice ad m c, .int .i64 t.at', .int .i64 at1]) (xs := [.string ⟨#[]⟩, .int .i64 0, .string ⟨#[]⟩, .slice none 0 0, .int .i64 0, .int .i64 0]) PmV.keep rfl rfl rfl (unhide HB) hr (unhide HZ) rfl Tryz.underlying81 rfl (by kernel_rfl) (by have h := unhide HY; exact h.symm) (unhide HL).1 (unhide HR) (lo := w.heap.size + 1) (by omega) (unhide HF)
end Go.Proofs.YtfkfnbehdcmgeaaGreatDoor

namespace Go.Proofs.YtfkfnbehdcmgeaaGreatDoor
open Go Go.RowKit
/-- A row of rows of k cells, in blocks of a kind. -/
def RowP (w : World) (k : Nat) (P : Nat → Prop) (v : Value) (n : Nat) (p : Nat → List Value → Prop) : Prop := ∃ a c, v = .slice a n c ∧ n ≤ c ∧ n ≤ 1000000 ∧ (n ≠ 0 → ∃ b off, a = some ⟨b, off, none⟩ ∧ P b ∧ b < w.heap.size ∧ ∀ j, j < n → ∃ cs, w.rangeAt b (off + j * k) cs ∧ p j cs)
theorem RowP.keep {w w' : World} {k n : Nat} {P P' : Nat → Prop} {v : Value} {p q : Nat → List Value → Prop} (h : RowP w k P v n p) (hb : StaysP P w w') (hl : ∀ b, P b → P' b) (hp : ∀ j cs, p j cs → q j cs) : RowP w' k P' v n q := by
  obtain ⟨a, c, e, h1, h2, h3⟩ := h
  refine ⟨a, c, e, h1, h2, fun h0 => ?_⟩
  obtain ⟨b, off, e2, h4, h5, h6⟩ := h3 h0
  refine ⟨b, off, e2, hl b h4, Nat.lt_of_lt_of_le h5 hb.1, fun j hj => ?_⟩
  obtain ⟨cs, h7, h8⟩ := h6 j hj
  exact ⟨cs, range_same h7 (hb.2 b h4 h5), hp j cs h8⟩
theorem RowP.bnd {w : World} {k n : Nat} {P : Nat → Prop} {v : Value} {p q : Nat → List Value → Prop} (h : RowP w k P v n p) (hp : ∀ j cs, p j cs → q j cs) : RowP w k (fun b => P b ∧ b < w.heap.size) v n q := by
  obtain ⟨a, c, e, h1, h2, h3⟩ := h
  refine ⟨a, c, e, h1, h2, fun h0 => ?_⟩
  obtain ⟨b, off, e2, h4, h5, h6⟩ := h3 h0
  refine ⟨b, off, e2, ⟨h4, h5⟩, h5, fun j hj => ?_⟩
  obtain ⟨cs, h7, h8⟩ := h6 j hj
  exact ⟨cs, h7, hp j cs h8⟩
def PmP (w : World) (P : Nat → Prop) (cs : List Value) (x : Pm) : Prop := ∃ a n c, cs = [.string x.name, .int .i64 x.t.kind, .string x.t.name, .slice a n c, .int .i64 x.t.at', .int .i64 x.at'] ∧ LsP w P (.slice a n c) x.t.r
theorem PmP.keep {w w' : World} {P P' : Nat → Prop} {cs : List Value} {x : Pm} (h : PmP w P cs x) (hb : StaysP P w w') (hl : ∀ b, P b → P' b) : PmP w' P' cs x := by
  obtain ⟨a, n, c, e, h⟩ := h
  exact ⟨a, n, c, e, h.keep hb hl⟩
theorem PmP.bnd {w : World} {P : Nat → Prop} {cs : List Value} {x : Pm} (h : PmP w P cs x) : PmP w (fun b => P b ∧ b < w.heap.size) cs x := by
  obtain ⟨a, n, c, e, h⟩ := h
  exact ⟨a, n, c, e, h.bnd⟩
def PsP (w : World) (P : Nat → Prop) (v : Value) (l : List Pm) : Prop := RowP w 6 P v l.length fun j cs => ∀ x, l[j]? = some x → PmP w P cs x
theorem PsP.keep {w w' : World} {P P' : Nat → Prop} {v : Value} {l : List Pm} (h : PsP w P v l) (hb : StaysP P w w') (hl : ∀ b, P b → P' b) : PsP w' P' v l := RowP.keep h hb hl fun _ _ h x hx => (h x hx).keep hb hl
theorem PsP.bnd {w : World} {P : Nat → Prop} {v : Value} {l : List Pm} (h : PsP w P v l) : PsP w (fun b => P b ∧ b < w.heap.size) v l := RowP.bnd h fun _ _ h x hx => (h x hx).bnd
theorem IsPs.form {w : World} {lo : Nat} {v : Value} {l : List Pm} (h : IsPs w lo v l) : ∃ (a : Option Addr) (n c : Nat), v = .slice a n c := by
  obtain ⟨a, c, e, -⟩ := h
  exact ⟨_, _, _, e⟩
structure DeInP (w : World) (P : Nat → Prop) (d : De) (x : DeV) : Prop where
  ps : PsP w P (.slice x.pa x.pn x.pc) d.ps
  ty : LsP w P (.slice x.ta x.tn x.tc) d.t.r
  req : LsP w P (.slice x.ra x.rn x.rc) d.req
  ens : LsP w P (.slice x.ea x.en x.ec) d.ens
  mea : LsP w P (.slice x.ma x.mn x.mc) d.mea
  body : LsP w P (.slice x.ba x.bn x.bc) d.body.l
theorem DeInP.keep {w w' : World} {P P' : Nat → Prop} {d : De} {x : DeV} (h : DeInP w P d x) (hb : StaysP P w w') (hl : ∀ b, P b → P' b) : DeInP w' P' d x := ⟨h.ps.keep hb hl, h.ty.keep hb hl, h.req.keep hb hl, h.ens.keep hb hl, h.mea.keep hb hl, h.body.keep hb hl⟩
theorem DeInP.bnd {w : World} {P : Nat → Prop} {d : De} {x : DeV} (h : DeInP w P d x) : DeInP w (fun b => P b ∧ b < w.heap.size) d x := ⟨h.ps.bnd, h.ty.bnd, h.req.bnd, h.ens.bnd, h.mea.bnd, h.body.bnd⟩
theorem DeIn.toP {w : World} {lo : Nat} {d : De} {x : DeV} (h : DeIn w lo d x) : DeInP w (fun b => lo ≤ b) d x := ⟨h.ps, h.ty, h.req, h.ens, h.mea, h.body⟩
theorem DeInP.toN {w : World} {lo : Nat} {d : De} {x : DeV} (h : DeInP w (fun b => lo ≤ b) d x) : DeIn w lo d x := ⟨h.ps, h.ty, h.req, h.ens, h.mea, h.body⟩
def DeP (w : World) (P : Nat → Prop) (cs : List Value) (d : De) : Prop := ∃ x, cs = deCells d x ∧ DeInP w P d x
theorem DeP.keep {w w' : World} {P P' : Nat → Prop} {cs : List Value} {d : De} (h : DeP w P cs d) (hb : StaysP P w w') (hl : ∀ b, P b → P' b) : DeP w' P' cs d := by
  obtain ⟨x, e, h⟩ := h
  exact ⟨x, e, h.keep hb hl⟩
theorem DeP.bnd {w : World} {P : Nat → Prop} {cs : List Value} {d : De} (h : DeP w P cs d) : DeP w (fun b => P b ∧ b < w.heap.size) cs d := by
  obtain ⟨x, e, h⟩ := h
  exact ⟨x, e, h.bnd⟩
theorem flat_k {k : Nat} : ∀ (vs : List (List Value)) (j : Nat) (v : List Value), (∀ v ∈ vs, v.length = k) → vs[j]? = some v → ∀ (i : Nat) u, v[i]? = some u → vs.flatten[j * k + i]? = some u
  | [], j, v, _, h => by simp at h
  | x :: vs, 0, v, hl, h => fun i u hu => by
    obtain rfl : x = v := by simpa using h
    rw [List.flatten_cons, Nat.zero_mul, Nat.zero_add, List.getElem?_append_left (List.getElem?_eq_some_iff.1 hu).1]
    exact hu
  | x :: vs, j + 1, v, hl, h => fun i u hu => by
    have h7 : x.length = k := hl x (by simp)
    have := flat_k vs j v (fun v hv => hl v (by simp [hv])) (by simpa using h) i u hu
    have e1 : (j + 1) * k + i = x.length + (j * k + i) := by rw [h7, Nat.succ_mul]; omega
    rw [List.flatten_cons, e1, List.getElem?_append_right (by omega), Nat.add_sub_cancel_left]
    exact this
/-- While a row is read: so many elements of k cells each. -/
structure RI {α : Type} (El : World → (Nat → Prop) → List Value → α → Prop) (ty : TypeId) (k : Nat) (w : World) (r : Nat) (ts : List (Int × ByteArray × Int)) (p d lo : Nat) (C : Nat → List α → Nat → (Except (Int × Int) ((List α) × Nat))) (Y : (Except (Int × Int) ((List α) × Nat))) (v : Value) (l : List α) (vs : List (List Value)) (q n : Nat) (V : World) : Prop where
  but : But r w V
  rd : RD V r ts q d
  own : V.ownsRow w.heap.size ty k v l.length vs.flatten
  len : vs.length = l.length
  all : ∀ x ∈ vs, x.length = k
  tr : ∀ (j : Nat) x t, vs[j]? = some x → l[j]? = some t → El V (fun b => w.heap.size ≤ b ∧ v.ownBlock ≠ some b) x t
  le : p ≤ q ∧ lo ≤ q
  fu : ts.length ≤ q + n
  ch : C n l q = Y
  sm : l.length ≤ q
section
variable {α : Type} {El : World → (Nat → Prop) → List Value → α → Prop} {ty : TypeId} {k : Nat} {w V V' : World} {r : Nat} {ts : List (Int × ByteArray × Int)} {p d lo q n : Nat} {C : Nat → List α → Nat → (Except (Int × Int) ((List α) × Nat))} {Y : (Except (Int × Int) ((List α) × Nat))} {v : Value} {l : List α} {vs : List (List Value)}
theorem RI.row (hk : ∀ (w w' : World) (P P' : Nat → Prop) cs t, El w P cs t → StaysP P w w' → (∀ b, P b → P' b) → El w' P' cs t) (h : RI El ty k w r ts p d lo C Y v l vs q n V) (hl : l.length ≤ 1000000) : RowP V k (fun b => w.heap.size ≤ b) v l.length fun j cs => ∀ t, l[j]? = some t → El V (fun b => w.heap.size ≤ b) cs t := by
  rcases Nat.eq_zero_or_pos l.length with h0 | hp
  · obtain ⟨h1, h2 | ⟨g, cap, cur, e, hB, hc, hle, hm, hsz, htk⟩⟩ := h.own
    · rw [h2.1, h0]
      exact ⟨none, 0, rfl, Nat.le_refl _, by omega, fun h => absurd rfl h⟩
    · rw [e, h0]
      exact ⟨_, cap, rfl, by omega, by omega, fun h => absurd rfl h⟩
  · obtain ⟨g, cap, e, hg1, hg2⟩ := h.own.form hp
    have hc := h.own.cells (g := g) (by rw [e]; rfl)
    have hcap : l.length ≤ cap := by
      obtain ⟨-, h1 | ⟨g', c', cur, e2, -, -, h2, -⟩⟩ := h.own
      · exact absurd h1.2 (by omega)
      · rw [e] at e2
        obtain ⟨-, rfl⟩ : g = g' ∧ cap = c' := by simpa using e2
        exact h2
    refine ⟨some ⟨g, 0, none⟩, cap, e, hcap, hl, fun _ => ⟨g, 0, rfl, hg1, hg2, fun j hj => ?_⟩⟩
    obtain ⟨x, hx⟩ : ∃ x, vs[j]? = some x := ⟨_, List.getElem?_eq_getElem (by rw [h.len]; exact hj)⟩
    refine ⟨x, fun m u hu => ?_, fun t ht => hk _ _ _ _ _ _ (h.tr j x t hx ht) ⟨Nat.le_refl _, fun _ _ _ => rfl⟩ fun b hb => hb.1⟩
    have := hc (j * k + m) u (flat_k vs j x h.all hx m u hu)
    rw [Nat.zero_add]
    rw [addr0] at this
    exact this
theorem RI.grow (hk : ∀ (w w' : World) (P P' : Nat → Prop) cs t, El w P cs t → StaysP P w w' → (∀ b, P b → P' b) → El w' P' cs t) (h : RI El ty k w r ts p d lo C Y v l vs q n V) (hb : Below V.heap.size V V') : RI El ty k w r ts p d lo C Y v l vs q n V' :=
  ⟨h.but.trans (But.of hb), h.rd.keep hb, own_same h.own hb, h.len, h.all, fun j x t hx ht => hk _ _ _ _ _ _ (h.tr j x t hx ht) ⟨hb.size, fun k _ hk => hb.block k hk⟩ fun _ h => h, h.le, h.fu, h.ch, h.sm⟩
/-- One more. -/
theorem RI.more {m cap g q7 : Nat} {a : Option Addr} {c : Nat} {w7 w9 wa : World} {t7 : α} {cs : List Value} (hk : ∀ (w w' : World) (P P' : Nat → Prop) cs t, El w P cs t → StaysP P w w' → (∀ b, P b → P' b) → El w' P' cs t) (hbd : ∀ (w : World) (P : Nat → Prop) cs t, El w P cs t → El w (fun b => P b ∧ b < w.heap.size) cs t)
    (hr : r < w.heap.size) (h : RI El ty k w r ts p d lo C Y (.slice a m c) l vs q (n + 1) w9) (hb97 : But r w9 w7) (hle7 : q + 1 ≤ q7) (hR7 : RD w7 r ts q7 d) (hcs : cs.length = k) (hv7 : El w7 (fun b => w9.heap.size ≤ b) cs t7) (hch : C n (l ++ [t7]) q7 = Y) (hoa : wa.ownsRow w.heap.size ty k (.slice (some ⟨g, 0, none⟩) (l.length + 1) cap) (l.length + 1) (vs.flatten ++ cs)) {o : Obj} (hga : (w7.alloc o).grownBy wa (Value.slice a m c).ownBlock) (hwa : (Value.slice a m c).ownBlock = some g ∨ g = w7.heap.size + 1) :
    RI El ty k w r ts p d lo C Y (.slice (some ⟨g, 0, none⟩) (l.length + 1) cap) (l ++ [t7]) (vs ++ [cs]) q7 n wa := by
  have hs97 := hb97.size
  have hlt9 := h.own.lt
  have hblk : ∀ k, k < w7.heap.size → (Value.slice a m c).ownBlock ≠ some k → wa.heap[k]? = w7.heap[k]? := fun k hk hne => by
    rw [hga.block k (by simp; omega) (fun e => hne e.symm)]
    exact ((Below.refl _ w7).alloc (Nat.le_refl _) _).block k hk
  have hsa : w7.heap.size ≤ wa.heap.size := by have := hga.size; simp at this; omega
  have hbw7 : But r w w7 := h.but.trans hb97
  have hown_lo : ∀ k, k < w.heap.size → (Value.slice a m c).ownBlock ≠ some k := fun k hk e => by have := (hlt9 k e).1; omega
  have hbwa : But r w wa := ⟨hga.os.trans hbw7.os, hga.tape.trans hbw7.tape, hga.output.trans hbw7.output, Nat.le_trans hbw7.size hsa, fun k hk hne => (hblk k (Nat.lt_of_lt_of_le hk hbw7.size) (hown_lo k hk)).trans (hbw7.block k hk hne)⟩
  have hRa : RD wa r ts q7 d := by
    obtain ⟨⟨g0, c0, h1, h2, h3, h4⟩, h5⟩ := hR7
    refine ⟨⟨g0, c0, (hblk r (blk h1).1 (hown_lo r hr)).trans h1, h2, h3, fun j x hx => range_same (h4 j x hx) (hblk g0 (by have := (blk h1).1; omega) (hown_lo g0 (by omega)))⟩, h5⟩
  have hgne : ∀ b, b < w7.heap.size → (Value.slice a m c).ownBlock ≠ some b → (Value.slice (some ⟨g, 0, none⟩) (l.length + 1) cap).ownBlock ≠ some b := fun b hb hne e => by
    have e2 : g = b := by simpa [Value.ownBlock] using e
    rcases hwa with hw | hw
    · exact hne (by rw [hw, e2])
    · omega
  refine ⟨hbwa, hRa, ?_, by simp [h.len], ?_, ?_, ⟨by have := h.le; omega, by have := h.le; omega⟩, by have := h.fu; omega, hch, by simp; have := h.sm; omega⟩
  · simpa using hoa
  · intro x hx
    rcases List.mem_append.1 hx with hx | hx
    · exact h.all x hx
    · obtain rfl := List.mem_singleton.1 hx
      exact hcs
  · intro j x t' hx ht
    rcases Nat.lt_or_ge j l.length with hj | hj
    · rw [List.getElem?_append_left (by rw [h.len]; exact hj)] at hx
      rw [List.getElem?_append_left hj] at ht
      have k1 := hbd _ _ _ _ (h.tr j x t' hx ht)
      have k2 := hk _ w7 _ (fun b => (w.heap.size ≤ b ∧ (Value.slice a m c).ownBlock ≠ some b) ∧ b < w7.heap.size) _ _ k1 ⟨hs97, fun k hk hs => hb97.block k hs (by omega)⟩ fun b hb => ⟨hb.1, by omega⟩
      exact hk _ _ _ _ _ _ k2 ⟨hsa, fun k hk hs => hblk k hs hk.1.2⟩ fun b hb => ⟨hb.1.1, hgne b hb.2 hb.1.2⟩
    · have hjl : j = l.length := by
        have := (List.getElem?_eq_some_iff.1 ht).1
        simp at this
        omega
      subst hjl
      rw [List.getElem?_append_right (by rw [h.len]; exact Nat.le_refl _), h.len, Nat.sub_self] at hx
      rw [List.getElem?_append_right (Nat.le_refl _), Nat.sub_self] at ht
      obtain rfl := Option.some.inj hx
      obtain rfl := Option.some.inj ht
      have hne8 : ∀ b, w9.heap.size ≤ b → (Value.slice a m c).ownBlock ≠ some b := fun b hb e => by have := (hlt9 b e).2; omega
      exact hk _ _ _ _ _ _ (hbd _ _ _ _ hv7) ⟨hsa, fun k hk hs => hblk k hs (hne8 k hk.1)⟩ fun b hb => ⟨by have := hb.1; have := h.but.size; omega, hgne b hb.2 (hne8 b hb.1)⟩
end
end Go.Proofs.YtfkfnbehdcmgeaaGreatDoor
