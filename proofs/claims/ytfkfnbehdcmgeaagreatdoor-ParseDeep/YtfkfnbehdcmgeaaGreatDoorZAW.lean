/- Package parse: a parameter. -/
import Derived.Test.YtfkfnbehdcmgeaaGreatDoorZAU
import Derived.Test.YtfkfnbehdcmgeaaGreatDoorZAV
set_option linter.unusedVariables false
set_option linter.unusedSimpArgs false

/- The statements of package parse: a region that reads an expression into a box. -/
namespace Go.Proofs.YtfkfnbehdcmgeaaGreatDoor
open Go Go.RowKit
/-- What parse.Expr answers: blocks from lo on, but ex. -/
def XR (lo : Nat) (ex : Nat → Prop) (X : Except (Int × Int) Ex) (w : World) (v ve : Value) : Prop := match X with
  | .ok t => IsEP w (fun b => lo ≤ b ∧ ¬ ex b) v t ∧ ve = .nilIface
  | .error (i, n) => v = .agg zE ∧ ∃ b, ¬ ex b ∧ ve = .iface 61 (.pointer (some ⟨b, 0, none⟩)) ∧ w.heap[b]? = some (.cells #[.int .i64 i, .int .i64 n] 66)
theorem XR.form {lo : Nat} {ex : Nat → Prop} {X : Except (Int × Int) Ex} {w : World} {v ve : Value} (h : XR lo ex X w v ve) : ∃ (i0 i6 : Int) (s1 s2 : ByteArray) (b3 : Bool) (a4 : Option Addr) (n4 c4 : Nat), v = .agg #[.int .i64 i0, .string s1, .string s2, .bool b3, .slice a4 n4 c4, .int .i64 0, .int .i64 i6] := by
  unfold XR at h
  split at h
  · obtain ⟨i0, i6, s1, s2, b3, a4, n4, c4, e⟩ := h.1.form
    exact ⟨i0, i6, s1, s2, b3, a4, n4, c4, e⟩
  · exact ⟨0, 0, ⟨#[]⟩, ⟨#[]⟩, false, none, 0, 0, h.1⟩
theorem XR.keep {lo : Nat} {ex : Nat → Prop} {X : Except (Int × Int) Ex} {w w' : World} {v ve : Value} (h : XR lo ex X w v ve) (hs : w.heap.size ≤ w'.heap.size) (hb : ∀ k, k < w.heap.size → ¬ ex k → w'.heap[k]? = w.heap[k]?) : XR lo ex X w' v ve := by
  unfold XR at h ⊢
  split at h
  · exact ⟨IsEP.keep h.1 ⟨hs, fun k hk hsz => hb k hsz hk.2⟩ fun _ h => h, h.2⟩
  · obtain ⟨h1, b, h2, h3, h4⟩ := h
    exact ⟨h1, b, h2, h3, (hb b (blk h4).1 h2).trans h4⟩
theorem XR.alloc {lo : Nat} {X : Except (Int × Int) Ex} {w : World} {v ve : Value} (h : XR lo (fun _ => False) X w v ve) (o : Obj) : XR lo (fun b => b = w.heap.size) X (w.alloc o) v ve := by
  have hB : Below w.heap.size w (w.alloc o) := (Below.refl _ w).alloc (Nat.le_refl _) _
  unfold XR at h ⊢
  split at h
  · exact ⟨IsEP.keep (IsEP.bnd h.1) ⟨hB.size, fun k hk hsz => hB.block k hsz⟩ fun b hb => ⟨hb.1.1, fun e => by have := hb.2; omega⟩, h.2⟩
  · obtain ⟨h1, b, h2, h3, h4⟩ := h
    have hl := (blk h4).1
    exact ⟨h1, b, fun e => by omega, h3, (hB.block b hl).trans h4⟩
theorem XR.of {s : ByteArray} {w w' : World} {e : Ending} (h : ExprP s w e w') (lo : Nat) (ex : Nat → Prop) (hlo : lo ≤ w.heap.size) (hex : ∀ b, ex b → b < w.heap.size) (hz : ∀ b, ex b → ZB w b) : Below w.heap.size w w' ∧ ∃ v ve, e = .returned (.tuple #[v, ve]) ∧ XR lo ex (exprS s) w' v ve := by
  obtain ⟨hb, h⟩ := h
  refine ⟨hb, ?_⟩
  unfold XR
  split at h
  · rename_i t hX
    obtain ⟨v, e, hv⟩ := h
    refine ⟨v, _, e, ?_⟩
    rw [hX]
    exact ⟨IsEP.keep hv ⟨Nat.le_refl _, fun _ _ _ => rfl⟩ fun b h => ⟨Nat.le_trans hlo h, fun he => by have := hex b he; have h2 : w.heap.size ≤ b := h; omega⟩, rfl⟩
  · rename_i i n hX
    obtain ⟨v, e, b, rfl, hv⟩ := h
    refine ⟨_, _, e, ?_⟩
    rw [hX]
    refine ⟨rfl, b, fun he => ?_, rfl, hv⟩
    have h1 := (hb.block b (hex b he)).trans (hz b he)
    rw [hv] at h1
    simp at h1
section
variable {X : Exit → Act → World → Prop} {K : Act → World → Prop} {a0 : Act} {w : World} {dst : Option Tmp} {ty : TypeId} {pos : String} {af : Array Edge} {gd : Option (Nat × Bool)}
theorem op_idx {t : TypeId} {x ix : Operand} {u i v : Value} (h1 : a0.eval x = u) (h2 : a0.eval ix = i) (hr : (Instr.indexAt t u i).run Tryz.prog w = .ok v w) (h : K (a0.put dst v) w) : Oper.wp Tryz.prog ⟨dst, .indexAddr t x ix, ty, pos, af, gd⟩ a0 w K X := by
  unfold Oper.wp
  simp only [execOp, h1, h2]
  simp [go_sem, hr, Oper.upon]
  exact h
end
/-- How far the region has come. -/
def levels_r6S (W : World) (X : Except (Int × Int) Ex) (L : Nat → Bool) (s : Nat → Value) (w : World) : Prop :=
  (L 13 = true → s 13 = s 12) ∧ (L 14 = true → ∃ v ve, s 12 = .tuple #[v, ve] ∧ s 14 = v) ∧ (L 15 = true → ∃ v ve, s 12 = .tuple #[v, ve] ∧ s 15 = ve) ∧ (L 18 = true → s 18 = s 15) ∧
  (L 17 = true → ∃ W2 qb v ve i0 i6 s1 s2 b3 a4 n4 c4, s 16 = .pointer (some ⟨qb, 0, none⟩) ∧ s 12 = .tuple #[v, ve] ∧ v = .agg #[.int .i64 i0, .string s1, .string s2, .bool b3, .slice a4 n4 c4, .int .i64 0, .int .i64 i6] ∧ W.heap.size ≤ qb ∧ ZB W2 qb ∧ Below W.heap.size W W2 ∧ XR W.heap.size (fun b => b = qb) X W2 v ve ∧ w = set7 W2 qb (.int .i64 i0) (.string s1) (.string s2) (.bool b3) (.slice a4 n4 c4) (.int .i64 0) (.int .i64 i6)) ∧
  (L 17 = false → L 12 = false → L 16 = false → w = W.drew) ∧
  (L 17 = false → L 12 = false → L 16 = true → s 16 = .pointer (some ⟨W.heap.size, 0, none⟩) ∧ w = (W.drew.alloc (.cells #[.int .i64 0, .string ⟨#[]⟩, .string ⟨#[]⟩, .bool false, .slice none 0 0, .int .i64 0, .int .i64 0] 36))) ∧
  (L 17 = false → L 12 = true → L 16 = false → ∃ v ve, s 12 = .tuple #[v, ve] ∧ Below W.heap.size W w ∧ XR W.heap.size (fun _ => False) X w v ve) ∧
  (L 17 = false → L 12 = true → L 16 = true → ∃ qb v ve, s 16 = .pointer (some ⟨qb, 0, none⟩) ∧ s 12 = .tuple #[v, ve] ∧ W.heap.size ≤ qb ∧ ZB w qb ∧ Below W.heap.size W w ∧ XR W.heap.size (fun b => b = qb) X w v ve)
theorem levels_r6S.below {W : World} {X : Except (Int × Int) Ex} {L : Nat → Bool} {s : Nat → Value} {w : World} (h : levels_r6S W X L s w) : Below W.heap.size W w := by
  obtain ⟨-, -, -, -, h8, h1, h2, h3, h4⟩ := h
  cases e8 : L 17 with
  | true =>
    obtain ⟨W2, qb, v, ve, i0, i6, s1, s2, b3, a4, n4, c4, -, -, -, hqb, -, hc, -, rfl⟩ := h8 e8
    exact below7 hc hqb _ _ _ _ _ _ _
  | false =>
    cases e3 : L 12 with
    | false =>
      cases e7 : L 16 with
      | false => rw [h1 e8 e3 e7]; exact (Below.refl _ W).drew
      | true => rw [(h2 e8 e3 e7).2]; exact ((Below.refl _ W).drew).alloc (Nat.le_refl _) _
    | true =>
      cases e7 : L 16 with
      | false =>
        obtain ⟨v, ve, -, hb, -⟩ := h3 e8 e3 e7
        exact hb
      | true =>
        obtain ⟨qb, v, ve, -, -, -, -, hb, -⟩ := h4 e8 e3 e7
        exact hb
end Go.Proofs.YtfkfnbehdcmgeaaGreatDoor

/- The statements of package parse: ParseDeep: its drawn region. -/
namespace Go.Proofs.YtfkfnbehdcmgeaaGreatDoor
open Go Go.RowKit
def SLI (cs : Array Value) (v : Value) (w : World) : Prop := ∃ q, v = .slice (some ⟨q, 0, none⟩) 7 7 ∧ w.heap[q]? = some (.cells cs 9)
def PTI (cs : Array Value) (h : Nat) (v : Value) (w : World) : Prop := ∃ q, v = .pointer (some ⟨q, h, none⟩) ∧ w.heap[q]? = some (.cells cs 9)
theorem SLI.keep {cs : Array Value} {v : Value} {w w' : World} (h : SLI cs v w) (hb : Below w.heap.size w w') : SLI cs v w' := by
  obtain ⟨q, e, h⟩ := h
  exact ⟨q, e, (hb.block q (blk h).1).trans h⟩
theorem PTI.keep {cs : Array Value} {k : Nat} {v : Value} {w w' : World} (h : PTI cs k v w) (hb : Below w.heap.size w w') : PTI cs k v w' := by
  obtain ⟨q, e, h⟩ := h
  exact ⟨q, e, (hb.block q (blk h).1).trans h⟩
def cO7 : Array Value := #[.string ⟨#[40]⟩, .string ⟨#[45]⟩, .string ⟨#[110, 111, 116, 32]⟩, .string ⟨#[108, 101, 116, 32, 120, 32, 61, 32, 49, 32, 105, 110, 32]⟩, .string ⟨#[49, 32, 61, 61, 62, 32]⟩, .string ⟨#[102, 40]⟩, .string ⟨#[105, 102, 32, 49, 32, 116, 104, 101, 110, 32, 50, 32, 101, 108, 115, 101, 32]⟩]
def cE7 : Array Value := #[.string ⟨#[41]⟩, .string ⟨#[]⟩, .string ⟨#[]⟩, .string ⟨#[]⟩, .string ⟨#[]⟩, .string ⟨#[41]⟩, .string ⟨#[]⟩]
theorem cO7_at {h : Nat} (hh : h < 7) : cO7[h]? = some (.string ⟨(oL h).toArray⟩) := by
  rcases h with _ | _ | _ | _ | _ | _ | _ | h
  all_goals first | rfl | omega
theorem cE7_at {h : Nat} (hh : h < 7) : cE7[h]? = some (.string ⟨(eL h).toArray⟩) := by
  rcases h with _ | _ | _ | _ | _ | _ | _ | h
  all_goals first | rfl | omega
theorem enter_place : Enters Tryz.prog 21 := ⟨fun xs w => by go_simp⟩
theorem ix7 {q i : Nat} {w : World} (hi : i < 7) : (Instr.indexAt 44 (.slice (some ⟨q, 0, none⟩) 7 7) (.int .i64 (i : Int))).run Tryz.prog w = .ok (.pointer (some ⟨q, i, none⟩)) w := by
  have h1 : ¬ (i : Int) < 0 := by omega
  have h2 : ¬ (7 : Int) ≤ (i : Int) := by omega
  go_simp
section
variable {X : Exit → Act → World → Prop} {K : Act → World → Prop} {a0 : Act} {w : World} {dst : Option Tmp} {ty : TypeId} {pos : String} {af : Array Edge} {gd : Option (Nat × Bool)}
theorem op_bsO (h : K (a0.put dst (.slice (some ⟨w.heap.size, 0, none⟩) 7 7)) (w.alloc (.cells cO7 9))) : Oper.wp Tryz.prog ⟨dst, .buildSlice 44 7 #[(0, .const (.string ⟨#[40]⟩)), (1, .const (.string ⟨#[45]⟩)), (2, .const (.string ⟨#[110, 111, 116, 32]⟩)), (3, .const (.string ⟨#[108, 101, 116, 32, 120, 32, 61, 32, 49, 32, 105, 110, 32]⟩)), (4, .const (.string ⟨#[49, 32, 61, 61, 62, 32]⟩)), (5, .const (.string ⟨#[102, 40]⟩)), (6, .const (.string ⟨#[105, 102, 32, 49, 32, 116, 104, 101, 110, 32, 50, 32, 101, 108, 115, 101, 32]⟩))], ty, pos, af, gd⟩ a0 w K X := by
  unfold cO7 at h
  unfold Oper.wp
  go_simp
  exact h
theorem op_bsE (h : K (a0.put dst (.slice (some ⟨w.heap.size, 0, none⟩) 7 7)) (w.alloc (.cells cE7 9))) : Oper.wp Tryz.prog ⟨dst, .buildSlice 44 7 #[(0, .const (.string ⟨#[41]⟩)), (1, .const (.string ⟨#[]⟩)), (2, .const (.string ⟨#[]⟩)), (3, .const (.string ⟨#[]⟩)), (4, .const (.string ⟨#[]⟩)), (5, .const (.string ⟨#[41]⟩)), (6, .const (.string ⟨#[]⟩))], ty, pos, af, gd⟩ a0 w K X := by
  unfold cE7 at h
  unfold Oper.wp
  go_simp
  exact h
end
/-- How far the region has come. -/
def deepS (W : World) (k : Nat) (L : Nat → Bool) (s : Nat → Value) (w : World) : Prop :=
  Below W.heap.size W w ∧ (L 0 = true → SLI cO7 (s 0) w) ∧ (L 3 = true → PTI cO7 k (s 3) w) ∧ (L 5 = true → SLI cE7 (s 5) w) ∧ (L 8 = true → PTI cE7 k (s 8) w)
set_option maxRecDepth 100000 in
set_option maxHeartbeats 8000000 in
theorem deep_r4 {Q : Exit → Act → World → Prop} {a0 : Act} {W : World} {k : Nat} {how : Int} (hN : a0.tmps.size = 86) (h1 : a0.tmps[1]? = some (.int .i64 how)) (hk7 : k < 7) (hP : ∀ W, Calls Tryz.prog 21 #[.int .i64 how, .int .i64 7] W fun e w' => e = .returned (.int .i64 (k : Int)) ∧ w' = W)
    (hend : ∀ (a : Act) (W2 : World), a.defers = a0.defers → (∀ k, k ∈ ((List.range 86).filter fun i => !([5, 6, 22, 23, 24, 25, 26, 27, 28, 29, 30, 31].contains i)) → a.tmps[k]? = a0.tmps[k]?) → a.tmps.size = 86 → a.tmps[5]? = some (.string ⟨(oL k).toArray⟩) → a.tmps[6]? = some (.string ⟨(eL k).toArray⟩) → Below W.heap.size W W2 → Q .normal a W2) :
    (Code.region 4 (regionOf Tryz.f6 4).toArray true).wp Tryz.prog Q a0 W := by
  have hl : (regionOf Tryz.f6 4).length = 12 := by kernel_rfl
  have hds : ((List.range 12).all fun i => ((regionOf Tryz.f6 4).getD i default).dst.isSome) = true := by kernel_rfl
  have hk1 : 1 ∈ ((List.range 86).filter fun i => !([5, 6, 22, 23, 24, 25, 26, 27, 28, 29, 30, 31].contains i)) := by decide
  refine wp_region_any (by kernel_rfl) ?_
  refine seqP (l := (regionOf Tryz.f6 4)) 86 ((List.range 86).filter fun i => !([5, 6, 22, 23, 24, 25, 26, 27, 28, 29, 30, 31].contains i)) (fun j v => (j = 1 ∨ j = 6 → v = .int .i64 how) ∧ (j = 2 ∨ j = 7 → v = .int .i64 (k : Int)) ∧ (j = 4 ∨ j = 10 → v = .string ⟨(oL k).toArray⟩) ∧ (j = 9 ∨ j = 11 → v = .string ⟨(eL k).toArray⟩)) (fun j => j == 0 || j == 3 || j == 4 || j == 5 || j == 8 || j == 9) (deepS W k) (by kernel_rfl) hN ?_ ?_ ?_ ?_ ?_ ?_ ?_
  · intro i hi
    rw [hl]
    simp at hi
    omega
  · exact ⟨(Below.refl _ W).drew, fun h => (by cases h), fun h => (by cases h), fun h => (by cases h), fun h => (by cases h)⟩
  · intro L L' s s' w h hs
    have l0 := (h 0 (by decide)).1
    have s0 := (h 0 (by decide)).2 (by kernel_rfl)
    have l3 := (h 3 (by decide)).1
    have s3 := (h 3 (by decide)).2 (by kernel_rfl)
    have l5 := (h 5 (by decide)).1
    have s5 := (h 5 (by decide)).2 (by kernel_rfl)
    have l8 := (h 8 (by decide)).1
    have s8 := (h 8 (by decide)).2 (by kernel_rfl)
    unfold deepS at hs ⊢
    rw [← l0, ← l3, ← l5, ← l8, ← s0, ← s3, ← s5, ← s8]
    exact hs
  · intro i o ho hd
    have hi : i < 12 := by rw [← hl]; exact (List.getElem?_eq_some_iff.1 ho).1
    have he : (regionOf Tryz.f6 4).getD i default = o := by simp [List.getD, ho]
    have := List.all_eq_true.1 hds i (List.mem_range.2 hi)
    rw [he, hd] at this
    cases this
  · intro i hi hni a w L hd hsz hk hp hs
    rw [hl] at hi
    have hii : i = 1 ∨ i = 2 ∨ i = 6 ∨ i = 7 ∨ i = 10 ∨ i = 11 := by simp at hni; omega
    have ke : a.eval (.tmp 1) = .int .i64 how := getD_of ((hk 1 hk1).trans h1)
    rcases hii with rfl | rfl | rfl | rfl | rfl | rfl
    · exact st_want (wnone rfl) (op_move ⟨_, rfl, rfl, ⟨(fun _ => ke), (fun h => absurd h (by decide)), (fun h => absurd h (by decide)), (fun h => absurd h (by decide))⟩⟩)
    · have e1 : a.tmps.getD 23 undef = .int .i64 how := (hp 1 (by kernel_rfl)).1 (by decide)
      have hargs : (#[Operand.tmp 23, .const (.int .i64 7)]).map a.eval = #[.int .i64 how, .int .i64 7] := by
        simp only [List.map_toArray, List.map_cons, List.map_nil, Act.eval]
        rw [e1]
      refine st_want (wnone rfl) (op_callP enter_place ?_)
      rw [hargs]
      refine (hP w).mono ?_
      rintro e w' ⟨rfl, rfl⟩
      exact .inl ⟨_, rfl, _, rfl, rfl, ⟨(fun h => absurd h (by decide)), (fun _ => rfl), (fun h => absurd h (by decide)), (fun h => absurd h (by decide))⟩⟩
    · exact st_want (wnone rfl) (op_move ⟨_, rfl, rfl, ⟨(fun _ => ke), (fun h => absurd h (by decide)), (fun h => absurd h (by decide)), (fun h => absurd h (by decide))⟩⟩)
    · have e1 : a.tmps.getD 28 undef = .int .i64 how := (hp 6 (by kernel_rfl)).1 (by decide)
      have hargs : (#[Operand.tmp 28, .const (.int .i64 7)]).map a.eval = #[.int .i64 how, .int .i64 7] := by
        simp only [List.map_toArray, List.map_cons, List.map_nil, Act.eval]
        rw [e1]
      refine st_want (wnone rfl) (op_callP enter_place ?_)
      rw [hargs]
      refine (hP w).mono ?_
      rintro e w' ⟨rfl, rfl⟩
      exact .inl ⟨_, rfl, _, rfl, rfl, ⟨(fun h => absurd h (by decide)), (fun _ => rfl), (fun h => absurd h (by decide)), (fun h => absurd h (by decide))⟩⟩
    · have e1 : a.eval (.tmp 26) = .string ⟨(oL k).toArray⟩ := (hp 4 (by kernel_rfl)).2.2.1 (by decide)
      exact st_want (wnone rfl) (op_assign ⟨_, rfl, rfl, ⟨(fun h => absurd h (by decide)), (fun h => absurd h (by decide)), (fun _ => e1), (fun h => absurd h (by decide))⟩⟩)
    · have e1 : a.eval (.tmp 31) = .string ⟨(eL k).toArray⟩ := (hp 9 (by kernel_rfl)).2.2.2 (by decide)
      exact st_want (wnone rfl) (op_assign ⟨_, rfl, rfl, ⟨(fun h => absurd h (by decide)), (fun h => absurd h (by decide)), (fun h => absurd h (by decide)), (fun _ => e1)⟩⟩)
  · intro i hi a w L hd hsz hk hp hLi hdown hs
    have hi4 : i = 0 ∨ i = 3 ∨ i = 4 ∨ i = 5 ∨ i = 8 ∨ i = 9 := by simp at hi; omega
    obtain ⟨hB, g0, g3, g5, g8⟩ := hs
    rcases hi4 with rfl | rfl | rfl | rfl | rfl | rfl
    · have hA : Below w.heap.size w (w.alloc (.cells cO7 9)) := (Below.refl _ w).alloc (Nat.le_refl _) _
      refine st_want (wnone rfl) (op_bsO ⟨_, rfl, (fun _ => ⟨(fun h => absurd h (by decide)), (fun h => absurd h (by decide)), (fun h => absurd h (by decide)), (fun h => absurd h (by decide))⟩), hB.trans (hA.mono hB.size), fun h => ?_, fun h => ?_, fun h => ?_, fun h => ?_⟩)
      · rw [upS_same]; exact ⟨w.heap.size, rfl, (MapKept.heap_alloc w _).1⟩
      · rw [upL_other (by decide)] at h; rw [upS_other (by decide)]; exact (g3 h).keep hA
      · rw [upL_other (by decide)] at h; rw [upS_other (by decide)]; exact (g5 h).keep hA
      · rw [upL_other (by decide)] at h; rw [upS_other (by decide)]; exact (g8 h).keep hA
    · obtain ⟨q, e0, hq⟩ := g0 (hp 0 (by kernel_rfl)).1
      have e1 : a.eval (.tmp 22) = .slice (some ⟨q, 0, none⟩) 7 7 := e0
      have e2 : a.eval (.tmp 24) = .int .i64 (k : Int) := (hp 2 (by kernel_rfl)).2.2.1 (by decide)
      refine st_want (wnone rfl) (op_idx e1 e2 (ix7 hk7) ⟨_, rfl, (fun _ => ⟨(fun h => absurd h (by decide)), (fun h => absurd h (by decide)), (fun h => absurd h (by decide)), (fun h => absurd h (by decide))⟩), hB, fun h => ?_, fun h => ?_, fun h => ?_, fun h => ?_⟩)
      · rw [upL_other (by decide)] at h; rw [upS_other (by decide)]; exact g0 h
      · rw [upS_same]; exact ⟨q, rfl, hq⟩
      · rw [upL_other (by decide)] at h; rw [upS_other (by decide)]; exact g5 h
      · rw [upL_other (by decide)] at h; rw [upS_other (by decide)]; exact g8 h
    · obtain ⟨q, e0, hq⟩ := g3 (hp 3 (by kernel_rfl)).1
      have e1 : a.eval (.tmp 25) = .pointer (some ⟨q, k, none⟩) := e0
      refine st_want (wnone rfl) (op_load e1 (ld_str ((blk hq).2.1 k _ (cO7_at hk7))) ⟨_, rfl, (fun _ => ⟨(fun h => absurd h (by decide)), (fun h => absurd h (by decide)), (fun _ => rfl), (fun h => absurd h (by decide))⟩), hB, fun h => ?_, fun h => ?_, fun h => ?_, fun h => ?_⟩)
      · rw [upL_other (by decide)] at h; rw [upS_other (by decide)]; exact g0 h
      · rw [upL_other (by decide)] at h; rw [upS_other (by decide)]; exact g3 h
      · rw [upL_other (by decide)] at h; rw [upS_other (by decide)]; exact g5 h
      · rw [upL_other (by decide)] at h; rw [upS_other (by decide)]; exact g8 h
    · have hA : Below w.heap.size w (w.alloc (.cells cE7 9)) := (Below.refl _ w).alloc (Nat.le_refl _) _
      refine st_want (wnone rfl) (op_bsE ⟨_, rfl, (fun _ => ⟨(fun h => absurd h (by decide)), (fun h => absurd h (by decide)), (fun h => absurd h (by decide)), (fun h => absurd h (by decide))⟩), hB.trans (hA.mono hB.size), fun h => ?_, fun h => ?_, fun h => ?_, fun h => ?_⟩)
      · rw [upL_other (by decide)] at h; rw [upS_other (by decide)]; exact (g0 h).keep hA
      · rw [upL_other (by decide)] at h; rw [upS_other (by decide)]; exact (g3 h).keep hA
      · rw [upS_same]; exact ⟨w.heap.size, rfl, (MapKept.heap_alloc w _).1⟩
      · rw [upL_other (by decide)] at h; rw [upS_other (by decide)]; exact (g8 h).keep hA
    · obtain ⟨q, e0, hq⟩ := g5 (hp 5 (by kernel_rfl)).1
      have e1 : a.eval (.tmp 27) = .slice (some ⟨q, 0, none⟩) 7 7 := e0
      have e2 : a.eval (.tmp 29) = .int .i64 (k : Int) := (hp 7 (by kernel_rfl)).2.2.1 (by decide)
      refine st_want (wnone rfl) (op_idx e1 e2 (ix7 hk7) ⟨_, rfl, (fun _ => ⟨(fun h => absurd h (by decide)), (fun h => absurd h (by decide)), (fun h => absurd h (by decide)), (fun h => absurd h (by decide))⟩), hB, fun h => ?_, fun h => ?_, fun h => ?_, fun h => ?_⟩)
      · rw [upL_other (by decide)] at h; rw [upS_other (by decide)]; exact g0 h
      · rw [upL_other (by decide)] at h; rw [upS_other (by decide)]; exact g3 h
      · rw [upL_other (by decide)] at h; rw [upS_other (by decide)]; exact g5 h
      · rw [upS_same]; exact ⟨q, rfl, hq⟩
    · obtain ⟨q, e0, hq⟩ := g8 (hp 8 (by kernel_rfl)).1
      have e1 : a.eval (.tmp 30) = .pointer (some ⟨q, k, none⟩) := e0
      refine st_want (wnone rfl) (op_load e1 (ld_str ((blk hq).2.1 k _ (cE7_at hk7))) ⟨_, rfl, (fun _ => ⟨(fun h => absurd h (by decide)), (fun h => absurd h (by decide)), (fun h => absurd h (by decide)), (fun _ => rfl)⟩), hB, fun h => ?_, fun h => ?_, fun h => ?_, fun h => ?_⟩)
      · rw [upL_other (by decide)] at h; rw [upS_other (by decide)]; exact g0 h
      · rw [upL_other (by decide)] at h; rw [upS_other (by decide)]; exact g3 h
      · rw [upL_other (by decide)] at h; rw [upS_other (by decide)]; exact g5 h
      · rw [upL_other (by decide)] at h; rw [upS_other (by decide)]; exact g8 h
  · intro a w hd hsz hk hp hs
    have e5 : a.tmps.getD 5 undef = .string ⟨(oL k).toArray⟩ := (hp 10 (by rw [hl]; decide)).2.2.1 (by decide)
    have e6 : a.tmps.getD 6 undef = .string ⟨(eL k).toArray⟩ := (hp 11 (by rw [hl]; decide)).2.2.2 (by decide)
    have get : ∀ k v, k < 86 → a.tmps.getD k undef = v → a.tmps[k]? = some v := fun k v hk h => by
      have h1 : k < a.tmps.size := by omega
      rw [Array.getD_eq_getD_getElem?, Array.getElem?_eq_getElem h1] at h
      rw [Array.getElem?_eq_getElem h1]
      exact congrArg some h
    exact hend a w hd hk hsz (get _ _ (by omega) e5) (get _ _ (by omega) e6) hs.1
end Go.Proofs.YtfkfnbehdcmgeaaGreatDoor

/- Texts that are so deep, by the kernel: a. -/
namespace Go.Proofs.YtfkfnbehdcmgeaaGreatDoor
theorem dck_6_197 : dck 6 197 = true := by kernel_rfl
theorem dck_6_198 : dck 6 198 = true := by kernel_rfl
theorem dck_6_199 : dck 6 199 = true := by kernel_rfl
theorem dck_6_200 : dck 6 200 = true := by kernel_rfl
theorem dck_6_201 : dck 6 201 = true := by kernel_rfl
theorem dck_6_202 : dck 6 202 = true := by kernel_rfl
end Go.Proofs.YtfkfnbehdcmgeaaGreatDoor

/- Texts that are so deep, by the kernel: b. -/
namespace Go.Proofs.YtfkfnbehdcmgeaaGreatDoor
theorem dck_3_197 : dck 3 197 = true := by kernel_rfl
theorem dck_3_198 : dck 3 198 = true := by kernel_rfl
theorem dck_3_199 : dck 3 199 = true := by kernel_rfl
theorem dck_3_200 : dck 3 200 = true := by kernel_rfl
theorem dck_3_201 : dck 3 201 = true := by kernel_rfl
theorem dck_3_202 : dck 3 202 = true := by kernel_rfl
end Go.Proofs.YtfkfnbehdcmgeaaGreatDoor

/- Texts that are so deep, by the kernel: c. -/
namespace Go.Proofs.YtfkfnbehdcmgeaaGreatDoor
theorem dck_0_197 : dck 0 197 = true := by kernel_rfl
theorem dck_0_198 : dck 0 198 = true := by kernel_rfl
theorem dck_0_199 : dck 0 199 = true := by kernel_rfl
theorem dck_0_200 : dck 0 200 = true := by kernel_rfl
theorem dck_0_201 : dck 0 201 = true := by kernel_rfl
theorem dck_0_202 : dck 0 202 = true := by kernel_rfl
theorem dck_1_197 : dck 1 197 = true := by kernel_rfl
theorem dck_1_198 : dck 1 198 = true := by kernel_rfl
theorem dck_1_199 : dck 1 199 = true := by kernel_rfl
theorem dck_1_200 : dck 1 200 = true := by kernel_rfl
theorem dck_1_201 : dck 1 201 = true := by kernel_rfl
theorem dck_1_202 : dck 1 202 = true := by kernel_rfl
theorem dck_2_197 : dck 2 197 = true := by kernel_rfl
theorem dck_2_198 : dck 2 198 = true := by kernel_rfl
theorem dck_2_199 : dck 2 199 = true := by kernel_rfl
theorem dck_2_200 : dck 2 200 = true := by kernel_rfl
theorem dck_2_201 : dck 2 201 = true := by kernel_rfl
theorem dck_2_202 : dck 2 202 = true := by kernel_rfl
theorem dck_4_197 : dck 4 197 = true := by kernel_rfl
theorem dck_4_198 : dck 4 198 = true := by kernel_rfl
theorem dck_4_199 : dck 4 199 = true := by kernel_rfl
theorem dck_4_200 : dck 4 200 = true := by kernel_rfl
theorem dck_4_201 : dck 4 201 = true := by kernel_rfl
theorem dck_4_202 : dck 4 202 = true := by kernel_rfl
theorem dck_5_197 : dck 5 197 = true := by kernel_rfl
theorem dck_5_198 : dck 5 198 = true := by kernel_rfl
theorem dck_5_199 : dck 5 199 = true := by kernel_rfl
theorem dck_5_200 : dck 5 200 = true := by kernel_rfl
theorem dck_5_201 : dck 5 201 = true := by kernel_rfl
theorem dck_5_202 : dck 5 202 = true := by kernel_rfl
end Go.Proofs.YtfkfnbehdcmgeaaGreatDoor

/- The document's Expr at any text. -/
namespace Go.Proofs.YtfkfnbehdcmgeaaGreatDoor
open Go Go.RowKit
theorem below_but {w w' : World} {B r : Nat} (h : But r w w') (hr : B ≤ r) (hw : B ≤ w.heap.size) : Below B w w' := ⟨h.os, h.tape, h.output, h.size, fun k hk => h.block k (by omega) (by omega)⟩
theorem load_seven {W : World} {q : Nat} {x0 x1 x2 x3 x4 x5 x6 : Value} (h : W.heap[q]? = some (.cells #[x0, x1, x2, x3, x4, x5, x6] 36)) : (loadVar 36 ⟨q, 0, none⟩).run Tryz.prog W = .ok (.agg #[x0, x1, x2, x3, x4, x5, x6]) W :=
  run_loadVar_mid (P := Tryz.prog) W q 0 36 [x0, x1, x2, x3, x4, x5, x6] _ (range_block h) Tryz.underlying36 rfl (by kernel_rfl)
set_option maxRecDepth 100000 in
set_option maxHeartbeats 8000000 in
theorem rexpr_any (s : ByteArray) (w : World) (hU : Lib.Utf8Tabs 2 3 w) : Calls Tryz.prog 18 #[.string s] w (RExprP s w) := by
  obtain ⟨A, eA, hbA, hzA, hsA⟩ := zb_new w
  have h3w := u8_lt hU
  have HC := hide (refTokens_any s A (u8_below hU hbA h3w))
  have HE := hide eA
  have HA := hide (And.intro hbA (And.intro hzA hsA))
  clear hU hbA hzA hsA eA h3w
  go_enter Tryz.func18, Tryz.ntmps18
  generalize hQQ : bodyPost Tryz.prog Tryz.f18 (RExprP s w) = QQ
  have HQQ := hide hQQ
  clear hQQ
  go_wp2_with fail
  rw [unhide HE]
  refine (unhide HC).mono ?_
  intro e w1 h1
  cases hx : (tk s).2 with
  | some er =>
    obtain ⟨a, n⟩ := er
    obtain ⟨hb1, rfl⟩ := rkp_err h1 hx
    have hn := tk_num hx
    have g1 : ¬ (n : Int) = 0 := by omega
    have g2 : ((n : Int) == 0) = false := by simpa using g1
    have g3 : decide ((n : Int) = 0) = false := by simpa using g1
    obtain ⟨hbA, hzA, hsA⟩ := unhide HA
    have hz1 : ZB w1 w.heap.size := (hb1.block _ (blk hzA).1).trans hzA
    obtain ⟨y0, y1, y2, y3, y4, y5, y6⟩ := blk7 hz1
    obtain ⟨z0, z1, z2, z3, z4, z5, z6⟩ := frz7 hz1
    have H1 := hide (And.intro (hbA.trans (hb1.mono hbA.size)) (And.intro hz1 hx))
    clear hb1 hn hbA hzA hsA hz1 h1 hx HC
    go_wp2
    obtain ⟨hb, hz1, hx⟩ := unhide H1
    rw [← unhide HQQ]
    refine bodyPost_ret (results_three rfl rfl (load_seven (fill7 hz1)) rfl rfl) rfl ?_
    refine ⟨below7 hb (Nat.le_refl _) _ _ _ _ _ _ _, ?_⟩
    unfold exprRD
    rw [hx]
    rfl
  | none =>
    obtain ⟨hb1, g, c, rfl, hg, hc, hcell⟩ := rkp_rd h1 hx
    obtain ⟨B, eB, hbB, hsB, hhB⟩ := box_new w1 #[.slice (some ⟨g, 0, none⟩) (tkL s).length c, .int .i64 0, .int .i64 0, .int .i64 0, .int .i64 0] 72
    have hT := tsok_of s
    have hPD : PD B w1.heap.size (tkL s) ⟨0, 0, 0⟩ 0 := ⟨⟨g, c, hhB, hg, hc, fun j x hx => range_same (hcell j x hx) (hbB.block g hg)⟩, hT.pos⟩
    obtain ⟨⟨t, S⟩, hX⟩ : ∃ X, exD (tkL s) ⟨0, 0, 0⟩ = X := ⟨_, rfl⟩
    have HC2 := hide (exD_any hT B _ hPD)
    rw [hX] at HC2
    obtain ⟨hbA, hzA, hsA⟩ := unhide HA
    have hwB : Below w.heap.size w B := hbA.trans ((hb1.trans (hbB.mono hb1.size)).mono hbA.size)
    have hzB : ZB B w.heap.size := (hbB.block _ (by have := (blk hzA).1; have := hb1.size; omega)).trans ((hb1.block _ (blk hzA).1).trans hzA)
    have hrq : w.heap.size < w1.heap.size := by have := (blk hzA).1; have := hb1.size; omega
    have hEq : exprRD s = aloneD (tkL s) := by unfold exprRD; rw [hx]
    rw [aloneD_ok hX] at hEq
    have HW := hide (And.intro hwB (And.intro hzB hrq))
    have HEB := hide eB
    have HEQ := hide hEq
    have HT := hide hT
    clear hb1 hg hc hcell eB hbB hsB hhB hPD hX hbA hzA hsA hwB hzB hrq hEq hT h1 hx HC
    go_wp2_with fail
    rw [unhide HEB]
    refine (unhide HC2).mono ?_
    rintro e w7 ⟨hb7, hR7, v7, rfl, hv7⟩
    obtain ⟨i7, j7, s7, m7, b7, a7, n7, c7, rfl⟩ := hv7.form
    obtain ⟨X7, eX7, hbX7, hsX7, hhX7⟩ := box_new w7 #[.int .i64 i7, .string s7, .string m7, .bool b7, .slice a7 n7 c7, .int .i64 0, .int .i64 j7] 36
    have HR := hide (hR7.keep hbX7)
    have HN := hide (dt_any (unhide HR) (unhide HT))
    unfold tkV at HN
    obtain ⟨⟨kk, T, ai⟩, hN⟩ : ∃ X, tD (tkL s) S = X := ⟨_, rfl⟩
    rw [hN] at HN
    have hf0 := fld0 (.int .i64 kk) (.string T) (.int .i64 ai)
    have hf2 := fld2 (.int .i64 kk) (.string T) (.int .i64 ai)
    have hq := (unhide HEQ)
    simp only [hN] at hq
    replace HEQ := hide hq
    have hbr : But w1.heap.size B X7 := hb7.trans (But.of hbX7)
    have H7 := hide (And.intro hbr (And.intro hhX7 (hv7.keep (lo' := w.heap.size + 1) (Stays.of hbX7) (by have := (unhide HW).2.2; have := hR7.rlt; have := hb7.size; have := (unhide HW).1.size; have := (blk (unhide HW).2.1).1; omega))))
    have HEX := hide eX7
    have HNN := hide hN
    clear HC2 hb7 hR7 hv7 eX7 hbX7 hsX7 hhX7 hbr hN hq
    go_wp2_with fail
    rw [unhide HEX]
    refine (unhide HN).mono ?_
    rintro e w8 ⟨rfl, hb8⟩
    have HR8 := hide ((unhide HR).keep hb8)
    have H8 := hide hb8
    clear hb8 HN
    by_cases hk : kk = 0
    · subst hk
      have hq := unhide HEQ
      simp only [if_true] at hq
      by_cases he : S.e = 0
      · rw [if_pos he] at hq
        have HEq := hide hq
        obtain ⟨gg, gc, x0, x1, x2, x3, x4, hc, hl, hf, ht⟩ := (unhide HR8).facts (Below.refl _ _)
        rw [he] at x2
        have hbW := (unhide H7).1.trans (But.of (unhide H8))
        have hzW := (unhide HW).2.1.but hbW (Nat.ne_of_gt (unhide HW).2.2)
        have hhW := ((unhide H8).block _ (blk (unhide H7).2.1).1).trans (unhide H7).2.1
        obtain ⟨y0, y1, y2, y3, y4, y5, y6⟩ := blk7 hzW
        obtain ⟨z0, z1, z2, z3, z4, z5, z6⟩ := frz7 hzW
        obtain ⟨q0, q1, q2, q3, q4, q5, q6⟩ := blk7 hhW
        have HZ := hide (And.intro hbW hzW)
        clear hc hf ht x0 x1 x3 x4 hbW hzW hhW he hq
        go_wp2
        obtain ⟨hbW, hzW⟩ := unhide HZ
        rw [← unhide HQQ]
        refine bodyPost_ret (results_three rfl rfl (load_seven (fill7 hzW)) rfl rfl) rfl ?_
        refine ⟨below7 ((unhide HW).1.trans (below_but hbW (by have := (unhide HW).2.2; omega) (unhide HW).1.size)) (Nat.le_refl _) _ _ _ _ _ _ _, ?_⟩
        rw [unhide HEq]
        refine ⟨_, rfl, ?_⟩
        exact ((unhide H7).2.2.keep (w' := _) (Stays.of (unhide H8)) (Nat.le_refl _)).keep (stays7 (Stays.of (Below.refl _ _)) (Nat.lt_succ_self _) _ _ _ _ _ _ _) (Nat.le_succ _)
      · rw [if_neg he] at hq
        obtain ⟨gg, gc, x0, x1, x2, x3, x4, hc, hl, hf, ht⟩ := (unhide HR8).facts (Below.refl _ _)
        obtain ⟨er, her⟩ : ∃ er, (S).e = er := ⟨_, rfl⟩
        obtain ⟨ea, hea⟩ : ∃ ea, (S).a = ea := ⟨_, rfl⟩
        rw [her] at x2
        rw [hea] at x3
        have hne : ¬ er = 0 := by rw [← her]; exact he
        have g2 : (er == 0) = false := by simpa using hne
        have g3 : decide (er = 0) = false := by simpa using hne
        have nrq := Nat.ne_of_gt (unhide HW).2.2
        have nrq2 := Ne.symm nrq
        have HEq := hide (by rw [hq, hea, her] : exprRD s = .error (ea, er))
        have hbW := (unhide H7).1.trans (But.of (r := w1.heap.size) (unhide H8))
        have hzW := (unhide HW).2.1.but hbW (Nat.ne_of_gt (unhide HW).2.2)
        obtain ⟨y0, y1, y2, y3, y4, y5, y6⟩ := blk7 hzW
        obtain ⟨z0, z1, z2, z3, z4, z5, z6⟩ := frz7 hzW
        have HZ := hide (And.intro hbW hzW)
        clear hc hf ht x0 x1 x4 her hea hne hbW hzW
        go_wp2_with fail
        go_region
        go_wp2
        obtain ⟨hbW, hzW⟩ := unhide HZ
        rw [← unhide HQQ]
        refine bodyPost_ret (results_three rfl rfl (load_seven (by rw [heap_drew]; exact fill7 hzW)) rfl rfl) rfl ?_
        refine ⟨(below7 ((unhide HW).1.trans (below_but hbW (by have := (unhide HW).2.2; omega) (unhide HW).1.size)) (Nat.le_refl _) _ _ _ _ _ _ _).drew, ?_⟩
        rw [unhide HEq]
        rfl
    · have hq := unhide HEQ
      simp only [if_neg hk] at hq
      have hne : (S.fail ai 150).e ≠ 0 := by
        unfold PS.fail
        split
        · show (150 : Int) ≠ 0
          decide
        · assumption
      rw [if_neg hne] at hq
      have g2k : (kk == 0) = false := by simpa using hk
      have g3k : decide (kk = 0) = false := by simpa using hk
      have HN2 := hide (dt_any (unhide HR8) (unhide HT))
      unfold tkV at HN2
      simp only [unhide HNN] at HN2
      go_wp2_with fail
      refine (unhide HN2).mono ?_
      rintro e w9 ⟨rfl, hb9⟩
      have HC3 := hide (fail_any ((unhide HR8).keep hb9) ai 150)
      have H9 := hide hb9
      clear hb9 HN2
      go_wp2_with fail
      refine (unhide HC3).mono ?_
      rintro e w10 ⟨rfl, hb10, hR10⟩
      have H10 := hide (And.intro hb10 hR10)
      clear hb10 hR10 HC3
      obtain ⟨gg, gc, x0, x1, x2, x3, x4, hc, hl, hf, ht⟩ := ((unhide H10).2).facts (Below.refl _ _)
      obtain ⟨er, her⟩ : ∃ er, ((S.fail ai 150)).e = er := ⟨_, rfl⟩
      obtain ⟨ea, hea⟩ : ∃ ea, ((S.fail ai 150)).a = ea := ⟨_, rfl⟩
      rw [her] at x2
      rw [hea] at x3
      have hne : ¬ er = 0 := by rw [← her]; exact hne
      have g2 : (er == 0) = false := by simpa using hne
      have g3 : decide (er = 0) = false := by simpa using hne
      have nrq := Nat.ne_of_gt (unhide HW).2.2
      have nrq2 := Ne.symm nrq
      have HEq := hide (by rw [hq, hea, her] : exprRD s = .error (ea, er))
      have hbW := ((unhide H7).1.trans (But.of (r := w1.heap.size) (unhide H8))).trans ((But.of (r := w1.heap.size) (unhide H9)).trans (unhide H10).1)
      have hzW := (unhide HW).2.1.but hbW (Nat.ne_of_gt (unhide HW).2.2)
      obtain ⟨y0, y1, y2, y3, y4, y5, y6⟩ := blk7 hzW
      obtain ⟨z0, z1, z2, z3, z4, z5, z6⟩ := frz7 hzW
      have HZ := hide (And.intro hbW hzW)
      clear hc hf ht x0 x1 x4 her hea hne hbW hzW
      go_wp2_with fail
      go_region
      go_wp2
      obtain ⟨hbW, hzW⟩ := unhide HZ
      rw [← unhide HQQ]
      refine bodyPost_ret (results_three rfl rfl (load_seven (by rw [heap_drew]; exact fill7 hzW)) rfl rfl) rfl ?_
      refine ⟨(below7 ((unhide HW).1.trans (below_but hbW (by have := (unhide HW).2.2; omega) (unhide HW).1.size)) (Nat.le_refl _) _ _ _ _ _ _ _).drew, ?_⟩
      rw [unhide HEq]
      rfl
end Go.Proofs.YtfkfnbehdcmgeaaGreatDoor

namespace Go.Proofs.YtfkfnbehdcmgeaaGreatDoor
open Go Go.RowKit
def setAll (x : Nat → Value) : List Nat → Array Value → Array Value
  | [], t => t
  | k :: ks, t => setAll x ks (t.setIfInBounds k (x k))
theorem setAll_size (x : Nat → Value) : ∀ (ks : List Nat) (t : Array Value), (setAll x ks t).size = t.size
  | [], _ => rfl
  | k :: ks, t => by
    show (setAll x ks (t.setIfInBounds k (x k))).size = t.size
    rw [setAll_size x ks, Array.size_setIfInBounds]
theorem setAll_off (x : Nat → Value) {i : Nat} : ∀ (ks : List Nat) (t : Array Value), i ∉ ks → (setAll x ks t)[i]? = t[i]?
  | [], _, _ => rfl
  | k :: ks, t, h => by
    show (setAll x ks (t.setIfInBounds k (x k)))[i]? = t[i]?
    rw [setAll_off x ks _ (fun e => h (List.mem_cons_of_mem _ e)), Array.getElem?_setIfInBounds, if_neg fun e => h (by rw [e]; exact List.mem_cons_self)]
theorem setAll_on (x : Nat → Value) {i : Nat} : ∀ (ks : List Nat) (t : Array Value), i ∈ ks → i < t.size → (setAll x ks t)[i]? = some (x i)
  | k :: ks, t, h, hi => by
    show (setAll x ks (t.setIfInBounds k (x k)))[i]? = some (x i)
    by_cases hm : i ∈ ks
    · exact setAll_on x ks _ hm (by rw [Array.size_setIfInBounds]; exact hi)
    · obtain rfl : i = k := (List.mem_cons.1 h).resolve_right hm
      rw [setAll_off x ks _ hm, Array.getElem?_setIfInBounds, if_pos rfl, if_pos hi]
/-- A frame that is another one but for some slots. -/
theorem act_set {N : Nat} {kept : List Nat} (ks : List Nat) {a a0 : Act} (hc : ((List.range N).all fun i => kept.contains i || ks.contains i) = true) (hd : a.defers = a0.defers) (hn : a.tmps.size = N) (hN : a0.tmps.size = N) (hk : ∀ k, k ∈ kept → a.tmps[k]? = a0.tmps[k]?) : ∃ x : Nat → Value, a = ⟨setAll x ks a0.tmps, a0.defers⟩ ∧ ∀ i, x i = a.tmps.getD i undef := by
  refine ⟨fun i => a.tmps.getD i undef, ?_, fun _ => rfl⟩
  obtain ⟨tm, df⟩ := a
  simp only at hd hn hk ⊢
  rw [hd]
  congr 1
  refine Array.ext_getElem? fun i => ?_
  by_cases h : i < N
  · by_cases hm : i ∈ ks
    · rw [setAll_on _ ks _ hm (by omega)]
      simp [Array.getD_eq_getD_getElem?, hn, h]
    · rw [setAll_off _ ks _ hm]
      refine hk i ?_
      have := List.all_eq_true.1 hc i (List.mem_range.2 h)
      simpa [hm] using this
  · rw [Array.getElem?_eq_none (by omega), Array.getElem?_eq_none (by rw [setAll_size]; omega)]
/-- A parameter as a value. -/
def PmV (w : World) (lo : Nat) (v : Value) (x : Pm) : Prop := ∃ a n c, v = .agg #[.string x.name, .int .i64 x.t.kind, .string x.t.name, .slice a n c, .int .i64 x.t.at', .int .i64 x.at'] ∧ IsLs w lo (.slice a n c) x.t.r
theorem PmV.keep (w w' : World) (lo lo' : Nat) (v : Value) (t : Pm) (h : PmV w lo v t) (hb : Stays lo w w') (hl : lo' ≤ lo) : PmV w' lo' v t := by
  obtain ⟨a, n, c, e, h⟩ := h
  exact ⟨a, n, c, e, h.keep hb hl⟩
set_option maxRecDepth 100000 in
set_option maxHeartbeats 8000000 in
theorem param_of {r d lo : Nat} {ts : List (Int × ByteArray × Int)} (hT : TsOk ts) (hE : RuC 59 r ts d lo (exR ts)) {w : World} {p : Nat} (hlo : lo ≤ p) (hR : RD w r ts p d) : Calls Tryz.prog 105 #[.pointer (some ⟨r, 0, none⟩)] w (RP (fun w' v t => PmV w' w.heap.size v t) (paramR ts p) r ts p d w) := by
  obtain ⟨Y, hY⟩ : ∃ Y, paramR ts p = Y := ⟨_, rfl⟩
  rw [hY]
  unfold paramR at hY
  have hr := hR.rlt
  obtain ⟨A, eA, hbA, hsA, hzA⟩ := box_new w #[.string ⟨#[]⟩, .int .i64 0, .string ⟨#[]⟩, .slice none 0 0, .int .i64 0, .int .i64 0] 81
  have HB := hide (But.of (r := r) hbA)
  have HR := hide (hR.keep hbA)
  have HZ := hide hzA
  have HS : Hid (w.heap.size < A.heap.size) := by show _ < _; omega
  have HL : Hid (p ≤ p ∧ lo ≤ p) := ⟨Nat.le_refl _, hlo⟩
  have HSA := hide hsA
  have HE := hide eA
  have HT := hide hT
  have HY := hide hY
  have hrne : r ≠ w.heap.size := by omega
  replace hE := hide hE
  clear hlo hR hbA hzA hsA eA hT hY
  go_enter Tryz.func105, Tryz.ntmps105
  have HC0 := hide (must_any (unhide HR) (unhide HT) (s := ⟨#[40]⟩) (by decide))
  go_wp2_with fail
  rw [unhide HE]
  refine (unhide HC0).mono ?_
  intro e w0 h0
  rcases hX0 : mustR ts ⟨#[40]⟩ (p) with er | ⟨t0, q0⟩
  · rw [hX0] at h0
    obtain ⟨ei, en⟩ := er
    have hYe : Y = .error (ei, en) := by have h := unhide HY; rw [hX0] at h; exact h.symm
    subst hYe
    obtain ⟨hb0, h0⟩ := h0
    obtain rfl : e = _ := h0
    have HP := hide ((unhide HB).trans hb0)
    clear hb0 HC0 hX0
    go_wp2
    exact ⟨rfl, unhide HP, rfl⟩
  rw [hX0] at h0
  obtain ⟨hb0, hle0, hR0, v0, rfl, hv0⟩ := h0
  have hY0 := unhide HY
  rw [hX0] at hY0
  simp only [thenR] at hY0
  replace HY := hide hY0
  clear hY0
  obtain rfl : v0 = _ := hv0
  replace HB := hide ((unhide HB).trans hb0)
  replace HZ := hide (zkeep (unhide HZ) hb0 hrne)
  replace HS := hide (Nat.lt_of_lt_of_le (unhide HS) hb0.size)
  replace HR := hide hR0
  replace HL := hide (And.intro (Nat.le_trans (unhide HL).1 hle0) (Nat.le_trans (unhide HL).2 hle0))
  clear hb0 hle0 hR0 HC0 hX0
  have HC1 := hide (mustBe_any (unhide HR) (unhide HT) (k := 1) (by decide))
  go_wp2_with fail
  refine (unhide HC1).mono ?_
  intro e w1 h1
  rcases hX1 : mustBeR ts 1 (q0) with er | ⟨t1, q1⟩
  · rw [hX1] at h1
    obtain ⟨ei, en⟩ := er
    have hYe : Y = .error (ei, en) := by have h := unhide HY; rw [hX1] at h; exact h.symm
    subst hYe
    obtain ⟨hb1, h1⟩ := h1
    obtain rfl : e = _ := h1
    have HP := hide ((unhide HB).trans hb1)
    clear hb1 HC1 hX1
    go_wp2
    exact ⟨rfl, unhide HP, rfl⟩
  rw [hX1] at h1
  obtain ⟨hb1, hle1, hR1, v1, rfl, hv1⟩ := h1
  have hY1 := unhide HY
  rw [hX1] at hY1
  simp only [thenR] at hY1
  replace HY := hide hY1
  clear hY1
  obtain ⟨kk1, T1, at1⟩ := t1
  obtain rfl : v1 = _ := hv1
  have hf01 := fld0 (.int .i64 kk1) (.string T1) (.int .i64 at1)
  have hf11 := fld1 (.int .i64 kk1) (.string T1) (.int .i64 at1)
  unfold tkV
  replace HB := hide ((unhide HB).trans hb1)
  replace HZ := hide (zkeep (unhide HZ) hb1 hrne)
  replace HS := hide (Nat.lt_of_lt_of_le (unhide HS) hb1.size)
  replace HR := hide hR1
  replace HL := hide (And.intro (Nat.le_trans (unhide HL).1 hle1) (Nat.le_trans (unhide HL).2 hle1))
  clear hb1 hle1 hR1 HC1 hX1
  obtain ⟨B2, eB2, hbB2, hsB2, hhB2⟩ := box_new w1 #[.int .i64 kk1, .string T1, .int .i64 at1] 74
  have ne2 : r ≠ w1.heap.size := by have := unhide HS; omega
  have HQHX2 := HS
  have hbu3 := But.of (r := r) hbB2
  replace HR := hide ((unhide HR).keep hbB2)
  replace HB := hide ((unhide HB).trans hbu3)
  replace HZ := hide (zkeep (unhide HZ) hbu3 hrne)
  replace HS := hide (Nat.lt_of_lt_of_le (unhide HS) hbu3.size)
  have HX2 := hide hhB2
  have HEB2 := hide eB2
  have HSB2 := hide hsB2
  clear eB2 hbB2 hhB2 hsB2
  have HC4 := hide (must_any (unhide HR) (unhide HT) (s := ⟨#[58]⟩) (by decide))
  go_wp2_with fail
  rw [unhide HEB2]
  refine (unhide HC4).mono ?_
  intro e w4 h4
  rcases hX4 : mustR ts ⟨#[58]⟩ (q1) with er | ⟨t4, q4⟩
  · rw [hX4] at h4
    obtain ⟨ei, en⟩ := er
    have hYe : Y = .error (ei, en) := by have h := unhide HY; rw [hX4] at h; exact h.symm
    subst hYe
    obtain ⟨hb4, h4⟩ := h4
    obtain rfl : e = _ := h4
    have HP := hide ((unhide HB).trans hb4)
    clear hb4 HC4 hX4
    go_wp2
    exact ⟨rfl, unhide HP, rfl⟩
  rw [hX4] at h4
  obtain ⟨hb4, hle4, hR4, v4, rfl, hv4⟩ := h4
  have hY4 := unhide HY
  rw [hX4] at hY4
  simp only [thenR] at hY4
  replace HY := hide hY4
  clear hY4
  obtain rfl : v4 = _ := hv4
  replace HB := hide ((unhide HB).trans hb4)
  replace HZ := hide (zkeep (unhide HZ) hb4 hrne)
  replace HX2 := hide (zkeep (unhide HX2) hb4 ne2)
  replace HS := hide (Nat.lt_of_lt_of_le (unhide HS) hb4.size)
  replace HR := hide hR4
  replace HL := hide (And.intro (Nat.le_trans (unhide HL).1 hle4) (Nat.le_trans (unhide HL).2 hle4))
  clear hb4 hle4 hR4 HC4 hX4
  go_wp2_with fail
  refine param_r4 (X := typeR ts q4) rfl rfl rfl (unhide HX2) ne2 (unhide HR).rlt (fun W2 hb2 => typeOf_of (unhide HT) (unhide hE) (unhide HL).2 ((unhide HR).keep hb2)) ?_ ?_
  · intro a w9 ei en hX hd hb
    have hYe : Y = .error (ei, en) := by have h := unhide HY; rw [hX] at h; exact h.symm
    subst hYe
    exact ⟨hd, (unhide HB).trans hb, rfl⟩
  intro a W2 t q qb k n ad m c i hX hd hk h4 hsz hqb hz hb hR hle hv
  obtain ⟨x, hae, hx⟩ := act_set (N := 21) (kept := ((List.range 21).filter fun i => !([11, 12, 13, 14, 15, 16, 17, 4].contains i))) [11, 12, 13, 14, 15, 16, 17, 4] (by decide) hd hsz rfl hk
  have hx4 : x 4 = .pointer (some ⟨qb, 0, none⟩) := by rw [hx, Array.getD_eq_getD_getElem?, h4]; rfl
  subst hae
  obtain ⟨ad2, m2, c2, e9, hls⟩ := hv
  obtain ⟨rfl, rfl, ⟨rfl, rfl, rfl⟩, rfl⟩ : k = t.kind ∧ n = t.name ∧ (ad = ad2 ∧ m = m2 ∧ c = c2) ∧ i = t.at' := by simpa using e9
  obtain ⟨V2, eV2⟩ : ∃ V2, setN W2 qb 0 [.string T1, .int .i64 t.kind, .string t.name, .slice ad m c, .int .i64 t.at', .int .i64 at1] = V2 := ⟨_, rfl⟩
  rw [eV2]
  have hHS := unhide HS
  have hqn : w.heap.size < qb := by omega
  have hY9 := unhide HY
  rw [hX] at hY9
  simp only [thenR] at hY9
  replace HY := hide hY9
  replace HB := hide (by rw [← eV2]; exact But.setN [.string T1, .int .i64 t.kind, .string t.name, .slice ad m c, .int .i64 t.at', .int .i64 at1] W2 0 ((unhide HB).trans hb) (by omega) : But r w V2)
  replace HR := hide (by rw [← eV2]; exact hR.setN (by omega) 0 [.string T1, .int .i64 t.kind, .string t.name, .slice ad m c, .int .i64 t.at', .int .i64 at1] : RD V2 r ts q d)
  replace HZ := hide (by rw [← eV2]; exact (heap_setN (by omega) [.string T1, .int .i64 t.kind, .string t.name, .slice ad m c, .int .i64 t.at', .int .i64 at1] W2 0).trans (zkeep (unhide HZ) hb hrne) : V2.heap[w.heap.size]? = some (.cells #[.string ⟨#[]⟩, .int .i64 0, .string ⟨#[]⟩, .slice none 0 0, .int .i64 0, .int .i64 0] 81))
  have HXq := hide (by rw [← eV2]; exact blk_all (xs := [.string ⟨#[]⟩, .int .i64 0, .string ⟨#[]⟩, .slice none 0 0, .int .i64 0, .int .i64 0]) hz rfl : V2.heap[qb]? = some (.cells [.string T1, .int .i64 t.kind, .string t.name, .slice ad m c, .int .i64 t.at', .int .i64 at1].toArray 81))
  have hsV : V2.heap.size = W2.heap.size := by rw [← eV2]; exact size_setN [.string T1, .int .i64 t.kind, .string t.name, .slice ad m c, .int .i64 t.at', .int .i64 at1] W2 0
  have HTq : Hid (IsLs V2 (w.heap.size + 1) (.slice ad m c) t.r) := (LsP.keep (P' := fun b => w.heap.size + 1 ≤ b) hls ⟨by omega, fun k hk hs => by rw [← eV2]; exact heap_setN hk.2 [.string T1, .int .i64 t.kind, .string t.name, .slice ad m c, .int .i64 t.at', .int .i64 at1] W2 0⟩ fun b hb => by have := hb.1; omega : LsP V2 _ _ _)
  replace HS := hide (by have := hb.size; omega : w.heap.size < V2.heap.size)
  replace HL := hide (And.intro (Nat.le_trans (unhide HL).1 hle) (Nat.le_trans (unhide HL).2 hle))
  have neq : r ≠ qb := by omega
  have hdf : V2 = V2 := rfl
  clear hdf hX hd hk h4 hsz hz hb hR hle e9 hls eV2 hHS hY9 hsV hx hqb
  simp only [setAll]
  rw [hx4]
  clear hx4
  have HC5 := hide (must_any (unhide HR) (unhide HT) (s := ⟨#[41]⟩) (by decide))
  go_wp2_with fail
  refine (unhide HC5).mono ?_
  intro e w5 h5
  rcases hX5 : mustR ts ⟨#[41]⟩ (q) with er | ⟨t5, q5⟩
  · rw [hX5] at h5
    obtain ⟨ei, en⟩ := er
    have hYe : Y = .error (ei, en) := by have h := unhide HY; rw [hX5] at h; exact h.symm
    subst hYe
    obtain ⟨hb5, h5⟩ := h5
    obtain rfl : e = _ := h5
    have HP := hide ((unhide HB).trans hb5)
    clear hb5 HC5 hX5
    go_wp2
    exact ⟨rfl, unhide HP, rfl⟩
  rw [hX5] at h5
  obtain ⟨hb5, hle5, hR5, v5, rfl, hv5⟩ := h5
  have hY5 := unhide HY
  rw [hX5] at hY5
  simp only [thenR] at hY5
  replace HY := hide hY5
  clear hY5
  obtain rfl : v5 = _ := hv5
  replace HB := hide ((unhide HB).trans hb5)
  replace HZ := hide (zkeep (unhide HZ) hb5 hrne)
  replace HXq := hide (zkeep (unhide HXq) hb5 neq)
  replace HTq := hide ((unhide HTq).keep (Stays.but hb5 (by omega)) (Nat.le_refl _))
  replace HS := hide (Nat.lt_of_lt_of_le (unhide HS) hb5.size)
  replace HR := hide hR5
  replace HL := hide (And.intro (Nat.le_trans (unhide HL).1 hle5) (Nat.le_trans (unhide HL).2 hle5))
  clear hb5 hle5 hR5 HC5 hX5
  have x0 := (blk (unhide HXq)).2.1 0 _ rfl
  have x1 := (blk (unhide HXq)).2.1 1 _ rfl
  have x2 := (blk (unhide HXq)).2.1 2 _ rfl
  have x3 := (blk (unhide HXq)).2.1 3 _ rfl
  have x4 := (blk (unhide HXq)).2.1 4 _ rfl
  have x5 := (blk (unhide HXq)).2.1 5 _ rfl
  have HF0 : PmV w5 (w.heap.size + 1) (.agg #[.string T1, .int .i64 t.kind, .string t.name, .slice ad m c, .int .i64 t.at', .int .i64 at1]) (.mk T1 t at1) := ⟨_, _, _, rfl, unhide HTq⟩
  have HF := hide HF0
  clear HF0
  have y0 := (blk (unhide HZ)).2.1 0 _ rfl
  have z0 := (blk (unhide HZ)).2.2 0
  have y1 := (blk (unhide HZ)).2.1 1 _ rfl
  have z1 := (blk (unhide HZ)).2.2 1
  have y2 := (blk (unhide HZ)).2.1 2 _ rfl
  have z2 := (blk (unhide HZ)).2.2 2
  have y3 := (blk (unhide HZ)).2.1 3 _ rfl
  have z3 := (blk (unhide HZ)).2.2 3
  have y4 := (blk (unhide HZ)).2.1 4 _ rfl
  have z4 := (blk (unhide HZ)).2.2 4
  have y5 := (blk (unhide HZ)).2.1 5 _ rfl
  have z5 := (blk (unhide HZ)).2.2 5
  go_wp2
  exact ret_row (cs := [.string T1, .int .i64 t.kind, .string t.name, .slice ad m c, .int .i64 t.at', .int .i64 at1]) (xs := [.string ⟨#[]⟩, .int .i64 0, .string ⟨#[]⟩, .slice none 0 0, .int .i64 0, .int .i64 0]) PmV.keep rfl rfl rfl (unhide HB) hr (unhide HZ) rfl Tryz.underlying81 rfl (by kernel_rfl) (by have h := unhide HY; exact h.symm) (unhide HL).1 (unhide HR) (lo := w.heap.size + 1) (by omega) (unhide HF)
end Go.Proofs.YtfkfnbehdcmgeaaGreatDoor
