/- Package scope as plain Lean: binders stay few. -/
import Derived.Test.YtljhpbjngbbjbaaDoorZAB
import Derived.WalkSmall
import Derived.Test.YtljhpbjngbbjbaaDoorZAA
import Derived.Deep.AppendLies
import Derived.Defers
import Derived.Recover
set_option linter.unusedVariables false
set_option linter.unusedSimpArgs false

/- Package parse: the reader's small functions. -/
namespace Go.Proofs.YtljhpbjngbbjbaaDoor
open Go Go.RowKit
def tkV (x : (Int × ByteArray × Int)) : Value := .agg #[.int .i64 x.1, .string x.2.1, .int .i64 x.2.2]
def VP (v : Value) (w : World) (e : Ending) (w' : World) : Prop := e = .returned v ∧ Below w.heap.size w w'
theorem below_set {w A : World} {B q : Nat} (h : Below B w A) (hq : B ≤ q) (o : Nat) (v : Value) : Below B w (A.setCell ⟨q, o, none⟩ v) :=
  ⟨h.os, h.tape, h.output, by simpa using h.size, fun k hk => (Below.heap_setCell A ⟨q, o, none⟩ v k (by show k ≠ q; omega)).trans (h.block k hk)⟩
theorem fill3 {w : World} {q : Nat} {a b c x y z : Value} {ty : TypeId} (h : w.heap[q]? = some (.cells #[a, b, c] ty)) : (((w.setCell ⟨q, 0, none⟩ x).setCell ⟨q, 1, none⟩ y).setCell ⟨q, 2, none⟩ z).heap[q]? = some (.cells #[x, y, z] ty) := set_block (set_block (set_block h _) _) _
theorem but_new {r q : Nat} {w A : World} (h : But r w A) (hq : w.heap.size ≤ q) (o : Nat) (v : Value) : But r w (A.setCell ⟨q, o, none⟩ v) :=
  ⟨h.os, h.tape, h.output, by simpa using h.size, fun k hk hr => (Below.heap_setCell A ⟨q, o, none⟩ v k (by show k ≠ q; omega)).trans (h.block k hk hr)⟩
theorem but_drew {r : Nat} {w A : World} (h : But r w A) : But r w A.drew := ⟨h.os, h.tape, h.output, h.size, h.block⟩
theorem heap_set {A : World} {q k : Nat} (o : Nat) (v : Value) (h : k ≠ q) : (A.setCell ⟨q, o, none⟩ v).heap[k]? = A.heap[k]? := Below.heap_setCell A ⟨q, o, none⟩ v k h
theorem heap_drew (w : World) : w.drew.heap = w.heap := rfl
theorem toList_inj {x y : ByteArray} (h : x.toList = y.toList) : x = y := by
  rw [Lib.toList_data, Lib.toList_data] at h
  obtain ⟨a⟩ := x
  obtain ⟨b⟩ := y
  congr
  exact Array.toList_inj.1 h
theorem str_eq (a b : ByteArray) : (a.toList == b.toList) = decide (a = b) := by
  rw [Bool.eq_iff_iff]
  simp only [beq_iff_eq, decide_eq_true_eq]
  exact ⟨toList_inj, fun h => by rw [h]⟩
set_option maxRecDepth 100000 in
theorem fld0 (x y z : Value) (W : World) : (Instr.field 87 (.agg #[x, y, z]) 0).run Tryd.prog W = .ok x W := by rfl
set_option maxRecDepth 100000 in
theorem fld1 (x y z : Value) (W : World) : (Instr.field 87 (.agg #[x, y, z]) 1).run Tryd.prog W = .ok y W := by rfl
set_option maxRecDepth 100000 in
theorem fld2 (x y z : Value) (W : World) : (Instr.field 87 (.agg #[x, y, z]) 2).run Tryd.prog W = .ok z W := by rfl
end Go.Proofs.YtljhpbjngbbjbaaDoor

/- Package parse: the reader's small functions, and what a rule answers. -/
namespace Go.Proofs.YtljhpbjngbbjbaaDoor
open Go Go.RowKit
theorem nx_kind {ts : List (Int × ByteArray × Int)} {p : Nat} (hT : TsOk ts) (hp : p < ts.length) (h : (nx ts p).1 ≠ 0) : p + 1 < ts.length := hT.txt p _ (nx_of hp) (.inr h)
end Go.Proofs.YtljhpbjngbbjbaaDoor

/- Package parse: small functions that make or ask. -/
namespace Go.Proofs.YtljhpbjngbbjbaaDoor
open Go Go.RowKit
theorem fill7 {w : World} {q : Nat} {a0 a1 a2 a3 a4 a5 a6 x0 x1 x2 x3 x4 x5 x6 : Value} {ty : TypeId} (h : w.heap[q]? = some (.cells #[a0, a1, a2, a3, a4, a5, a6] ty)) : (((((((w.setCell ⟨q, 0, none⟩ x0).setCell ⟨q, 1, none⟩ x1).setCell ⟨q, 2, none⟩ x2).setCell ⟨q, 3, none⟩ x3).setCell ⟨q, 4, none⟩ x4).setCell ⟨q, 5, none⟩ x5).setCell ⟨q, 6, none⟩ x6).heap[q]? = some (.cells #[x0, x1, x2, x3, x4, x5, x6] ty) := by
  have h0 : (w.setCell ⟨q, 0, none⟩ x0).heap[q]? = some (.cells #[x0, a1, a2, a3, a4, a5, a6] ty) := set_block h x0
  have h1 : ((w.setCell ⟨q, 0, none⟩ x0).setCell ⟨q, 1, none⟩ x1).heap[q]? = some (.cells #[x0, x1, a2, a3, a4, a5, a6] ty) := set_block h0 x1
  have h2 : (((w.setCell ⟨q, 0, none⟩ x0).setCell ⟨q, 1, none⟩ x1).setCell ⟨q, 2, none⟩ x2).heap[q]? = some (.cells #[x0, x1, x2, a3, a4, a5, a6] ty) := set_block h1 x2
  have h3 : ((((w.setCell ⟨q, 0, none⟩ x0).setCell ⟨q, 1, none⟩ x1).setCell ⟨q, 2, none⟩ x2).setCell ⟨q, 3, none⟩ x3).heap[q]? = some (.cells #[x0, x1, x2, x3, a4, a5, a6] ty) := set_block h2 x3
  have h4 : (((((w.setCell ⟨q, 0, none⟩ x0).setCell ⟨q, 1, none⟩ x1).setCell ⟨q, 2, none⟩ x2).setCell ⟨q, 3, none⟩ x3).setCell ⟨q, 4, none⟩ x4).heap[q]? = some (.cells #[x0, x1, x2, x3, x4, a5, a6] ty) := set_block h3 x4
  have h5 : ((((((w.setCell ⟨q, 0, none⟩ x0).setCell ⟨q, 1, none⟩ x1).setCell ⟨q, 2, none⟩ x2).setCell ⟨q, 3, none⟩ x3).setCell ⟨q, 4, none⟩ x4).setCell ⟨q, 5, none⟩ x5).heap[q]? = some (.cells #[x0, x1, x2, x3, x4, x5, a6] ty) := set_block h4 x5
  have h6 : (((((((w.setCell ⟨q, 0, none⟩ x0).setCell ⟨q, 1, none⟩ x1).setCell ⟨q, 2, none⟩ x2).setCell ⟨q, 3, none⟩ x3).setCell ⟨q, 4, none⟩ x4).setCell ⟨q, 5, none⟩ x5).setCell ⟨q, 6, none⟩ x6).heap[q]? = some (.cells #[x0, x1, x2, x3, x4, x5, x6] ty) := set_block h5 x6
  exact h6
/-- The facts on a block of an expression that a walk wants. -/
theorem blk7 {w : World} {q : Nat} {x0 x1 x2 x3 x4 x5 x6 : Value} {ty : TypeId} (h : w.heap[q]? = some (.cells #[x0, x1, x2, x3, x4, x5, x6] ty)) : w.cell? ⟨q, 0, none⟩ = some x0 ∧ w.cell? ⟨q, 1, none⟩ = some x1 ∧ w.cell? ⟨q, 2, none⟩ = some x2 ∧ w.cell? ⟨q, 3, none⟩ = some x3 ∧ w.cell? ⟨q, 4, none⟩ = some x4 ∧ w.cell? ⟨q, 5, none⟩ = some x5 ∧ w.cell? ⟨q, 6, none⟩ = some x6 := ⟨(blk h).2.1 0 _ rfl, (blk h).2.1 1 _ rfl, (blk h).2.1 2 _ rfl, (blk h).2.1 3 _ rfl, (blk h).2.1 4 _ rfl, (blk h).2.1 5 _ rfl, (blk h).2.1 6 _ rfl⟩
theorem frz7 {w : World} {q : Nat} {cs : Array Value} {ty : TypeId} (h : w.heap[q]? = some (.cells cs ty)) : w.frozen? ⟨q, 0, none⟩ = false ∧ w.frozen? ⟨q, 1, none⟩ = false ∧ w.frozen? ⟨q, 2, none⟩ = false ∧ w.frozen? ⟨q, 3, none⟩ = false ∧ w.frozen? ⟨q, 4, none⟩ = false ∧ w.frozen? ⟨q, 5, none⟩ = false ∧ w.frozen? ⟨q, 6, none⟩ = false := ⟨(blk h).2.2 0, (blk h).2.2 1, (blk h).2.2 2, (blk h).2.2 3, (blk h).2.2 4, (blk h).2.2 5, (blk h).2.2 6⟩
theorem but7 {w A : World} {r q : Nat} (h : But r w A) (hq : w.heap.size ≤ q) (x0 x1 x2 x3 x4 x5 x6 : Value) : But r w (((((((A.setCell ⟨q, 0, none⟩ x0).setCell ⟨q, 1, none⟩ x1).setCell ⟨q, 2, none⟩ x2).setCell ⟨q, 3, none⟩ x3).setCell ⟨q, 4, none⟩ x4).setCell ⟨q, 5, none⟩ x5).setCell ⟨q, 6, none⟩ x6) := but_new (but_new (but_new (but_new (but_new (but_new (but_new h hq _ _) hq _ _) hq _ _) hq _ _) hq _ _) hq _ _) hq _ _
theorem stays7 {w A : World} {lo q : Nat} (h : Stays lo w A) (hq : q < lo) (x0 x1 x2 x3 x4 x5 x6 : Value) : Stays lo w (((((((A.setCell ⟨q, 0, none⟩ x0).setCell ⟨q, 1, none⟩ x1).setCell ⟨q, 2, none⟩ x2).setCell ⟨q, 3, none⟩ x3).setCell ⟨q, 4, none⟩ x4).setCell ⟨q, 5, none⟩ x5).setCell ⟨q, 6, none⟩ x6) := ((((((h.set hq _ _).set hq _ _).set hq _ _).set hq _ _).set hq _ _).set hq _ _).set hq _ _
theorem same7 {A : World} {q k : Nat} (h : k ≠ q) (x0 x1 x2 x3 x4 x5 x6 : Value) : (((((((A.setCell ⟨q, 0, none⟩ x0).setCell ⟨q, 1, none⟩ x1).setCell ⟨q, 2, none⟩ x2).setCell ⟨q, 3, none⟩ x3).setCell ⟨q, 4, none⟩ x4).setCell ⟨q, 5, none⟩ x5).setCell ⟨q, 6, none⟩ x6).heap[k]? = A.heap[k]? := by
  rw [heap_set _ _ h, heap_set _ _ h, heap_set _ _ h, heap_set _ _ h, heap_set _ _ h, heap_set _ _ h, heap_set _ _ h]
end Go.Proofs.YtljhpbjngbbjbaaDoor

/- Package parse: what an operator's sign is; which tokens begin what. -/
namespace Go.Proofs.YtljhpbjngbbjbaaDoor
open Go Go.RowKit
theorem eqb (s l : ByteArray) (ll : List UInt8) (h : l.data.toList = ll) : (s = l) = ((s.toList == ll) = true) := by
  rw [← h, ← Lib.toList_data]
  exact propext ⟨fun h => by rw [h]; simp, fun h => toList_inj (by simpa using h)⟩
end Go.Proofs.YtljhpbjngbbjbaaDoor

/- Package parse: a rule that is one deeper. -/
namespace Go.Proofs.YtljhpbjngbbjbaaDoor
open Go Go.RowKit
theorem IsEP.form {w : World} {P : Nat → Prop} {v : Value} {t : Ex} (h : IsEP w P v t) : ∃ (i0 i6 : Int) (s1 s2 : ByteArray) (b3 : Bool) (a4 : Option Addr) (n4 c4 : Nat), v = .agg #[.int .i64 i0, .string s1, .string s2, .bool b3, .slice a4 n4 c4, .int .i64 0, .int .i64 i6] := by
  obtain ⟨op, nm, nu, bl, l, i⟩ := t
  obtain ⟨k, a, c, e, -⟩ := h
  exact ⟨_, _, _, _, _, _, _, _, e⟩
theorem IsE.form {w : World} {lo : Nat} {v : Value} {t : Ex} (h : IsE w lo v t) : ∃ (i0 i6 : Int) (s1 s2 : ByteArray) (b3 : Bool) (a4 : Option Addr) (n4 c4 : Nat), v = .agg #[.int .i64 i0, .string s1, .string s2, .bool b3, .slice a4 n4 c4, .int .i64 0, .int .i64 i6] := IsEP.form h
end Go.Proofs.YtljhpbjngbbjbaaDoor

/- Package parse: expr, unaryBehind. -/
namespace Go.Proofs.YtljhpbjngbbjbaaDoor
open Go Go.RowKit
def set7 (W : World) (q : Nat) (x0 x1 x2 x3 x4 x5 x6 : Value) : World := (((((((W.setCell ⟨q, 0, none⟩ x0).setCell ⟨q, 1, none⟩ x1).setCell ⟨q, 2, none⟩ x2).setCell ⟨q, 3, none⟩ x3).setCell ⟨q, 4, none⟩ x4).setCell ⟨q, 5, none⟩ x5).setCell ⟨q, 6, none⟩ x6)
/-- A box that is not yet filled. -/
def ZB (w : World) (q : Nat) : Prop := w.heap[q]? = some (.cells #[.int .i64 0, .string ⟨#[]⟩, .string ⟨#[]⟩, .bool false, .slice none 0 0, .int .i64 0, .int .i64 0] 51)
theorem ZB.but {w w' : World} {q r : Nat} (h : ZB w q) (hb : But r w w') (hr : r ≠ q) : ZB w' q := (hb.block q (blk h).1 (Ne.symm hr)).trans h
theorem zb_new (w : World) : ∃ A, w.alloc (.cells #[.int .i64 0, .string ⟨#[]⟩, .string ⟨#[]⟩, .bool false, .slice none 0 0, .int .i64 0, .int .i64 0] 51) = A ∧ Below w.heap.size w A ∧ ZB A w.heap.size ∧ A.heap.size = w.heap.size + 1 := by
  obtain ⟨A, eA, hbA, hsA, hhA⟩ := box_new w #[.int .i64 0, .string ⟨#[]⟩, .string ⟨#[]⟩, .bool false, .slice none 0 0, .int .i64 0, .int .i64 0] 51
  exact ⟨A, eA, hbA, hhA, hsA⟩
end Go.Proofs.YtljhpbjngbbjbaaDoor

/- Package parse: a node of expressions that lie. -/
namespace Go.Proofs.YtljhpbjngbbjbaaDoor
open Go Go.RowKit
theorem IsEP.at {w W' : World} {P : Nat → Prop} {b o : Nat} {cs : List Value} {t : Ex} (h : IsEP w P (.agg cs.toArray) t) (hs : StaysP P w W') (hr : W'.rangeAt b o cs) : ∃ k, ExAt W' P k b o t := by
  obtain ⟨op, nm, nu, bl, l, i⟩ := t
  obtain ⟨k, a, c, e, h2⟩ := h
  have e2 : cs = [.int .i64 op, .string nm, .string nu, .bool bl, .slice a l.length c, .int .i64 0, .int .i64 i] := by simpa using e
  subst e2
  exact ⟨k + 1, a, c, hr, h2.mono hs.1 (fun _ h => h) fun b o j hr hbl hj t ht => ExAt.keep hs (fun _ h => h) k b o t hr hbl (hj t ht)⟩
theorem all_high {W : World} {P : Nat → Prop} {b : Nat} : ∀ (l : List Ex) (o : Nat), (∀ (j : Nat) t, l[j]? = some t → ∃ k, ExAt W P k b (o + j * 7) t) → ∃ k, ∀ (j : Nat) t, l[j]? = some t → ExAt W P k b (o + j * 7) t
  | [], _, _ => ⟨0, fun j t h => by simp at h⟩
  | x :: l, o, h => by
    obtain ⟨k1, h1⟩ := h 0 x rfl
    obtain ⟨k2, h2⟩ := all_high l (o + 7) fun j t ht => by
      obtain ⟨k, hk⟩ := h (j + 1) t (by simpa using ht)
      exact ⟨k, by rw [show o + 7 + j * 7 = o + (j + 1) * 7 by omega]; exact hk⟩
    refine ⟨max k1 k2, fun j t ht => ?_⟩
    cases j with
    | zero =>
      obtain rfl : x = t := by simpa using ht
      exact ExAt.up _ _ _ _ _ h1 (Nat.le_max_left _ _)
    | succ j =>
      have := h2 j t (by simpa using ht)
      rw [show o + 7 + j * 7 = o + (j + 1) * 7 by omega] at this
      exact ExAt.up _ _ _ _ _ this (Nat.le_max_right _ _)
theorem flat_at : ∀ (vs : List (List Value)) (j : Nat) (v : List Value), (∀ v ∈ vs, v.length = 7) → vs[j]? = some v → ∀ (k : Nat) u, v[k]? = some u → vs.flatten[j * 7 + k]? = some u
  | [], j, v, _, h => by simp at h
  | x :: vs, 0, v, hl, h => fun k u hu => by
    obtain rfl : x = v := by simpa using h
    rw [List.flatten_cons, Nat.zero_mul, Nat.zero_add, List.getElem?_append_left (List.getElem?_eq_some_iff.1 hu).1]
    exact hu
  | x :: vs, j + 1, v, hl, h => fun k u hu => by
    have h7 : x.length = 7 := hl x (by simp)
    have := flat_at vs j v (fun v hv => hl v (by simp [hv])) (by simpa using h) k u hu
    rw [List.flatten_cons, List.getElem?_append_right (by omega), h7, show (j + 1) * 7 + k - 7 = j * 7 + k by omega]
    exact this
/-- A row of operands that was laid anew. -/
theorem nodeP {w W : World} {P : Nat → Prop} {vs : List (List Value)} {l : List Ex} {cs : Array Value} {ty : TypeId} (op i : Int) (nm nu : ByteArray) (bl : Bool) (hW : w.alloc (.cells cs ty) = W) (hcs : cs = vs.flatten.toArray) (h7 : ∀ v ∈ vs, v.length = 7) (hlen : vs.length = l.length) (hn : l.length ≤ 1000000) (hlo : P w.heap.size) (h : ∀ (j : Nat) v t, vs[j]? = some v → l[j]? = some t → IsEP w P (.agg v.toArray) t) : IsEP W P (.agg #[.int .i64 op, .string nm, .string nu, .bool bl, .slice (some ⟨w.heap.size, 0, none⟩) l.length l.length, .int .i64 0, .int .i64 i]) (.mk op nm nu bl l i) := by
  have hh : W.heap[w.heap.size]? = some (.cells cs ty) := by rw [← hW]; exact (MapKept.heap_alloc w (.cells cs ty)).1
  have hB : Below w.heap.size w W := by rw [← hW]; exact (Below.refl _ w).alloc (Nat.le_refl _) _
  obtain ⟨k, hk⟩ := all_high (W := W) (P := P) (b := w.heap.size) l 0 fun j t ht => by
    obtain ⟨v, hv⟩ : ∃ v, vs[j]? = some v := ⟨_, List.getElem?_eq_getElem (by rw [hlen]; exact (List.getElem?_eq_some_iff.1 ht).1)⟩
    refine (h j v t hv ht).at (⟨hB.size, fun k _ hk => hB.block k hk⟩ : StaysP P w W) fun m u hu => ?_
    rw [Nat.zero_add]
    exact (blk hh).2.1 _ _ (by rw [hcs]; simpa using flat_at vs j v h7 hv m u hu)
  exact ⟨k, _, _, rfl, Nat.le_refl _, by omega, fun _ => ⟨w.heap.size, 0, rfl, hlo, (blk hh).1, fun j _ t ht => hk j t ht⟩⟩
theorem node {w W : World} {lo : Nat} {vs : List (List Value)} {l : List Ex} {cs : Array Value} {ty : TypeId} (op i : Int) (nm nu : ByteArray) (bl : Bool) (hW : w.alloc (.cells cs ty) = W) (hcs : cs = vs.flatten.toArray) (h7 : ∀ v ∈ vs, v.length = 7) (hlen : vs.length = l.length) (hn : l.length ≤ 1000000) (hlo : lo ≤ w.heap.size) (h : ∀ (j : Nat) v t, vs[j]? = some v → l[j]? = some t → IsE w lo (.agg v.toArray) t) : IsE W lo (.agg #[.int .i64 op, .string nm, .string nu, .bool bl, .slice (some ⟨w.heap.size, 0, none⟩) l.length l.length, .int .i64 0, .int .i64 i]) (.mk op nm nu bl l i) := nodeP op i nm nu bl hW hcs h7 hlen hn hlo h
theorem leaf {W : World} {lo : Nat} (op i : Int) (nm nu : ByteArray) (bl : Bool) : IsE W lo (.agg #[.int .i64 op, .string nm, .string nu, .bool bl, .slice none 0 0, .int .i64 0, .int .i64 i]) (.mk op nm nu bl [] i) := ⟨0, none, 0, rfl, Nat.le_refl _, by simp, fun h => absurd rfl h⟩
end Go.Proofs.YtljhpbjngbbjbaaDoor

/- A drawn region whose world-changing operations come one behind the other; the last of them may be a store. -/
namespace Go.Proofs.YtljhpbjngbbjbaaDoor
open Go Go.RowKit
def upL (L : Nat → Bool) (i : Nat) : Nat → Bool := fun j => if j = i then true else L j
def upS (s : Nat → Value) (i : Nat) (v : Value) : Nat → Value := fun j => if j = i then v else s j
theorem upL_same (L : Nat → Bool) (i : Nat) : upL L i i = true := if_pos rfl
theorem upL_other {L : Nat → Bool} {i j : Nat} (h : j ≠ i) : upL L i j = L j := if_neg h
theorem upS_same (s : Nat → Value) (i : Nat) (v : Value) : upS s i v i = v := if_pos rfl
theorem upS_other {s : Nat → Value} {i j : Nat} {v : Value} (h : j ≠ i) : upS s i v j = s j := if_neg h
section
variable {P : Program} {X : Exit → Act → World → Prop}
theorem seqP {l : List Oper} {a0 : Act} {w0 : World} (N : Nat) (kept : List Nat) (Φ : Nat → Value → Prop) (chn : Nat → Bool) (Q : (Nat → Bool) → (Nat → Value) → World → Prop)
    (hg : fitF N 0 kept l = true) (hN : a0.tmps.size = N)
    (hlt : ∀ i, chn i = true → i < l.length)
    (h0 : Q (fun _ => false) (slotOf l.toArray a0) w0)
    (hloc : ∀ (L L' : Nat → Bool) (s s' : Nat → Value) (w : World), (∀ i, chn i = true → L i = L' i ∧ ((l.getD i default).dst.isSome = true → s i = s' i)) → Q L s w → Q L' s' w)
    (hsome : ∀ i o, l[i]? = some o → o.dst = none → chn i = true ∧ ∀ v, Φ i v)
    (hpure : ∀ i, i < l.length → chn i = false → ∀ (a : Act) (w : World) (L : Nat → Bool), a.defers = a0.defers → a.tmps.size = N → (∀ k, k ∈ kept → a.tmps[k]? = a0.tmps[k]?) → (∀ j, (preds (l.getD i default)).contains j = true → Φ j (slotOf l.toArray a j)) → Q L (slotOf l.toArray a) w →
      if Region.wanted (l.getD i default) (yielded l.toArray a.tmps) then (l.getD i default).wp P a w (fun a' w' => ∃ v, a' = a.put (l.getD i default).dst v ∧ w' = w ∧ Φ i v) X else Φ i undef)
    (hch : ∀ i, chn i = true → ∀ (a : Act) (w : World) (L : Nat → Bool), a.defers = a0.defers → a.tmps.size = N → (∀ k, k ∈ kept → a.tmps[k]? = a0.tmps[k]?) → (∀ j, (preds (l.getD i default)).contains j = true → L j = true ∧ Φ j (slotOf l.toArray a j)) → L i = false → (∀ j, j < l.length → L j = true → ∀ k, (preds (l.getD j default)).contains k = true → L k = true) → Q L (slotOf l.toArray a) w →
      if Region.wanted (l.getD i default) (yielded l.toArray a.tmps) then (l.getD i default).wp P a w (fun a' w' => ∃ v, a' = a.put (l.getD i default).dst v ∧ ((l.getD i default).dst.isSome = true → Φ i v) ∧ Q (upL L i) (upS (slotOf l.toArray a) i v) w') X else ((l.getD i default).dst.isSome = true → Φ i undef) ∧ Q (upL L i) (upS (slotOf l.toArray a) i undef) w)
    (hend : ∀ (a : Act) (w : World), a.defers = a0.defers → a.tmps.size = N → (∀ k, k ∈ kept → a.tmps[k]? = a0.tmps[k]?) → (∀ i, i < l.length → Φ i (slotOf l.toArray a i)) → Q (fun _ => true) (slotOf l.toArray a) w → X .normal a w) :
    wpAny P .any l.toArray X l.toArray.size (Array.replicate l.toArray.size false) a0 w0 := by
  have hgd : ∀ (i : Nat) (o : Oper), l[i]? = some o → l.getD i default = o := fun i o ho => by simp [List.getD_eq_getElem?_getD, ho]
  have hspec := fitF_spec l 0 kept hg
  have hslot : ∀ (i : Nat) (o : Oper) (k : Nat) (ok : Oper) (a : Act) (v : Value), l[i]? = some o → l[k]? = some ok → ok.dst.isSome = true → k ≠ i → slotOf l.toArray (a.put o.dst v) k = slotOf l.toArray a k := fun i o k ok a v ho hk hks hne => by
    obtain ⟨dk, hdk⟩ := Option.isSome_iff_exists.1 hks
    have hk' : l.toArray[k]? = some ok := by simpa using hk
    cases hd : o.dst with
    | none => rfl
    | some d =>
      refine slot_put_other hk' hdk fun e => ?_
      subst e
      rcases Nat.lt_or_gt_of_ne hne with h | h
      · exact ((hspec i o ho).2 d hd).2.2 k ok h hk hdk
      · exact ((hspec k ok hk).2 d hdk).2.2 i o h ho hd
  have hself : ∀ (i : Nat) (o : Oper) (a : Act) (v : Value), l[i]? = some o → o.dst.isSome = true → a.tmps.size = N → slotOf l.toArray (a.put o.dst v) i = v := fun i o a v ho hs hn => by
    obtain ⟨d, hd⟩ := Option.isSome_iff_exists.1 hs
    have ho' : l.toArray[i]? = some o := by simpa using ho
    exact slot_put_same (a := a) (v := v) ho' hd (by have := ((hspec i o ho).2 d hd).2.1; omega)
  have hget : ∀ (listed : Array Bool) (i j : Nat), i ≠ j → (listed.setIfInBounds i true).getD j false = listed.getD j false := fun listed i j e => getD_set_ne false e
  refine stepsF N kept Φ (fun listed a w => Q (fun j => listed.getD j false) (slotOf l.toArray a) w) hg hN ?_ ?_ ?_ ?_
  · have hrep : ∀ i, (Array.replicate l.length false).getD i false = false := fun i => by
      simp only [Array.getD_eq_getD_getElem?, Array.getElem?_replicate]
      split <;> rfl
    exact hloc _ _ _ _ w0 (fun i _ => ⟨(hrep i).symm, fun _ => rfl⟩) h0
  · intro i o ho listed a w hsz hun hdown hdf hn hk hpr hQ
    have hi := (List.getElem?_eq_some_iff.1 ho).1
    have hun' : listed.getD i false = false := by
      have h1 : i < listed.size := by omega
      simpa [h1] using hun
    have hset : (listed.setIfInBounds i true).getD i false = true := by
      have h1 : i < listed.size := by omega
      simp [h1]
    have ed := hgd i o ho
    cases hc : chn i with
    | false =>
      have hkeep : ∀ v, Q (fun j => (listed.setIfInBounds i true).getD j false) (slotOf l.toArray (a.put o.dst v)) w := fun v => hloc _ _ _ _ w (fun j hj => by
        have hne : i ≠ j := fun e => by rw [← e, hc] at hj; cases hj
        have hj2 := List.getElem?_eq_getElem (hlt j hj)
        exact ⟨(hget listed i j hne).symm, fun hs => (hslot i o j _ a v ho hj2 (by rw [hgd j _ hj2] at hs; exact hs) (Ne.symm hne)).symm⟩) hQ
      have h := hpure i hi hc a w (fun j => listed.getD j false) hdf hn hk (fun j hj => (hpr j (by rw [ed] at hj; exact hj)).2) hQ
      rw [ed] at h
      split at h
      · rename_i hw
        rw [if_pos hw]
        refine Oper.wp_mono ?_ h
        rintro a' w' ⟨v, rfl, rfl, hv⟩
        exact ⟨v, rfl, fun _ => hv, hkeep v⟩
      · rename_i hw
        rw [if_neg hw]
        exact ⟨fun _ => h, hkeep undef⟩
    | true =>
      have hkeep : ∀ v w', Q (upL (fun j => listed.getD j false) i) (upS (slotOf l.toArray a) i v) w' → Q (fun j => (listed.setIfInBounds i true).getD j false) (slotOf l.toArray (a.put o.dst v)) w' := fun v w' hQ' => hloc _ _ _ _ w' (fun j hj => by
        by_cases ej : j = i
        · subst ej
          rw [upL_same, upS_same]
          exact ⟨hset.symm, fun hs => (hself j o a v ho (by rw [ed] at hs; exact hs) hn).symm⟩
        · rw [upL_other ej, upS_other ej]
          have hj2 := List.getElem?_eq_getElem (hlt j hj)
          exact ⟨(hget listed i j (Ne.symm ej)).symm, fun hs => (hslot i o j _ a v ho hj2 (by rw [hgd j _ hj2] at hs; exact hs) ej).symm⟩) hQ'
      have h := hch i hc a w (fun j => listed.getD j false) hdf hn hk (fun j hj => hpr j (by rw [ed] at hj; exact hj)) hun' (fun j hj h2 k h3 => hdown j _ (List.getElem?_eq_getElem hj) h2 k (by rw [hgd j _ (List.getElem?_eq_getElem hj)] at h3; exact h3)) hQ
      rw [ed] at h
      split at h
      · rename_i hw
        rw [if_pos hw]
        refine Oper.wp_mono ?_ h
        rintro a' w' ⟨v, rfl, hv, hQ'⟩
        exact ⟨v, rfl, hv, hkeep v w' hQ'⟩
      · rename_i hw
        rw [if_neg hw]
        exact ⟨h.1, hkeep undef w h.2⟩
  · exact fun i o ho hd v => (hsome i o ho hd).2 v
  · intro listed a w hsz hall hdf hn hk hΦ hJ
    exact hend a w hdf hn hk hΦ (hloc _ _ _ _ w (fun i hi => ⟨hall i (hlt i hi), fun _ => rfl⟩) hJ)
end
end Go.Proofs.YtljhpbjngbbjbaaDoor

/- Package parse: a chain of operands. -/
namespace Go.Proofs.YtljhpbjngbbjbaaDoor
open Go Go.RowKit
theorem ExAt.bnd {w : World} {P : Nat → Prop} : ∀ (h b o : Nat) (t : Ex), ExAt w P h b o t → ExAt w (fun b => P b ∧ b < w.heap.size) h b o t
  | 0, _, _, _, h => h
  | h + 1, b, o, .mk op nm nu bl l i, hx => by
    obtain ⟨a, c, h1, h2, h3, h4⟩ := hx
    refine ⟨a, c, h1, h2, h3, fun h0 => ?_⟩
    obtain ⟨b, off, e, hr, hb, hj⟩ := h4 h0
    exact ⟨b, off, e, ⟨hr, hb⟩, hb, fun j hjn t ht => ExAt.bnd h _ _ t (hj j hjn t ht)⟩
theorem IsEP.bnd {w : World} {P : Nat → Prop} {v : Value} {t : Ex} (h : IsEP w P v t) : IsEP w (fun b => P b ∧ b < w.heap.size) v t := by
  obtain ⟨op, nm, nu, bl, l, i⟩ := t
  obtain ⟨k, a, c, e, h2, h3, h4⟩ := h
  refine ⟨k, a, c, e, h2, h3, fun h0 => ?_⟩
  obtain ⟨b, off, e, hr, hb, hj⟩ := h4 h0
  exact ⟨b, off, e, ⟨hr, hb⟩, hb, fun j hjn t ht => ExAt.bnd k _ _ t (hj j hjn t ht)⟩
end Go.Proofs.YtljhpbjngbbjbaaDoor

/- Package parse: steps of drawn regions; the region in which joined makes its node. -/
namespace Go.Proofs.YtljhpbjngbbjbaaDoor
open Go Go.RowKit
def regionsOf : Code → List (Nat × List Oper)
  | .region id ops _ => [(id, ops.toList)]
  | .seq a b => regionsOf a ++ regionsOf b
  | .cond _ a b => regionsOf a ++ regionsOf b
  | .block _ c => regionsOf c
  | .loop c => regionsOf c
  | _ => []
def regionOf (f : Func) (k : Nat) : List Oper := ((f.body.map regionsOf).getD []).findSome? (fun p => if p.1 == k then some p.2 else none) |>.getD []
theorem wnone {o : Oper} {y : Nat → Option Bool} (h : o.guard = none) : Region.wanted o y = true := by simp [Region.wanted, h]
section
variable {X : Exit → Act → World → Prop} {K : Act → World → Prop} {a : Act} {w : World} {dst : Option Tmp} {ty : TypeId} {pos : String} {af : Array Edge} {gd : Option (Nat × Bool)}
end
end Go.Proofs.YtljhpbjngbbjbaaDoor

/- Package parse: rows of expressions. -/
namespace Go.Proofs.YtljhpbjngbbjbaaDoor
open Go Go.RowKit
def IsLs (w : World) (lo : Nat) (v : Value) (l : List Ex) : Prop := ∃ h a c, v = .slice a l.length c ∧ RowX w (fun b => lo ≤ b) a l.length c fun b o j => ∀ t, l[j]? = some t → ExAt w (fun b => lo ≤ b) h b o t
theorem IsLs.keep {w w' : World} {lo lo' : Nat} {v : Value} {l : List Ex} (h : IsLs w lo v l) (hb : Stays lo w w') (hl : lo' ≤ lo) : IsLs w' lo' v l := by
  obtain ⟨k, a, c, e, h2⟩ := h
  exact ⟨k, a, c, e, h2.mono hb.1 (fun _ hb => Nat.le_trans hl hb) fun b o j hr hbl hj t ht => ExAt.keep hb (fun _ hb => Nat.le_trans hl hb) k b o t hr hbl (hj t ht)⟩
theorem IsLs.node {w : World} {lo : Nat} {v : Value} {l : List Ex} (h : IsLs w lo v l) (op i : Int) (nm nu : ByteArray) (bl : Bool) : IsE w lo (.agg #[.int .i64 op, .string nm, .string nu, .bool bl, v, .int .i64 0, .int .i64 i]) (.mk op nm nu bl l i) := by
  obtain ⟨k, a, c, rfl, h2⟩ := h
  exact ⟨k, a, c, rfl, h2⟩
theorem addr_add (b off j : Nat) : (⟨b, off, none⟩ : Addr).add j = ⟨b, off + j, none⟩ := by simp [Addr.add]
theorem addr0 (b j : Nat) : (⟨b, 0, none⟩ : Addr).add j = ⟨b, j, none⟩ := by rw [addr_add, Nat.zero_add]
theorem ex_app {w : World} {B n : Nat} {v : Value} {xs : List Value} (i0 i6 : Int) (s1 s2 : ByteArray) (b3 : Bool) (a4 : Option Addr) (n4 c4 : Nat) (hown : w.ownsRow B 51 7 v n xs) (hn : n ≤ 100000) (hB : B ≤ w.heap.size) :
    ∃ g cap w', (Builtin.append_ #[47, 47] 47 #[v, .slice (some ⟨w.heap.size, 0, none⟩) 1 1]).run Tryd.prog (w.alloc (.cells #[.int .i64 i0, .string s1, .string s2, .bool b3, .slice a4 n4 c4, .int .i64 0, .int .i64 i6] 51)) = .ok (.slice (some ⟨g, 0, none⟩) (n + 1) cap) w' ∧ w'.ownsRow B 51 7 (.slice (some ⟨g, 0, none⟩) (n + 1) cap) (n + 1) (xs ++ [.int .i64 i0, .string s1, .string s2, .bool b3, .slice a4 n4 c4, .int .i64 0, .int .i64 i6]) ∧ (w.alloc (.cells #[.int .i64 i0, .string s1, .string s2, .bool b3, .slice a4 n4 c4, .int .i64 0, .int .i64 i6] 51)).grownBy w' v.ownBlock ∧ (v.ownBlock = some g ∨ g = w.heap.size + 1) := by
  have hb := (MapKept.heap_alloc w (.cells #[.int .i64 i0, .string s1, .string s2, .bool b3, .slice a4 n4 c4, .int .i64 0, .int .i64 i6] 51)).1
  obtain ⟨g, cap, w', hr, ho, hg, hw, -⟩ := run_append_lies (P := Tryd.prog) (w.alloc (.cells #[.int .i64 i0, .string s1, .string s2, .bool b3, .slice a4 n4 c4, .int .i64 0, .int .i64 i6] 51)) 47 47 B 51 Tryd.t51 (.agg #[.int .i64 0, .string ⟨#[]⟩, .string ⟨#[]⟩, .bool false, .slice none 0 0, .int .i64 0, .int .i64 0]) 7 88 Tryd.underlying47 (by kernel_rfl) (by kernel_rfl) (by kernel_rfl) (by kernel_rfl) rfl (by decide) v n xs (hown.alloc _) ⟨w.heap.size, 0, none⟩ 1 1 [.int .i64 i0, .string s1, .string s2, .bool b3, .slice a4 n4 c4, .int .i64 0, .int .i64 i6] rfl (fun j u hj => by
      have h := (blk hb).2.1 j u (by simpa using hj)
      rw [addr0]
      exact h) (fun u hu => by
      simp at hu
      rcases hu with rfl | rfl | rfl | rfl | rfl | rfl | rfl <;> rfl) (by omega) (by unfold maxLen; omega) (by omega) (by simp; omega) _ rfl
  exact ⟨g, cap, w', hr, ho, hg, by simpa using hw⟩
end Go.Proofs.YtljhpbjngbbjbaaDoor

/- Package parse: calls. -/
namespace Go.Proofs.YtljhpbjngbbjbaaDoor
open Go Go.RowKit
theorem IsLs.form {w : World} {lo : Nat} {v : Value} {l : List Ex} (h : IsLs w lo v l) : ∃ (a : Option Addr) (n c : Nat), v = .slice a n c := by
  obtain ⟨k, a, c, e, -⟩ := h
  exact ⟨_, _, _, e⟩
end Go.Proofs.YtljhpbjngbbjbaaDoor

/- Package parse: a text is read: a refusal is caught. -/
namespace Go.Proofs.YtljhpbjngbbjbaaDoor
open Go Go.RowKit
theorem tkl_len (s : ByteArray) : (tkL s).length ≤ 65537 := by
  rw [tkL_len]
  have : (tk s).1.length ≤ 65536 := by
    unfold tk
    split
    · simp
    · have := lx_len s s.size 0
      omega
  omega
theorem tsok_of (s : ByteArray) : TsOk (tkL s) := by
  refine ⟨by have := tkl_len s; omega, by rw [tkL_len]; omega, fun j x hx hne => ?_⟩
  have hj := (List.getElem?_eq_some_iff.1 hx).1
  rw [tkL_len] at hj ⊢
  rcases Nat.lt_or_ge j (tk s).1.length with h | h
  · omega
  · have e : j = (tk s).1.length := by omega
    subst e
    unfold tkL at hx
    rw [List.getElem?_append_right (by simp)] at hx
    simp at hx
    subst hx
    rcases hne with h | h
    · exact absurd rfl h
    · exact absurd rfl h
end Go.Proofs.YtljhpbjngbbjbaaDoor

/- Package parse: read. -/
namespace Go.Proofs.YtljhpbjngbbjbaaDoor
open Go Go.RowKit
/-- All stands but two blocks. -/
structure Bu (q r : Nat) (w w' : World) : Prop where
  os : w'.os = w.os
  tape : w'.tape = w.tape
  output : w'.output = w.output
  size : w.heap.size ≤ w'.heap.size
  block : ∀ k, k < w.heap.size → k ≠ r → k ≠ q → w'.heap[k]? = w.heap[k]?
end Go.Proofs.YtljhpbjngbbjbaaDoor

/- Package parse: Expr. -/
namespace Go.Proofs.YtljhpbjngbbjbaaDoor
open Go Go.RowKit
theorem Bu.set {q r : Nat} {w w' : World} (h : Bu q r w w') (o : Nat) (v : Value) : Bu q r w (w'.setCell ⟨q, o, none⟩ v) :=
  ⟨h.os, h.tape, h.output, by simpa using h.size, fun k hk h1 h2 => (Below.heap_setCell w' ⟨q, o, none⟩ v k h2).trans (h.block k hk h1 h2)⟩
end Go.Proofs.YtljhpbjngbbjbaaDoor

/- Package parse: types, parameters, declarations as they lie. -/
namespace Go.Proofs.YtljhpbjngbbjbaaDoor
open Go Go.RowKit
/-- Cells are written one behind the other. -/
def setN (W : World) (q : Nat) : Nat → List Value → World
  | _, [] => W
  | o, x :: cs => setN (W.setCell ⟨q, o, none⟩ x) q (o + 1) cs
theorem But.setN {r q : Nat} {w : World} : ∀ (cs : List Value) (A : World) (o : Nat), But r w A → w.heap.size ≤ q → But r w (setN A q o cs)
  | [], _, _, h, _ => h
  | x :: cs, A, o, h, hq => But.setN cs _ (o + 1) (but_new h hq o x) hq
theorem Stays.setN {lo q : Nat} {w : World} : ∀ (cs : List Value) (A : World) (o : Nat), Stays lo w A → q < lo → Stays lo w (setN A q o cs)
  | [], _, _, h, _ => h
  | x :: cs, A, o, h, hq => Stays.setN cs _ (o + 1) (h.set hq o x) hq
theorem Bu.setN {q r : Nat} {w : World} : ∀ (cs : List Value) (A : World) (o : Nat), Bu q r w A → Bu q r w (setN A q o cs)
  | [], _, _, h => h
  | x :: cs, A, o, h => Bu.setN cs _ (o + 1) (h.set o x)
theorem below_setN {B q : Nat} {w : World} : ∀ (cs : List Value) (A : World) (o : Nat), Below B w A → B ≤ q → Below B w (setN A q o cs)
  | [], _, _, h, _ => h
  | x :: cs, A, o, h, hq => below_setN cs _ (o + 1) (below_set h hq o x) hq
theorem heap_setN {q k : Nat} (h : k ≠ q) : ∀ (cs : List Value) (A : World) (o : Nat), (setN A q o cs).heap[k]? = A.heap[k]?
  | [], _, _ => rfl
  | x :: cs, A, o => (heap_setN h cs _ (o + 1)).trans (heap_set o x h)
theorem blk_setN {q : Nat} {ty : TypeId} : ∀ (cs : List Value) (A : World) (o : Nat) (xs : List Value), A.heap[q]? = some (.cells xs.toArray ty) → o + cs.length ≤ xs.length → (setN A q o cs).heap[q]? = some (.cells (xs.take o ++ cs ++ xs.drop (o + cs.length)).toArray ty)
  | [], A, o, xs, h, _ => by
    simp only [List.append_nil, List.length_nil, Nat.add_zero, List.take_append_drop]
    exact h
  | x :: cs, A, o, xs, h, hl => by
    have hl' : o + 1 + cs.length ≤ xs.length := by simpa [Nat.add_assoc, Nat.add_comm 1] using hl
    have h2 := blk_setN (ty := ty) cs (A.setCell ⟨q, o, none⟩ x) (o + 1) (xs.set o x) (by rw [set_block h x]; simp) (by simpa using hl')
    rw [show setN A q o (x :: cs) = setN (A.setCell ⟨q, o, none⟩ x) q (o + 1) cs from rfl, h2]
    have ho : o < xs.length := by omega
    have e1 : (xs.set o x).take (o + 1) = xs.take o ++ [x] := by
      rw [List.take_add_one, List.take_set_of_le (Nat.le_refl _)]
      simp [ho]
    have e2 : (xs.set o x).drop (o + 1 + cs.length) = xs.drop (o + 1 + cs.length) := by
      rw [List.drop_set_of_lt (by omega)]
    rw [e1, e2]
    simp [Nat.add_assoc, Nat.add_comm 1]
theorem blk_all {q : Nat} {ty : TypeId} {A : World} {cs xs : List Value} (h : A.heap[q]? = some (.cells xs.toArray ty)) (hl : cs.length = xs.length) : (setN A q 0 cs).heap[q]? = some (.cells cs.toArray ty) := by
  rw [blk_setN cs A 0 xs h (by omega)]
  simp [hl]
/-- A row of rows of k cells. -/
def IsRow (w : World) (k lo : Nat) (v : Value) (n : Nat) (p : Nat → List Value → Prop) : Prop := ∃ a c, v = .slice a n c ∧ n ≤ c ∧ n ≤ 1000000 ∧ (n ≠ 0 → ∃ b off, a = some ⟨b, off, none⟩ ∧ lo ≤ b ∧ b < w.heap.size ∧ ∀ j, j < n → ∃ cs, w.rangeAt b (off + j * k) cs ∧ p j cs)
theorem IsRow.keep {w w' : World} {k lo lo' n : Nat} {v : Value} {p q : Nat → List Value → Prop} (h : IsRow w k lo v n p) (hb : Stays lo w w') (hl : lo' ≤ lo) (hp : ∀ j cs, p j cs → q j cs) : IsRow w' k lo' v n q := by
  obtain ⟨a, c, e, h1, h2, h3⟩ := h
  refine ⟨a, c, e, h1, h2, fun h0 => ?_⟩
  obtain ⟨b, off, e2, h4, h5, h6⟩ := h3 h0
  refine ⟨b, off, e2, Nat.le_trans hl h4, Nat.lt_of_lt_of_le h5 hb.1, fun j hj => ?_⟩
  obtain ⟨cs, h7, h8⟩ := h6 j hj
  exact ⟨cs, range_same h7 (hb.2 b h4 h5), hp j cs h8⟩
/-- A type's cells. -/
def IsTy (w : World) (lo : Nat) (cs : List Value) (t : Ty) : Prop := ∃ a n c, cs = [.int .i64 t.kind, .string t.name, .slice a n c, .int .i64 t.at'] ∧ IsLs w lo (.slice a n c) t.r
theorem IsTy.keep {w w' : World} {lo lo' : Nat} {cs : List Value} {t : Ty} (h : IsTy w lo cs t) (hb : Stays lo w w') (hl : lo' ≤ lo) : IsTy w' lo' cs t := by
  obtain ⟨a, n, c, e, h⟩ := h
  exact ⟨a, n, c, e, h.keep hb hl⟩
/-- A type as a value. -/
def TyV (w : World) (lo : Nat) (v : Value) (t : Ty) : Prop := ∃ a n c, v = .agg #[.int .i64 t.kind, .string t.name, .slice a n c, .int .i64 t.at'] ∧ IsLs w lo (.slice a n c) t.r
theorem TyV.keep (w w' : World) (lo lo' : Nat) (v : Value) (t : Ty) (h : TyV w lo v t) (hb : Stays lo w w') (hl : lo' ≤ lo) : TyV w' lo' v t := by
  obtain ⟨a, n, c, e, h⟩ := h
  exact ⟨a, n, c, e, h.keep hb hl⟩
/-- A parameter's cells. -/
def IsPm (w : World) (lo : Nat) (cs : List Value) (x : Pm) : Prop := ∃ a n c, cs = [.string x.name, .int .i64 x.t.kind, .string x.t.name, .slice a n c, .int .i64 x.t.at', .int .i64 x.at'] ∧ IsLs w lo (.slice a n c) x.t.r
theorem IsPm.keep {w w' : World} {lo lo' : Nat} {cs : List Value} {t : Pm} (h : IsPm w lo cs t) (hb : Stays lo w w') (hl : lo' ≤ lo) : IsPm w' lo' cs t := by
  obtain ⟨a, n, c, e, h⟩ := h
  exact ⟨a, n, c, e, h.keep hb hl⟩
/-- A row of parameters. -/
def IsPs (w : World) (lo : Nat) (v : Value) (l : List Pm) : Prop := IsRow w 6 lo v l.length fun j cs => ∀ x, l[j]? = some x → IsPm w lo cs x
theorem IsPs.keep {w w' : World} {lo lo' : Nat} {v : Value} {l : List Pm} (h : IsPs w lo v l) (hb : Stays lo w w') (hl : lo' ≤ lo) : IsPs w' lo' v l := IsRow.keep h hb hl fun _ _ h x hx => (h x hx).keep hb hl
/-- A declaration's cells. -/
structure DeV where
  pa : Option Addr
  pn : Nat
  pc : Nat
  ta : Option Addr
  tn : Nat
  tc : Nat
  ra : Option Addr
  rn : Nat
  rc : Nat
  ea : Option Addr
  en : Nat
  ec : Nat
  ma : Option Addr
  mn : Nat
  mc : Nat
  ba : Option Addr
  bn : Nat
  bc : Nat
def deCells (d : De) (x : DeV) : List Value := [.bool d.cell, .string d.name, .string d.num, .bool d.again, .slice x.pa x.pn x.pc, .int .i64 d.eff, .int .i64 d.t.kind, .string d.t.name, .slice x.ta x.tn x.tc, .int .i64 d.t.at', .slice x.ra x.rn x.rc, .string d.res, .slice x.ea x.en x.ec, .slice x.ma x.mn x.mc, .int .i64 d.body.op, .string d.body.name, .string d.body.num, .bool d.body.b, .slice x.ba x.bn x.bc, .int .i64 0, .int .i64 d.body.at', .int .i64 d.at']
structure DeIn (w : World) (lo : Nat) (d : De) (x : DeV) : Prop where
  ps : IsPs w lo (.slice x.pa x.pn x.pc) d.ps
  ty : IsLs w lo (.slice x.ta x.tn x.tc) d.t.r
  req : IsLs w lo (.slice x.ra x.rn x.rc) d.req
  ens : IsLs w lo (.slice x.ea x.en x.ec) d.ens
  mea : IsLs w lo (.slice x.ma x.mn x.mc) d.mea
  body : IsLs w lo (.slice x.ba x.bn x.bc) d.body.l
theorem DeIn.keep {w w' : World} {lo lo' : Nat} {d : De} {x : DeV} (h : DeIn w lo d x) (hb : Stays lo w w') (hl : lo' ≤ lo) : DeIn w' lo' d x := ⟨h.ps.keep hb hl, h.ty.keep hb hl, h.req.keep hb hl, h.ens.keep hb hl, h.mea.keep hb hl, h.body.keep hb hl⟩
def IsDe (w : World) (lo : Nat) (cs : List Value) (d : De) : Prop := ∃ x, cs = deCells d x ∧ DeIn w lo d x
theorem IsDe.keep {w w' : World} {lo lo' : Nat} {cs : List Value} {d : De} (h : IsDe w lo cs d) (hb : Stays lo w w') (hl : lo' ≤ lo) : IsDe w' lo' cs d := by
  obtain ⟨x, e, h⟩ := h
  exact ⟨x, e, h.keep hb hl⟩
def IsDs (w : World) (lo : Nat) (v : Value) (l : List De) : Prop := IsRow w 22 lo v l.length fun j cs => ∀ x, l[j]? = some x → IsDe w lo cs x
theorem IsDs.keep {w w' : World} {lo lo' : Nat} {v : Value} {l : List De} (h : IsDs w lo v l) (hb : Stays lo w w') (hl : lo' ≤ lo) : IsDs w' lo' v l := IsRow.keep h hb hl fun _ _ h x hx => (h x hx).keep hb hl
theorem lsn {w : World} {lo : Nat} : IsLs w lo (.slice none 0 0) [] := ⟨0, none, 0, rfl, Nat.le_refl _, by simp, fun h => absurd rfl h⟩
theorem psn {w : World} {lo : Nat} : IsPs w lo (.slice none 0 0) [] := ⟨none, 0, rfl, Nat.le_refl _, by simp, fun h => absurd rfl h⟩
/-- An expression's row of operands. -/
theorem IsE.ls {w : World} {lo : Nat} {i0 i6 : Int} {s1 s2 : ByteArray} {b3 : Bool} {a4 : Option Addr} {n4 c4 : Nat} {t : Ex} (h : IsE w lo (.agg #[.int .i64 i0, .string s1, .string s2, .bool b3, .slice a4 n4 c4, .int .i64 0, .int .i64 i6]) t) : i0 = t.op ∧ s1 = t.name ∧ s2 = t.num ∧ b3 = t.b ∧ i6 = t.at' ∧ IsLs w lo (.slice a4 n4 c4) t.l := by
  obtain ⟨op, nm, nu, bl, l, i⟩ := t
  obtain ⟨k, a, c, e, h2⟩ := h
  obtain ⟨rfl, rfl, rfl, rfl, ⟨rfl, rfl, rfl⟩, rfl⟩ : i0 = op ∧ s1 = nm ∧ s2 = nu ∧ b3 = bl ∧ (a4 = a ∧ n4 = l.length ∧ c4 = c) ∧ i6 = i := by simpa using e
  exact ⟨rfl, rfl, rfl, rfl, rfl, k, _, _, rfl, h2⟩
/-- A row of one expression. -/
theorem one_ls {w W : World} {lo : Nat} {x0 x1 x2 x3 x4 x5 x6 : Value} {t : Ex} (h : IsE w lo (.agg #[x0, x1, x2, x3, x4, x5, x6]) t) (eW : w.alloc (.cells #[x0, x1, x2, x3, x4, x5, x6] 51) = W) (hlo : lo ≤ w.heap.size) : IsLs W lo (.slice (some ⟨w.heap.size, 0, none⟩) 1 1) [t] :=
  (node (l := [t]) (vs := [[x0, x1, x2, x3, x4, x5, x6]]) 0 0 ⟨#[]⟩ ⟨#[]⟩ false eW rfl (by simp) rfl (by simp) hlo (fun j v t' hv ht => by
    rcases j with _ | j
    · obtain rfl := Option.some.inj hv
      obtain rfl := Option.some.inj ht
      exact h
    · simp at hv)).ls.2.2.2.2.2
end Go.Proofs.YtljhpbjngbbjbaaDoor

/- Package scope: the resolver as it lies; the first error is kept. -/
namespace Go.Proofs.YtljhpbjngbbjbaaDoor
open Go Go.RowKit
def iM (es : List (ByteArray × Int)) : List (ByteArray × Value) := es.map fun p => (p.1, .int .i64 p.2)
theorem look_iM (k : ByteArray) : ∀ es : List (ByteArray × Int), look k (iM es) = (lkI k es).map (Value.int .i64)
  | [] => rfl
  | p :: es => by
    show (if k = p.1 then some (Value.int .i64 p.2) else look k (iM es)) = (if k = p.1 then some p.2 else lkI k es).map _
    by_cases h : k = p.1
    · rw [if_pos h, if_pos h]; rfl
    · rw [if_neg h, if_neg h, look_iM k es]
theorem put_iM (k : ByteArray) (v : Int) : ∀ es : List (ByteArray × Int), put k (.int .i64 v) (iM es) = iM (ptI k v es)
  | [] => rfl
  | p :: es => by
    show (if k = p.1 then (k, Value.int .i64 v) :: iM es else (p.1, Value.int .i64 p.2) :: put k (.int .i64 v) (iM es)) = iM (if k = p.1 then (k, v) :: es else p :: ptI k v es)
    by_cases h : k = p.1
    · rw [if_pos h, if_pos h]; rfl
    · rw [if_neg h, if_neg h, put_iM k v es]; rfl
theorem iM_len (es : List (ByteArray × Int)) : (iM es).length = es.length := by simp [iM]
theorem look_def (k : ByteArray) (es : List (ByteArray × Int)) : (look k (iM es)).getD (.int .i64 0) = .int .i64 ((lkI k es).getD 0) := by
  rw [look_iM]
  cases lkI k es <;> rfl
theorem look_some (k : ByteArray) (es : List (ByteArray × Int)) : (look k (iM es)).isSome = (lkI k es).isSome := by
  rw [look_iM]
  cases lkI k es <;> rfl
/-- The first error, as the resolver holds it. -/
def WrP (H : Nat) (w : World) (pw : Option Addr) : Option (Int × Int) → Prop
  | none => pw = none
  | some e => ∃ p, pw = some ⟨p, 0, none⟩ ∧ H ≤ p ∧ w.heap[p]? = some (.cells #[.int .i64 e.1, .int .i64 e.2] 67)
/-- The resolver's box: its maps, how many binders there are, whether an old may stand, the first error. -/
def rsC (mc md : Nat) (mb : Option Nat) (z : RZ) (pw : Option Addr) : Array Value := #[.map (some mc), .map (some md), .map mb, .int .i64 z.depth, .bool z.ens, .pointer pw]
/-- The resolver between declarations. -/
structure RS0 (H r mc md : Nat) (w : World) (z : RZ) : Prop where
  box : ∃ mb pw, w.heap[r]? = some (.cells (rsC mc md mb z pw) 62) ∧ WrP H w pw z.wr
  nc : NM w mc (iM z.cells)
  nd : NM w md (iM z.defs)
  hr : H ≤ r
  hc : H ≤ mc
  hd : H ≤ md
  ne : mc ≠ md
/-- The resolver within one. -/
structure RSt (H r mc md mb : Nat) (w : World) (z : RZ) : Prop where
  box : ∃ pw, w.heap[r]? = some (.cells (rsC mc md (some mb) z pw) 62) ∧ WrP H w pw z.wr
  nc : NM w mc (iM z.cells)
  nd : NM w md (iM z.defs)
  nb : NM w mb (iM z.bind)
  hr : H ≤ r
  hc : H ≤ mc
  hd : H ≤ md
  hb : H ≤ mb
  ne : mc ≠ md
  n1 : mc ≠ mb
  n2 : md ≠ mb
theorem RSt.zero {H r mc md mb : Nat} {w : World} {z : RZ} (h : RSt H r mc md mb w z) : RS0 H r mc md w z := by
  obtain ⟨pw, h1, h2⟩ := h.box
  exact ⟨⟨_, pw, h1, h2⟩, h.nc, h.nd, h.hr, h.hc, h.hd, h.ne⟩
theorem WrP.same {H : Nat} {w w' : World} {pw : Option Addr} {e : Option (Int × Int)} (h : WrP H w pw e) (hs : ∀ k, H ≤ k → k < w.heap.size → w'.heap[k]? = w.heap[k]?) : WrP H w' pw e := by
  cases e with
  | none => exact h
  | some e =>
    obtain ⟨p, h1, h2, h3⟩ := h
    exact ⟨p, h1, h2, (hs p h2 (blk h3).1).trans h3⟩
/-- Blocks from H on stand, but one. -/
def Up (H r : Nat) (w w' : World) : Prop := ∀ k, H ≤ k → k < w.heap.size → k ≠ r → w'.heap[k]? = w.heap[k]?
theorem RSt.lt {H r mc md mb : Nat} {w : World} {z : RZ} (h : RSt H r mc md mb w z) : r < w.heap.size := by
  obtain ⟨pw, h1, h2⟩ := h.box
  exact (blk h1).1
theorem RSt.size {H r mc md mb : Nat} {w : World} {z : RZ} (h : RSt H r mc md mb w z) : H ≤ w.heap.size := by have := h.lt; have := h.hr; omega
theorem RSt.same {H r mc md mb : Nat} {w w' : World} {z : RZ} (h : RSt H r mc md mb w z) (hs : ∀ k, H ≤ k → k < w.heap.size → w'.heap[k]? = w.heap[k]?) : RSt H r mc md mb w' z := by
  obtain ⟨pw, h1, h2⟩ := h.box
  exact ⟨⟨pw, (hs r h.hr h.lt).trans h1, h2.same hs⟩, h.nc.same (hs _ h.hc h.nc.lt), h.nd.same (hs _ h.hd h.nd.lt), h.nb.same (hs _ h.hb h.nb.lt), h.hr, h.hc, h.hd, h.hb, h.ne, h.n1, h.n2⟩
theorem RSt.below {H r mc md mb : Nat} {w w' : World} {z : RZ} (h : RSt H r mc md mb w z) (hb : Below w.heap.size w w') : RSt H r mc md mb w' z := h.same fun k _ hk => hb.block k hk
theorem RSt.set {H r mc md mb q : Nat} {w : World} {z : RZ} (h : RSt H r mc md mb w z) (hq : q < H) (o : Nat) (v : Value) : RSt H r mc md mb (w.setCell ⟨q, o, none⟩ v) z := h.same fun k hk _ => heap_set o v (by omega)
/-- The box is written. -/
theorem RSt.boxed {H r mc md mb : Nat} {w w' : World} {z z' : RZ} (h : RSt H r mc md mb w z) (hu : Up H r w w') (hc : z'.cells = z.cells) (hd : z'.defs = z.defs) (hb : z'.bind = z.bind) {pw : Option Addr} (hx : w'.heap[r]? = some (.cells (rsC mc md (some mb) z' pw) 62)) (hp : WrP H w' pw z'.wr) : RSt H r mc md mb w' z' := by
  have hn : ∀ (m : Nat) es, NM w m es → m ≠ r := fun m es hm e => by
    obtain ⟨pw', h1, -⟩ := h.box
    obtain ⟨a, c, h3, -⟩ := hm
    rw [e, h1] at h3
    cases h3
  exact ⟨⟨pw, hx, hp⟩, by rw [hc]; exact h.nc.same (hu _ h.hc h.nc.lt (hn _ _ h.nc)), by rw [hd]; exact h.nd.same (hu _ h.hd h.nd.lt (hn _ _ h.nd)), by rw [hb]; exact h.nb.same (hu _ h.hb h.nb.lt (hn _ _ h.nb)), h.hr, h.hc, h.hd, h.hb, h.ne, h.n1, h.n2⟩
theorem WrP.up {H r : Nat} {w w' : World} {pw : Option Addr} {e : Option (Int × Int)} (h : WrP H w pw e) (hu : Up H r w w') (hr : ∀ cs, w.heap[r]? ≠ some (.cells cs 67)) : WrP H w' pw e := by
  cases e with
  | none => exact h
  | some e =>
    obtain ⟨p, h1, h2, h3⟩ := h
    exact ⟨p, h1, h2, (hu p h2 (blk h3).1 (fun e => hr _ (e ▸ h3))).trans h3⟩
theorem RSt.cells {H r mc md mb : Nat} {w : World} {z : RZ} (h : RSt H r mc md mb w z) : ∃ pw, w.cell? ⟨r, 0, none⟩ = some (.map (some mc)) ∧ w.cell? ⟨r, 1, none⟩ = some (.map (some md)) ∧ w.cell? ⟨r, 2, none⟩ = some (.map (some mb)) ∧ w.cell? ⟨r, 3, none⟩ = some (.int .i64 z.depth) ∧ w.cell? ⟨r, 4, none⟩ = some (.bool z.ens) ∧ w.cell? ⟨r, 5, none⟩ = some (.pointer pw) ∧ (∀ o, w.frozen? ⟨r, o, none⟩ = false) ∧ WrP H w pw z.wr := by
  obtain ⟨pw, h1, h2⟩ := h.box
  exact ⟨pw, (blk h1).2.1 0 _ rfl, (blk h1).2.1 1 _ rfl, (blk h1).2.1 2 _ rfl, (blk h1).2.1 3 _ rfl, (blk h1).2.1 4 _ rfl, (blk h1).2.1 5 _ rfl, (blk h1).2.2, h2⟩
def RefP (H r mc md mb : Nat) (z : RZ) (w : World) (e : Ending) (w' : World) : Prop := e = .returned (.tuple #[]) ∧ RSt H r mc md mb w' z ∧ Below H w w'
set_option maxRecDepth 100000 in
set_option maxHeartbeats 8000000 in
theorem refus_any {H r mc md mb : Nat} {w : World} {z : RZ} (h : RSt H r mc md mb w z) (a n : Int) : Calls Tryd.prog 40 #[.pointer (some ⟨r, 0, none⟩), .int .i64 a, .int .i64 n] w (RefP H r mc md mb (z.ref a n) w) := by
  obtain ⟨pw, x0, x1, x2, x3, x4, x5, hf, hw⟩ := h.cells
  have f5 := hf 5
  have HR := hide h
  have HW := hide hw
  unfold RefP RZ.ref
  cases hz : z.wr with
  | none =>
    rw [hz] at hw
    obtain rfl : pw = none := hw
    obtain ⟨A, eA, hbA, hsA, hhA⟩ := box_new w #[.int .i64 a, .int .i64 n] 67
    have y5 : ∀ o, (w.alloc o).cell? ⟨r, 5, none⟩ = some (.pointer none) := fun o => (((Below.refl w.heap.size w).alloc (Nat.le_refl _) o).cell (p := ⟨r, 5, none⟩) h.lt).trans x5
    have g5 : ∀ o, (w.alloc o).frozen? ⟨r, 5, none⟩ = false := fun o => (((Below.refl w.heap.size w).alloc (Nat.le_refl _) o).frozen (p := ⟨r, 5, none⟩) h.lt).trans f5
    have HA := hide (And.intro hbA (And.intro hsA hhA))
    have HZ := hide hz
    have HE := hide eA
    clear h hf hbA hsA hhA hz x0 x1 x2 x3 x4 eA
    go_enter Tryd.func40, Tryd.ntmps40
    go_wp2
    refine bodyPost_end (results_none rfl _ _ _) rfl ?_
    have h := unhide HR
    obtain ⟨hbA, hsA, hhA⟩ := unhide HA
    rw [unhide HE]
    have hlt := h.lt
    have hHw := h.size
    obtain ⟨pw', hb1, hb2⟩ := h.box
    have hbx : A.heap[r]? = some (.cells (rsC mc md (some mb) z pw') 62) := (hbA.block r hlt).trans hb1
    refine ⟨rfl, h.boxed (fun k hk hs hn => (heap_set 5 _ hn).trans (hbA.block k hs)) rfl rfl rfl (set_block hbx _) ⟨w.heap.size, rfl, hHw, ?_⟩, below_set (hbA.mono hHw) h.hr _ _⟩
    exact (heap_set 5 _ (by omega)).trans hhA
  | some e =>
    rw [hz] at hw
    obtain ⟨p, rfl, hp, hq⟩ := hw
    clear h hf x0 x1 x2 x3 x4 hz hp hq
    go_enter Tryd.func40, Tryd.ntmps40
    go_wp2
    refine bodyPost_end (results_none rfl _ _ _) rfl ?_
    exact ⟨rfl, unhide HR, Below.refl _ _⟩
end Go.Proofs.YtljhpbjngbbjbaaDoor

namespace Go.Proofs.YtljhpbjngbbjbaaDoor
theorem lkI_ptI (k j : ByteArray) (v : Int) : ∀ es : List (ByteArray × Int), lkI j (ptI k v es) = if j = k then some v else lkI j es
  | [] => by simp [ptI, lkI]
  | p :: es => by
    unfold ptI
    by_cases hk : k = p.1
    · rw [if_pos hk]
      simp only [lkI]
      by_cases hj : j = k
      · simp [hj]
      · rw [if_neg hj, if_neg hj, if_neg (by rw [← hk]; exact hj)]
    · rw [if_neg hk]
      simp only [lkI, lkI_ptI k j v es]
      by_cases hj : j = k
      · subst hj
        simp [hk]
      · simp [hj]
/-- So many more binders may come. -/
structure Fi (k : Nat) (z : RZ) : Prop where
  d0 : 0 ≤ z.depth
  d1 : z.depth + k ≤ 1000000000
  b : ∀ s, 0 ≤ z.bnd s ∧ z.bnd s ≤ 1000000000
theorem Fi.ref {k : Nat} {z : RZ} (h : Fi k z) (a n : Int) : Fi k (z.ref a n) ∧ (z.ref a n).depth = z.depth := by
  unfold RZ.ref
  cases hw : z.wr with
  | none => exact ⟨⟨h.d0, h.d1, h.b⟩, rfl⟩
  | some e => exact ⟨h, rfl⟩
theorem Fi.down {k j : Nat} {z : RZ} (h : Fi k z) (hj : j ≤ k) : Fi j z := ⟨h.d0, by have := h.d1; omega, h.b⟩
theorem Fi.setB {k j : Nat} {z : RZ} (h : Fi k z) (s : ByteArray) {d v : Int} (h0 : 0 ≤ d) (h1 : d + j ≤ 1000000000) (h2 : 0 ≤ v) (h3 : v ≤ 1000000000) : Fi j (z.setB d s v) := by
  refine ⟨h0, h1, fun x => ?_⟩
  have e : (z.setB d s v).bnd x = (if x = s then some v else lkI x z.bind).getD 0 := by
    show (lkI x (ptI s v z.bind)).getD 0 = _
    rw [lkI_ptI]
  rw [e]
  by_cases hx : x = s
  · rw [if_pos hx]; exact ⟨h2, h3⟩
  · rw [if_neg hx]; exact h.b x
theorem Fi.same {k : Nat} {z y : RZ} (h : Fi k z) (hd : y.depth = z.depth) (hb : y.bind = z.bind) : Fi k y := ⟨by rw [hd]; exact h.d0, by rw [hd]; exact h.d1, fun s => by unfold RZ.bnd; rw [hb]; exact h.b s⟩
def Kp (k : Nat) {α : Type} (f : RZ → α → α × RZ) : Prop := ∀ z t, Fi k z → Fi k (f z t).2 ∧ (f z t).2.depth = z.depth
theorem thr_kp {k : Nat} {α : Type} {f : RZ → α → α × RZ} (hf : Kp k f) : ∀ (l : List α) (z : RZ), Fi k z → Fi k (thr f z l).2 ∧ (thr f z l).2.depth = z.depth
  | [], z, h => ⟨h, rfl⟩
  | t :: l, z, h => by
    have h1 := hf z t h
    have h2 := thr_kp hf l (f z t).2 h1.1
    exact ⟨h2.1, h2.2.trans h1.2⟩
theorem und_kp {k : Nat} {f : RZ → List Er → List Er × RZ} (hf : ∀ z l, Fi k z → Fi k (f z l).2 ∧ (f z l).2.depth = z.depth) (s : ByteArray) (z : RZ) (l : List Er) (h : Fi (k + 1) z) : Fi (k + 1) (undS f s z l).2 ∧ (undS f s z l).2.depth = z.depth := by
  have hd := h.d0
  have hd1 := h.d1
  have h1 : Fi k (z.setB (z.depth + 1) s (z.depth + 1)) := h.setB s (by omega) (by push_cast at hd1; omega) (by omega) (by push_cast at hd1; omega)
  have h2 := hf _ l h1
  have hb := h.b s
  have e : (undS f s z l).2 = (f (z.setB (z.depth + 1) s (z.depth + 1)) l).2.setB ((f (z.setB (z.depth + 1) s (z.depth + 1)) l).2.depth - 1) s (z.bnd s) := rfl
  have e3 : (z.setB (z.depth + 1) s (z.depth + 1)).depth = z.depth + 1 := rfl
  have e2 : (f (z.setB (z.depth + 1) s (z.depth + 1)) l).2.depth = z.depth + 1 := h2.2.trans e3
  rw [e, e2]
  have e4 : ∀ y : RZ, (y.setB (z.depth + 1 - 1) s (z.bnd s)).depth = z.depth := fun y => by show z.depth + 1 - 1 = z.depth; omega
  exact ⟨h2.1.setB s (by omega) (by omega) hb.1 hb.2, e4 _⟩
theorem num_kp {k : Nat} (m : List (ByteArray × Int)) (z : RZ) (t : Er) (h : Fi k z) : Fi k (numS m z t).2 ∧ (numS m z t).2.depth = z.depth := by
  unfold numS
  cases lkI t.name m with
  | some v => exact ⟨h, rfl⟩
  | none => exact h.ref _ _
theorem rx_kp : ∀ k : Nat, Kp k (rxE k)
  | 0 => fun z t h => ⟨h, rfl⟩
  | k + 1 => fun z t h => by
    have hk := rx_kp k
    have hops : ∀ z t, Fi (k + 1) z → Fi (k + 1) (opsS (rxE k) z t).2 ∧ (opsS (rxE k) z t).2.depth = z.depth := fun z t h => by
      have h2 := thr_kp hk t.l z (h.down (by omega))
      have e : (opsS (rxE k) z t).2 = (thr (rxE k) z t.l).2 := rfl
      rw [e]
      exact ⟨⟨h2.1.d0, by rw [h2.2]; exact h.d1, h2.1.b⟩, h2.2⟩
    unfold rxE
    split
    · unfold varS
      split
      · exact h.ref _ _
      · exact ⟨h, rfl⟩
    split
    · exact num_kp _ _ _ h
    split
    · have h1 : Fi (k + 1) (if z.ens then z else z.ref t.at' 172) ∧ (if z.ens then z else z.ref t.at' 172).depth = z.depth := by
        split
        · exact ⟨h, rfl⟩
        · exact h.ref _ _
      have h2 := num_kp z.cells _ t h1.1
      exact ⟨h2.1, h2.2.trans h1.2⟩
    split
    · have h1 := num_kp z.cells z t h
      have h2 := hops (numS z.cells z t).2 (numS z.cells z t).1 h1.1
      exact ⟨h2.1, h2.2.trans h1.2⟩
    split
    · have h1 := num_kp z.defs z t h
      have h2 := hops (numS z.defs z t).2 (numS z.defs z t).1 h1.1
      exact ⟨h2.1, h2.2.trans h1.2⟩
    split
    · have h1 := thr_kp hk (t.l.take 1) z (h.down (by omega))
      have h1' : Fi (k + 1) (thr (rxE k) z (t.l.take 1)).2 := ⟨h1.1.d0, by rw [h1.2]; exact h.d1, h1.1.b⟩
      have h2 := und_kp (fun z l => thr_kp hk l z) t.name (thr (rxE k) z (t.l.take 1)).2 (t.l.drop 1) h1'
      have e : (binS (rxE k) z t).2 = (undS (thr (rxE k)) t.name (thr (rxE k) z (t.l.take 1)).2 (t.l.drop 1)).2 := rfl
      rw [e]
      exact ⟨h2.1, h2.2.trans h1.2⟩
    · exact hops z t h
end Go.Proofs.YtljhpbjngbbjbaaDoor
