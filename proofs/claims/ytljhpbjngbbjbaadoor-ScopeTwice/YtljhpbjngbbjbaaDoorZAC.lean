/- Package scope: lists of expressions; with one binder more. -/
import Derived.Test.YtljhpbjngbbjbaaDoorZAB
import Derived.Test.YtljhpbjngbbjbaaDoorZAA
import Derived.Deep.AppendLies
import Derived.Defers
import Derived.Recover
set_option linter.unusedVariables false
set_option linter.unusedSimpArgs false

/- Package parse: a rule that is one deeper. -/
namespace Go.Proofs.YtljhpbjngbbjbaaDoor
open Go Go.RowKit
theorem IsEP.form {w : World} {P : Nat → Prop} {v : Value} {t : Ex} (h : IsEP w P v t) : ∃ (i0 i6 : Int) (s1 s2 : ByteArray) (b3 : Bool) (a4 : Option Addr) (n4 c4 : Nat), v = .agg #[.int .i64 i0, .string s1, .string s2, .bool b3, .slice a4 n4 c4, .int .i64 0, .int .i64 i6] := by
  obtain ⟨op, nm, nu, bl, l, i⟩ := t
  obtain ⟨k, a, c, e, -⟩ := h
  exact ⟨_, _, _, _, _, _, _, _, e⟩
theorem IsE.form {w : World} {lo : Nat} {v : Value} {t : Ex} (h : IsE w lo v t) : ∃ (i0 i6 : Int) (s1 s2 : ByteArray) (b3 : Bool) (a4 : Option Addr) (n4 c4 : Nat), v = .agg #[.int .i64 i0, .string s1, .string s2, .bool b3, .slice a4 n4 c4, .int .i64 0, .int .i64 i6] := IsEP.form h
end Go.Proofs.YtljhpbjngbbjbaaDoor

/- Package parse: expr, unaryBehind. -/
namespace Go.Proofs.YtljhpbjngbbjbaaDoor
open Go Go.RowKit
def set7 (W : World) (q : Nat) (x0 x1 x2 x3 x4 x5 x6 : Value) : World := (((((((W.setCell ⟨q, 0, none⟩ x0).setCell ⟨q, 1, none⟩ x1).setCell ⟨q, 2, none⟩ x2).setCell ⟨q, 3, none⟩ x3).setCell ⟨q, 4, none⟩ x4).setCell ⟨q, 5, none⟩ x5).setCell ⟨q, 6, none⟩ x6)
/-- A box that is not yet filled. -/
def ZB (w : World) (q : Nat) : Prop := w.heap[q]? = some (.cells #[.int .i64 0, .string ⟨#[]⟩, .string ⟨#[]⟩, .bool false, .slice none 0 0, .int .i64 0, .int .i64 0] 51)
theorem ZB.but {w w' : World} {q r : Nat} (h : ZB w q) (hb : But r w w') (hr : r ≠ q) : ZB w' q := (hb.block q (blk h).1 (Ne.symm hr)).trans h
theorem zb_new (w : World) : ∃ A, w.alloc (.cells #[.int .i64 0, .string ⟨#[]⟩, .string ⟨#[]⟩, .bool false, .slice none 0 0, .int .i64 0, .int .i64 0] 51) = A ∧ Below w.heap.size w A ∧ ZB A w.heap.size ∧ A.heap.size = w.heap.size + 1 := by
  obtain ⟨A, eA, hbA, hsA, hhA⟩ := box_new w #[.int .i64 0, .string ⟨#[]⟩, .string ⟨#[]⟩, .bool false, .slice none 0 0, .int .i64 0, .int .i64 0] 51
  exact ⟨A, eA, hbA, hhA, hsA⟩
end Go.Proofs.YtljhpbjngbbjbaaDoor

/- Package parse: a node of expressions that lie. -/
namespace Go.Proofs.YtljhpbjngbbjbaaDoor
open Go Go.RowKit
theorem IsEP.at {w W' : World} {P : Nat → Prop} {b o : Nat} {cs : List Value} {t : Ex} (h : IsEP w P (.agg cs.toArray) t) (hs : StaysP P w W') (hr : W'.rangeAt b o cs) : ∃ k, ExAt W' P k b o t := by
  obtain ⟨op, nm, nu, bl, l, i⟩ := t
  obtain ⟨k, a, c, e, h2⟩ := h
  have e2 : cs = [.int .i64 op, .string nm, .string nu, .bool bl, .slice a l.length c, .int .i64 0, .int .i64 i] := by simpa using e
  subst e2
  exact ⟨k + 1, a, c, hr, h2.mono hs.1 (fun _ h => h) fun b o j hr hbl hj t ht => ExAt.keep hs (fun _ h => h) k b o t hr hbl (hj t ht)⟩
theorem all_high {W : World} {P : Nat → Prop} {b : Nat} : ∀ (l : List Ex) (o : Nat), (∀ (j : Nat) t, l[j]? = some t → ∃ k, ExAt W P k b (o + j * 7) t) → ∃ k, ∀ (j : Nat) t, l[j]? = some t → ExAt W P k b (o + j * 7) t
  | [], _, _ => ⟨0, fun j t h => by simp at h⟩
  | x :: l, o, h => by
    obtain ⟨k1, h1⟩ := h 0 x rfl
    obtain ⟨k2, h2⟩ := all_high l (o + 7) fun j t ht => by
      obtain ⟨k, hk⟩ := h (j + 1) t (by simpa using ht)
      exact ⟨k, by rw [show o + 7 + j * 7 = o + (j + 1) * 7 by omega]; exact hk⟩
    refine ⟨max k1 k2, fun j t ht => ?_⟩
    cases j with
    | zero =>
      obtain rfl : x = t := by simpa using ht
      exact ExAt.up _ _ _ _ _ h1 (Nat.le_max_left _ _)
    | succ j =>
      have := h2 j t (by simpa using ht)
      rw [show o + 7 + j * 7 = o + (j + 1) * 7 by omega] at this
      exact ExAt.up _ _ _ _ _ this (Nat.le_max_right _ _)
theorem flat_at : ∀ (vs : List (List Value)) (j : Nat) (v : List Value), (∀ v ∈ vs, v.length = 7) → vs[j]? = some v → ∀ (k : Nat) u, v[k]? = some u → vs.flatten[j * 7 + k]? = some u
  | [], j, v, _, h => by simp at h
  | x :: vs, 0, v, hl, h => fun k u hu => by
    obtain rfl : x = v := by simpa using h
    rw [List.flatten_cons, Nat.zero_mul, Nat.zero_add, List.getElem?_append_left (List.getElem?_eq_some_iff.1 hu).1]
    exact hu
  | x :: vs, j + 1, v, hl, h => fun k u hu => by
    have h7 : x.length = 7 := hl x (by simp)
    have := flat_at vs j v (fun v hv => hl v (by simp [hv])) (by simpa using h) k u hu
    rw [List.flatten_cons, List.getElem?_append_right (by omega), h7, show (j + 1) * 7 + k - 7 = j * 7 + k by omega]
    exact this
/-- A row of operands that was laid anew. -/
theorem nodeP {w W : World} {P : Nat → Prop} {vs : List (List Value)} {l : List Ex} {cs : Array Value} {ty : TypeId} (op i : Int) (nm nu : ByteArray) (bl : Bool) (hW : w.alloc (.cells cs ty) = W) (hcs : cs = vs.flatten.toArray) (h7 : ∀ v ∈ vs, v.length = 7) (hlen : vs.length = l.length) (hn : l.length ≤ 1000000) (hlo : P w.heap.size) (h : ∀ (j : Nat) v t, vs[j]? = some v → l[j]? = some t → IsEP w P (.agg v.toArray) t) : IsEP W P (.agg #[.int .i64 op, .string nm, .string nu, .bool bl, .slice (some ⟨w.heap.size, 0, none⟩) l.length l.length, .int .i64 0, .int .i64 i]) (.mk op nm nu bl l i) := by
  have hh : W.heap[w.heap.size]? = some (.cells cs ty) := by rw [← hW]; exact (MapKept.heap_alloc w (.cells cs ty)).1
  have hB : Below w.heap.size w W := by rw [← hW]; exact (Below.refl _ w).alloc (Nat.le_refl _) _
  obtain ⟨k, hk⟩ := all_high (W := W) (P := P) (b := w.heap.size) l 0 fun j t ht => by
    obtain ⟨v, hv⟩ : ∃ v, vs[j]? = some v := ⟨_, List.getElem?_eq_getElem (by rw [hlen]; exact (List.getElem?_eq_some_iff.1 ht).1)⟩
    refine (h j v t hv ht).at (⟨hB.size, fun k _ hk => hB.block k hk⟩ : StaysP P w W) fun m u hu => ?_
    rw [Nat.zero_add]
    exact (blk hh).2.1 _ _ (by rw [hcs]; simpa using flat_at vs j v h7 hv m u hu)
  exact ⟨k, _, _, rfl, Nat.le_refl _, by omega, fun _ => ⟨w.heap.size, 0, rfl, hlo, (blk hh).1, fun j _ t ht => hk j t ht⟩⟩
theorem node {w W : World} {lo : Nat} {vs : List (List Value)} {l : List Ex} {cs : Array Value} {ty : TypeId} (op i : Int) (nm nu : ByteArray) (bl : Bool) (hW : w.alloc (.cells cs ty) = W) (hcs : cs = vs.flatten.toArray) (h7 : ∀ v ∈ vs, v.length = 7) (hlen : vs.length = l.length) (hn : l.length ≤ 1000000) (hlo : lo ≤ w.heap.size) (h : ∀ (j : Nat) v t, vs[j]? = some v → l[j]? = some t → IsE w lo (.agg v.toArray) t) : IsE W lo (.agg #[.int .i64 op, .string nm, .string nu, .bool bl, .slice (some ⟨w.heap.size, 0, none⟩) l.length l.length, .int .i64 0, .int .i64 i]) (.mk op nm nu bl l i) := nodeP op i nm nu bl hW hcs h7 hlen hn hlo h
theorem leaf {W : World} {lo : Nat} (op i : Int) (nm nu : ByteArray) (bl : Bool) : IsE W lo (.agg #[.int .i64 op, .string nm, .string nu, .bool bl, .slice none 0 0, .int .i64 0, .int .i64 i]) (.mk op nm nu bl [] i) := ⟨0, none, 0, rfl, Nat.le_refl _, by simp, fun h => absurd rfl h⟩
end Go.Proofs.YtljhpbjngbbjbaaDoor

/- Package parse: a chain of operands. -/
namespace Go.Proofs.YtljhpbjngbbjbaaDoor
open Go Go.RowKit
theorem ExAt.bnd {w : World} {P : Nat → Prop} : ∀ (h b o : Nat) (t : Ex), ExAt w P h b o t → ExAt w (fun b => P b ∧ b < w.heap.size) h b o t
  | 0, _, _, _, h => h
  | h + 1, b, o, .mk op nm nu bl l i, hx => by
    obtain ⟨a, c, h1, h2, h3, h4⟩ := hx
    refine ⟨a, c, h1, h2, h3, fun h0 => ?_⟩
    obtain ⟨b, off, e, hr, hb, hj⟩ := h4 h0
    exact ⟨b, off, e, ⟨hr, hb⟩, hb, fun j hjn t ht => ExAt.bnd h _ _ t (hj j hjn t ht)⟩
theorem IsEP.bnd {w : World} {P : Nat → Prop} {v : Value} {t : Ex} (h : IsEP w P v t) : IsEP w (fun b => P b ∧ b < w.heap.size) v t := by
  obtain ⟨op, nm, nu, bl, l, i⟩ := t
  obtain ⟨k, a, c, e, h2, h3, h4⟩ := h
  refine ⟨k, a, c, e, h2, h3, fun h0 => ?_⟩
  obtain ⟨b, off, e, hr, hb, hj⟩ := h4 h0
  exact ⟨b, off, e, ⟨hr, hb⟩, hb, fun j hjn t ht => ExAt.bnd k _ _ t (hj j hjn t ht)⟩
end Go.Proofs.YtljhpbjngbbjbaaDoor

/- Package parse: rows of expressions. -/
namespace Go.Proofs.YtljhpbjngbbjbaaDoor
open Go Go.RowKit
def IsLs (w : World) (lo : Nat) (v : Value) (l : List Ex) : Prop := ∃ h a c, v = .slice a l.length c ∧ RowX w (fun b => lo ≤ b) a l.length c fun b o j => ∀ t, l[j]? = some t → ExAt w (fun b => lo ≤ b) h b o t
theorem IsLs.keep {w w' : World} {lo lo' : Nat} {v : Value} {l : List Ex} (h : IsLs w lo v l) (hb : Stays lo w w') (hl : lo' ≤ lo) : IsLs w' lo' v l := by
  obtain ⟨k, a, c, e, h2⟩ := h
  exact ⟨k, a, c, e, h2.mono hb.1 (fun _ hb => Nat.le_trans hl hb) fun b o j hr hbl hj t ht => ExAt.keep hb (fun _ hb => Nat.le_trans hl hb) k b o t hr hbl (hj t ht)⟩
theorem IsLs.node {w : World} {lo : Nat} {v : Value} {l : List Ex} (h : IsLs w lo v l) (op i : Int) (nm nu : ByteArray) (bl : Bool) : IsE w lo (.agg #[.int .i64 op, .string nm, .string nu, .bool bl, v, .int .i64 0, .int .i64 i]) (.mk op nm nu bl l i) := by
  obtain ⟨k, a, c, rfl, h2⟩ := h
  exact ⟨k, a, c, rfl, h2⟩
theorem addr_add (b off j : Nat) : (⟨b, off, none⟩ : Addr).add j = ⟨b, off + j, none⟩ := by simp [Addr.add]
theorem addr0 (b j : Nat) : (⟨b, 0, none⟩ : Addr).add j = ⟨b, j, none⟩ := by rw [addr_add, Nat.zero_add]
theorem ex_app {w : World} {B n : Nat} {v : Value} {xs : List Value} (i0 i6 : Int) (s1 s2 : ByteArray) (b3 : Bool) (a4 : Option Addr) (n4 c4 : Nat) (hown : w.ownsRow B 51 7 v n xs) (hn : n ≤ 100000) (hB : B ≤ w.heap.size) :
    ∃ g cap w', (Builtin.append_ #[47, 47] 47 #[v, .slice (some ⟨w.heap.size, 0, none⟩) 1 1]).run Tryd.prog (w.alloc (.cells #[.int .i64 i0, .string s1, .string s2, .bool b3, .slice a4 n4 c4, .int .i64 0, .int .i64 i6] 51)) = .ok (.slice (some ⟨g, 0, none⟩) (n + 1) cap) w' ∧ w'.ownsRow B 51 7 (.slice (some ⟨g, 0, none⟩) (n + 1) cap) (n + 1) (xs ++ [.int .i64 i0, .string s1, .string s2, .bool b3, .slice a4 n4 c4, .int .i64 0, .int .i64 i6]) ∧ (w.alloc (.cells #[.int .i64 i0, .string s1, .string s2, .bool b3, .slice a4 n4 c4, .int .i64 0, .int .i64 i6] 51)).grownBy w' v.ownBlock ∧ (v.ownBlock = some g ∨ g = w.heap.size + 1) := by
  have hb := (MapKept.heap_alloc w (.cells #[.int .i64 i0, .string s1, .string s2, .bool b3, .slice a4 n4 c4, .int .i64 0, .int .i64 i6] 51)).1
  obtain ⟨g, cap, w', hr, ho, hg, hw, -⟩ := run_append_lies (P := Tryd.prog) (w.alloc (.cells #[.int .i64 i0, .string s1, .string s2, .bool b3, .slice a4 n4 c4, .int .i64 0, .int .i64 i6] 51)) 47 47 B 51 Tryd.t51 (.agg #[.int .i64 0, .string ⟨#[]⟩, .string ⟨#[]⟩, .bool false, .slice none 0 0, .int .i64 0, .int .i64 0]) 7 88 Tryd.underlying47 (by kernel_rfl) (by kernel_rfl) (by kernel_rfl) (by kernel_rfl) rfl (by decide) v n xs (hown.alloc _) ⟨w.heap.size, 0, none⟩ 1 1 [.int .i64 i0, .string s1, .string s2, .bool b3, .slice a4 n4 c4, .int .i64 0, .int .i64 i6] rfl (fun j u hj => by
      have h := (blk hb).2.1 j u (by simpa using hj)
      rw [addr0]
      exact h) (fun u hu => by
      simp at hu
      rcases hu with rfl | rfl | rfl | rfl | rfl | rfl | rfl <;> rfl) (by omega) (by unfold maxLen; omega) (by omega) (by simp; omega) _ rfl
  exact ⟨g, cap, w', hr, ho, hg, by simpa using hw⟩
end Go.Proofs.YtljhpbjngbbjbaaDoor

/- Package parse: calls. -/
namespace Go.Proofs.YtljhpbjngbbjbaaDoor
open Go Go.RowKit
theorem IsLs.form {w : World} {lo : Nat} {v : Value} {l : List Ex} (h : IsLs w lo v l) : ∃ (a : Option Addr) (n c : Nat), v = .slice a n c := by
  obtain ⟨k, a, c, e, -⟩ := h
  exact ⟨_, _, _, e⟩
end Go.Proofs.YtljhpbjngbbjbaaDoor

/- Package parse: a text is read: a refusal is caught. -/
namespace Go.Proofs.YtljhpbjngbbjbaaDoor
open Go Go.RowKit
theorem tkl_len (s : ByteArray) : (tkL s).length ≤ 65537 := by
  rw [tkL_len]
  have : (tk s).1.length ≤ 65536 := by
    unfold tk
    split
    · simp
    · have := lx_len s s.size 0
      omega
  omega
theorem tsok_of (s : ByteArray) : TsOk (tkL s) := by
  refine ⟨by have := tkl_len s; omega, by rw [tkL_len]; omega, fun j x hx hne => ?_⟩
  have hj := (List.getElem?_eq_some_iff.1 hx).1
  rw [tkL_len] at hj ⊢
  rcases Nat.lt_or_ge j (tk s).1.length with h | h
  · omega
  · have e : j = (tk s).1.length := by omega
    subst e
    unfold tkL at hx
    rw [List.getElem?_append_right (by simp)] at hx
    simp at hx
    subst hx
    rcases hne with h | h
    · exact absurd rfl h
    · exact absurd rfl h
end Go.Proofs.YtljhpbjngbbjbaaDoor

/- Package parse: read. -/
namespace Go.Proofs.YtljhpbjngbbjbaaDoor
open Go Go.RowKit
/-- All stands but two blocks. -/
structure Bu (q r : Nat) (w w' : World) : Prop where
  os : w'.os = w.os
  tape : w'.tape = w.tape
  output : w'.output = w.output
  size : w.heap.size ≤ w'.heap.size
  block : ∀ k, k < w.heap.size → k ≠ r → k ≠ q → w'.heap[k]? = w.heap[k]?
end Go.Proofs.YtljhpbjngbbjbaaDoor

/- Package parse: Expr. -/
namespace Go.Proofs.YtljhpbjngbbjbaaDoor
open Go Go.RowKit
theorem Bu.set {q r : Nat} {w w' : World} (h : Bu q r w w') (o : Nat) (v : Value) : Bu q r w (w'.setCell ⟨q, o, none⟩ v) :=
  ⟨h.os, h.tape, h.output, by simpa using h.size, fun k hk h1 h2 => (Below.heap_setCell w' ⟨q, o, none⟩ v k h2).trans (h.block k hk h1 h2)⟩
end Go.Proofs.YtljhpbjngbbjbaaDoor

/- Package parse: types, parameters, declarations as they lie. -/
namespace Go.Proofs.YtljhpbjngbbjbaaDoor
open Go Go.RowKit
/-- Cells are written one behind the other. -/
def setN (W : World) (q : Nat) : Nat → List Value → World
  | _, [] => W
  | o, x :: cs => setN (W.setCell ⟨q, o, none⟩ x) q (o + 1) cs
theorem But.setN {r q : Nat} {w : World} : ∀ (cs : List Value) (A : World) (o : Nat), But r w A → w.heap.size ≤ q → But r w (setN A q o cs)
  | [], _, _, h, _ => h
  | x :: cs, A, o, h, hq => But.setN cs _ (o + 1) (but_new h hq o x) hq
theorem Stays.setN {lo q : Nat} {w : World} : ∀ (cs : List Value) (A : World) (o : Nat), Stays lo w A → q < lo → Stays lo w (setN A q o cs)
  | [], _, _, h, _ => h
  | x :: cs, A, o, h, hq => Stays.setN cs _ (o + 1) (h.set hq o x) hq
theorem Bu.setN {q r : Nat} {w : World} : ∀ (cs : List Value) (A : World) (o : Nat), Bu q r w A → Bu q r w (setN A q o cs)
  | [], _, _, h => h
  | x :: cs, A, o, h => Bu.setN cs _ (o + 1) (h.set o x)
theorem heap_setN {q k : Nat} (h : k ≠ q) : ∀ (cs : List Value) (A : World) (o : Nat), (setN A q o cs).heap[k]? = A.heap[k]?
  | [], _, _ => rfl
  | x :: cs, A, o => (heap_setN h cs _ (o + 1)).trans (heap_set o x h)
theorem blk_setN {q : Nat} {ty : TypeId} : ∀ (cs : List Value) (A : World) (o : Nat) (xs : List Value), A.heap[q]? = some (.cells xs.toArray ty) → o + cs.length ≤ xs.length → (setN A q o cs).heap[q]? = some (.cells (xs.take o ++ cs ++ xs.drop (o + cs.length)).toArray ty)
  | [], A, o, xs, h, _ => by
    simp only [List.append_nil, List.length_nil, Nat.add_zero, List.take_append_drop]
    exact h
  | x :: cs, A, o, xs, h, hl => by
    have hl' : o + 1 + cs.length ≤ xs.length := by simpa [Nat.add_assoc, Nat.add_comm 1] using hl
    have h2 := blk_setN (ty := ty) cs (A.setCell ⟨q, o, none⟩ x) (o + 1) (xs.set o x) (by rw [set_block h x]; simp) (by simpa using hl')
    rw [show setN A q o (x :: cs) = setN (A.setCell ⟨q, o, none⟩ x) q (o + 1) cs from rfl, h2]
    have ho : o < xs.length := by omega
    have e1 : (xs.set o x).take (o + 1) = xs.take o ++ [x] := by
      rw [List.take_add_one, List.take_set_of_le (Nat.le_refl _)]
      simp [ho]
    have e2 : (xs.set o x).drop (o + 1 + cs.length) = xs.drop (o + 1 + cs.length) := by
      rw [List.drop_set_of_lt (by omega)]
    rw [e1, e2]
    simp [Nat.add_assoc, Nat.add_comm 1]
theorem blk_all {q : Nat} {ty : TypeId} {A : World} {cs xs : List Value} (h : A.heap[q]? = some (.cells xs.toArray ty)) (hl : cs.length = xs.length) : (setN A q 0 cs).heap[q]? = some (.cells cs.toArray ty) := by
  rw [blk_setN cs A 0 xs h (by omega)]
  simp [hl]
/-- A row of rows of k cells. -/
def IsRow (w : World) (k lo : Nat) (v : Value) (n : Nat) (p : Nat → List Value → Prop) : Prop := ∃ a c, v = .slice a n c ∧ n ≤ c ∧ n ≤ 1000000 ∧ (n ≠ 0 → ∃ b off, a = some ⟨b, off, none⟩ ∧ lo ≤ b ∧ b < w.heap.size ∧ ∀ j, j < n → ∃ cs, w.rangeAt b (off + j * k) cs ∧ p j cs)
theorem IsRow.keep {w w' : World} {k lo lo' n : Nat} {v : Value} {p q : Nat → List Value → Prop} (h : IsRow w k lo v n p) (hb : Stays lo w w') (hl : lo' ≤ lo) (hp : ∀ j cs, p j cs → q j cs) : IsRow w' k lo' v n q := by
  obtain ⟨a, c, e, h1, h2, h3⟩ := h
  refine ⟨a, c, e, h1, h2, fun h0 => ?_⟩
  obtain ⟨b, off, e2, h4, h5, h6⟩ := h3 h0
  refine ⟨b, off, e2, Nat.le_trans hl h4, Nat.lt_of_lt_of_le h5 hb.1, fun j hj => ?_⟩
  obtain ⟨cs, h7, h8⟩ := h6 j hj
  exact ⟨cs, range_same h7 (hb.2 b h4 h5), hp j cs h8⟩
/-- A type's cells. -/
def IsTy (w : World) (lo : Nat) (cs : List Value) (t : Ty) : Prop := ∃ a n c, cs = [.int .i64 t.kind, .string t.name, .slice a n c, .int .i64 t.at'] ∧ IsLs w lo (.slice a n c) t.r
theorem IsTy.keep {w w' : World} {lo lo' : Nat} {cs : List Value} {t : Ty} (h : IsTy w lo cs t) (hb : Stays lo w w') (hl : lo' ≤ lo) : IsTy w' lo' cs t := by
  obtain ⟨a, n, c, e, h⟩ := h
  exact ⟨a, n, c, e, h.keep hb hl⟩
/-- A type as a value. -/
def TyV (w : World) (lo : Nat) (v : Value) (t : Ty) : Prop := ∃ a n c, v = .agg #[.int .i64 t.kind, .string t.name, .slice a n c, .int .i64 t.at'] ∧ IsLs w lo (.slice a n c) t.r
theorem TyV.keep (w w' : World) (lo lo' : Nat) (v : Value) (t : Ty) (h : TyV w lo v t) (hb : Stays lo w w') (hl : lo' ≤ lo) : TyV w' lo' v t := by
  obtain ⟨a, n, c, e, h⟩ := h
  exact ⟨a, n, c, e, h.keep hb hl⟩
/-- A parameter's cells. -/
def IsPm (w : World) (lo : Nat) (cs : List Value) (x : Pm) : Prop := ∃ a n c, cs = [.string x.name, .int .i64 x.t.kind, .string x.t.name, .slice a n c, .int .i64 x.t.at', .int .i64 x.at'] ∧ IsLs w lo (.slice a n c) x.t.r
theorem IsPm.keep {w w' : World} {lo lo' : Nat} {cs : List Value} {t : Pm} (h : IsPm w lo cs t) (hb : Stays lo w w') (hl : lo' ≤ lo) : IsPm w' lo' cs t := by
  obtain ⟨a, n, c, e, h⟩ := h
  exact ⟨a, n, c, e, h.keep hb hl⟩
/-- A row of parameters. -/
def IsPs (w : World) (lo : Nat) (v : Value) (l : List Pm) : Prop := IsRow w 6 lo v l.length fun j cs => ∀ x, l[j]? = some x → IsPm w lo cs x
theorem IsPs.keep {w w' : World} {lo lo' : Nat} {v : Value} {l : List Pm} (h : IsPs w lo v l) (hb : Stays lo w w') (hl : lo' ≤ lo) : IsPs w' lo' v l := IsRow.keep h hb hl fun _ _ h x hx => (h x hx).keep hb hl
/-- A declaration's cells. -/
structure DeV where
  pa : Option Addr
  pn : Nat
  pc : Nat
  ta : Option Addr
  tn : Nat
  tc : Nat
  ra : Option Addr
  rn : Nat
  rc : Nat
  ea : Option Addr
  en : Nat
  ec : Nat
  ma : Option Addr
  mn : Nat
  mc : Nat
  ba : Option Addr
  bn : Nat
  bc : Nat
def deCells (d : De) (x : DeV) : List Value := [.bool d.cell, .string d.name, .string d.num, .bool d.again, .slice x.pa x.pn x.pc, .int .i64 d.eff, .int .i64 d.t.kind, .string d.t.name, .slice x.ta x.tn x.tc, .int .i64 d.t.at', .slice x.ra x.rn x.rc, .string d.res, .slice x.ea x.en x.ec, .slice x.ma x.mn x.mc, .int .i64 d.body.op, .string d.body.name, .string d.body.num, .bool d.body.b, .slice x.ba x.bn x.bc, .int .i64 0, .int .i64 d.body.at', .int .i64 d.at']
structure DeIn (w : World) (lo : Nat) (d : De) (x : DeV) : Prop where
  ps : IsPs w lo (.slice x.pa x.pn x.pc) d.ps
  ty : IsLs w lo (.slice x.ta x.tn x.tc) d.t.r
  req : IsLs w lo (.slice x.ra x.rn x.rc) d.req
  ens : IsLs w lo (.slice x.ea x.en x.ec) d.ens
  mea : IsLs w lo (.slice x.ma x.mn x.mc) d.mea
  body : IsLs w lo (.slice x.ba x.bn x.bc) d.body.l
theorem DeIn.keep {w w' : World} {lo lo' : Nat} {d : De} {x : DeV} (h : DeIn w lo d x) (hb : Stays lo w w') (hl : lo' ≤ lo) : DeIn w' lo' d x := ⟨h.ps.keep hb hl, h.ty.keep hb hl, h.req.keep hb hl, h.ens.keep hb hl, h.mea.keep hb hl, h.body.keep hb hl⟩
def IsDe (w : World) (lo : Nat) (cs : List Value) (d : De) : Prop := ∃ x, cs = deCells d x ∧ DeIn w lo d x
theorem IsDe.keep {w w' : World} {lo lo' : Nat} {cs : List Value} {d : De} (h : IsDe w lo cs d) (hb : Stays lo w w') (hl : lo' ≤ lo) : IsDe w' lo' cs d := by
  obtain ⟨x, e, h⟩ := h
  exact ⟨x, e, h.keep hb hl⟩
def IsDs (w : World) (lo : Nat) (v : Value) (l : List De) : Prop := IsRow w 22 lo v l.length fun j cs => ∀ x, l[j]? = some x → IsDe w lo cs x
theorem IsDs.keep {w w' : World} {lo lo' : Nat} {v : Value} {l : List De} (h : IsDs w lo v l) (hb : Stays lo w w') (hl : lo' ≤ lo) : IsDs w' lo' v l := IsRow.keep h hb hl fun _ _ h x hx => (h x hx).keep hb hl
theorem lsn {w : World} {lo : Nat} : IsLs w lo (.slice none 0 0) [] := ⟨0, none, 0, rfl, Nat.le_refl _, by simp, fun h => absurd rfl h⟩
theorem psn {w : World} {lo : Nat} : IsPs w lo (.slice none 0 0) [] := ⟨none, 0, rfl, Nat.le_refl _, by simp, fun h => absurd rfl h⟩
/-- An expression's row of operands. -/
theorem IsE.ls {w : World} {lo : Nat} {i0 i6 : Int} {s1 s2 : ByteArray} {b3 : Bool} {a4 : Option Addr} {n4 c4 : Nat} {t : Ex} (h : IsE w lo (.agg #[.int .i64 i0, .string s1, .string s2, .bool b3, .slice a4 n4 c4, .int .i64 0, .int .i64 i6]) t) : i0 = t.op ∧ s1 = t.name ∧ s2 = t.num ∧ b3 = t.b ∧ i6 = t.at' ∧ IsLs w lo (.slice a4 n4 c4) t.l := by
  obtain ⟨op, nm, nu, bl, l, i⟩ := t
  obtain ⟨k, a, c, e, h2⟩ := h
  obtain ⟨rfl, rfl, rfl, rfl, ⟨rfl, rfl, rfl⟩, rfl⟩ : i0 = op ∧ s1 = nm ∧ s2 = nu ∧ b3 = bl ∧ (a4 = a ∧ n4 = l.length ∧ c4 = c) ∧ i6 = i := by simpa using e
  exact ⟨rfl, rfl, rfl, rfl, rfl, k, _, _, rfl, h2⟩
/-- A row of one expression. -/
theorem one_ls {w W : World} {lo : Nat} {x0 x1 x2 x3 x4 x5 x6 : Value} {t : Ex} (h : IsE w lo (.agg #[x0, x1, x2, x3, x4, x5, x6]) t) (eW : w.alloc (.cells #[x0, x1, x2, x3, x4, x5, x6] 51) = W) (hlo : lo ≤ w.heap.size) : IsLs W lo (.slice (some ⟨w.heap.size, 0, none⟩) 1 1) [t] :=
  (node (l := [t]) (vs := [[x0, x1, x2, x3, x4, x5, x6]]) 0 0 ⟨#[]⟩ ⟨#[]⟩ false eW rfl (by simp) rfl (by simp) hlo (fun j v t' hv ht => by
    rcases j with _ | j
    · obtain rfl := Option.some.inj hv
      obtain rfl := Option.some.inj ht
      exact h
    · simp at hv)).ls.2.2.2.2.2
end Go.Proofs.YtljhpbjngbbjbaaDoor

/- Package scope: the resolver as it lies; the first error is kept. -/
namespace Go.Proofs.YtljhpbjngbbjbaaDoor
open Go Go.RowKit
def iM (es : List (ByteArray × Int)) : List (ByteArray × Value) := es.map fun p => (p.1, .int .i64 p.2)
theorem look_iM (k : ByteArray) : ∀ es : List (ByteArray × Int), look k (iM es) = (lkI k es).map (Value.int .i64)
  | [] => rfl
  | p :: es => by
    show (if k = p.1 then some (Value.int .i64 p.2) else look k (iM es)) = (if k = p.1 then some p.2 else lkI k es).map _
    by_cases h : k = p.1
    · rw [if_pos h, if_pos h]; rfl
    · rw [if_neg h, if_neg h, look_iM k es]
theorem put_iM (k : ByteArray) (v : Int) : ∀ es : List (ByteArray × Int), put k (.int .i64 v) (iM es) = iM (ptI k v es)
  | [] => rfl
  | p :: es => by
    show (if k = p.1 then (k, Value.int .i64 v) :: iM es else (p.1, Value.int .i64 p.2) :: put k (.int .i64 v) (iM es)) = iM (if k = p.1 then (k, v) :: es else p :: ptI k v es)
    by_cases h : k = p.1
    · rw [if_pos h, if_pos h]; rfl
    · rw [if_neg h, if_neg h, put_iM k v es]; rfl
theorem iM_len (es : List (ByteArray × Int)) : (iM es).length = es.length := by simp [iM]
theorem look_def (k : ByteArray) (es : List (ByteArray × Int)) : (look k (iM es)).getD (.int .i64 0) = .int .i64 ((lkI k es).getD 0) := by
  rw [look_iM]
  cases lkI k es <;> rfl
theorem look_some (k : ByteArray) (es : List (ByteArray × Int)) : (look k (iM es)).isSome = (lkI k es).isSome := by
  rw [look_iM]
  cases lkI k es <;> rfl
/-- The first error, as the resolver holds it. -/
def WrP (H : Nat) (w : World) (pw : Option Addr) : Option (Int × Int) → Prop
  | none => pw = none
  | some e => ∃ p, pw = some ⟨p, 0, none⟩ ∧ H ≤ p ∧ w.heap[p]? = some (.cells #[.int .i64 e.1, .int .i64 e.2] 67)
/-- The resolver's box: its maps, how many binders there are, whether an old may stand, the first error. -/
def rsC (mc md : Nat) (mb : Option Nat) (z : RZ) (pw : Option Addr) : Array Value := #[.map (some mc), .map (some md), .map mb, .int .i64 z.depth, .bool z.ens, .pointer pw]
/-- The resolver between declarations. -/
structure RS0 (H r mc md : Nat) (w : World) (z : RZ) : Prop where
  box : ∃ mb pw, w.heap[r]? = some (.cells (rsC mc md mb z pw) 62) ∧ WrP H w pw z.wr
  nc : NM w mc (iM z.cells)
  nd : NM w md (iM z.defs)
  hr : H ≤ r
  hc : H ≤ mc
  hd : H ≤ md
  ne : mc ≠ md
/-- The resolver within one. -/
structure RSt (H r mc md mb : Nat) (w : World) (z : RZ) : Prop where
  box : ∃ pw, w.heap[r]? = some (.cells (rsC mc md (some mb) z pw) 62) ∧ WrP H w pw z.wr
  nc : NM w mc (iM z.cells)
  nd : NM w md (iM z.defs)
  nb : NM w mb (iM z.bind)
  hr : H ≤ r
  hc : H ≤ mc
  hd : H ≤ md
  hb : H ≤ mb
  ne : mc ≠ md
  n1 : mc ≠ mb
  n2 : md ≠ mb
theorem RSt.zero {H r mc md mb : Nat} {w : World} {z : RZ} (h : RSt H r mc md mb w z) : RS0 H r mc md w z := by
  obtain ⟨pw, h1, h2⟩ := h.box
  exact ⟨⟨_, pw, h1, h2⟩, h.nc, h.nd, h.hr, h.hc, h.hd, h.ne⟩
theorem WrP.same {H : Nat} {w w' : World} {pw : Option Addr} {e : Option (Int × Int)} (h : WrP H w pw e) (hs : ∀ k, H ≤ k → k < w.heap.size → w'.heap[k]? = w.heap[k]?) : WrP H w' pw e := by
  cases e with
  | none => exact h
  | some e =>
    obtain ⟨p, h1, h2, h3⟩ := h
    exact ⟨p, h1, h2, (hs p h2 (blk h3).1).trans h3⟩
/-- Blocks from H on stand, but one. -/
def Up (H r : Nat) (w w' : World) : Prop := ∀ k, H ≤ k → k < w.heap.size → k ≠ r → w'.heap[k]? = w.heap[k]?
theorem RSt.lt {H r mc md mb : Nat} {w : World} {z : RZ} (h : RSt H r mc md mb w z) : r < w.heap.size := by
  obtain ⟨pw, h1, h2⟩ := h.box
  exact (blk h1).1
theorem RSt.size {H r mc md mb : Nat} {w : World} {z : RZ} (h : RSt H r mc md mb w z) : H ≤ w.heap.size := by have := h.lt; have := h.hr; omega
theorem RSt.same {H r mc md mb : Nat} {w w' : World} {z : RZ} (h : RSt H r mc md mb w z) (hs : ∀ k, H ≤ k → k < w.heap.size → w'.heap[k]? = w.heap[k]?) : RSt H r mc md mb w' z := by
  obtain ⟨pw, h1, h2⟩ := h.box
  exact ⟨⟨pw, (hs r h.hr h.lt).trans h1, h2.same hs⟩, h.nc.same (hs _ h.hc h.nc.lt), h.nd.same (hs _ h.hd h.nd.lt), h.nb.same (hs _ h.hb h.nb.lt), h.hr, h.hc, h.hd, h.hb, h.ne, h.n1, h.n2⟩
theorem RSt.below {H r mc md mb : Nat} {w w' : World} {z : RZ} (h : RSt H r mc md mb w z) (hb : Below w.heap.size w w') : RSt H r mc md mb w' z := h.same fun k _ hk => hb.block k hk
theorem RSt.set {H r mc md mb q : Nat} {w : World} {z : RZ} (h : RSt H r mc md mb w z) (hq : q < H) (o : Nat) (v : Value) : RSt H r mc md mb (w.setCell ⟨q, o, none⟩ v) z := h.same fun k hk _ => heap_set o v (by omega)
/-- The box is written. -/
theorem RSt.boxed {H r mc md mb : Nat} {w w' : World} {z z' : RZ} (h : RSt H r mc md mb w z) (hu : Up H r w w') (hc : z'.cells = z.cells) (hd : z'.defs = z.defs) (hb : z'.bind = z.bind) {pw : Option Addr} (hx : w'.heap[r]? = some (.cells (rsC mc md (some mb) z' pw) 62)) (hp : WrP H w' pw z'.wr) : RSt H r mc md mb w' z' := by
  have hn : ∀ (m : Nat) es, NM w m es → m ≠ r := fun m es hm e => by
    obtain ⟨pw', h1, -⟩ := h.box
    obtain ⟨a, c, h3, -⟩ := hm
    rw [e, h1] at h3
    cases h3
  exact ⟨⟨pw, hx, hp⟩, by rw [hc]; exact h.nc.same (hu _ h.hc h.nc.lt (hn _ _ h.nc)), by rw [hd]; exact h.nd.same (hu _ h.hd h.nd.lt (hn _ _ h.nd)), by rw [hb]; exact h.nb.same (hu _ h.hb h.nb.lt (hn _ _ h.nb)), h.hr, h.hc, h.hd, h.hb, h.ne, h.n1, h.n2⟩
theorem WrP.up {H r : Nat} {w w' : World} {pw : Option Addr} {e : Option (Int × Int)} (h : WrP H w pw e) (hu : Up H r w w') (hr : ∀ cs, w.heap[r]? ≠ some (.cells cs 67)) : WrP H w' pw e := by
  cases e with
  | none => exact h
  | some e =>
    obtain ⟨p, h1, h2, h3⟩ := h
    exact ⟨p, h1, h2, (hu p h2 (blk h3).1 (fun e => hr _ (e ▸ h3))).trans h3⟩
theorem RSt.cells {H r mc md mb : Nat} {w : World} {z : RZ} (h : RSt H r mc md mb w z) : ∃ pw, w.cell? ⟨r, 0, none⟩ = some (.map (some mc)) ∧ w.cell? ⟨r, 1, none⟩ = some (.map (some md)) ∧ w.cell? ⟨r, 2, none⟩ = some (.map (some mb)) ∧ w.cell? ⟨r, 3, none⟩ = some (.int .i64 z.depth) ∧ w.cell? ⟨r, 4, none⟩ = some (.bool z.ens) ∧ w.cell? ⟨r, 5, none⟩ = some (.pointer pw) ∧ (∀ o, w.frozen? ⟨r, o, none⟩ = false) ∧ WrP H w pw z.wr := by
  obtain ⟨pw, h1, h2⟩ := h.box
  exact ⟨pw, (blk h1).2.1 0 _ rfl, (blk h1).2.1 1 _ rfl, (blk h1).2.1 2 _ rfl, (blk h1).2.1 3 _ rfl, (blk h1).2.1 4 _ rfl, (blk h1).2.1 5 _ rfl, (blk h1).2.2, h2⟩
def RefP (H r mc md mb : Nat) (z : RZ) (w : World) (e : Ending) (w' : World) : Prop := e = .returned (.tuple #[]) ∧ RSt H r mc md mb w' z ∧ Below H w w'
set_option maxRecDepth 100000 in
set_option maxHeartbeats 8000000 in
theorem refus_any {H r mc md mb : Nat} {w : World} {z : RZ} (h : RSt H r mc md mb w z) (a n : Int) : Calls Tryd.prog 40 #[.pointer (some ⟨r, 0, none⟩), .int .i64 a, .int .i64 n] w (RefP H r mc md mb (z.ref a n) w) := by
  obtain ⟨pw, x0, x1, x2, x3, x4, x5, hf, hw⟩ := h.cells
  have f5 := hf 5
  have HR := hide h
  have HW := hide hw
  unfold RefP RZ.ref
  cases hz : z.wr with
  | none =>
    rw [hz] at hw
    obtain rfl : pw = none := hw
    obtain ⟨A, eA, hbA, hsA, hhA⟩ := box_new w #[.int .i64 a, .int .i64 n] 67
    have y5 : ∀ o, (w.alloc o).cell? ⟨r, 5, none⟩ = some (.pointer none) := fun o => (((Below.refl w.heap.size w).alloc (Nat.le_refl _) o).cell (p := ⟨r, 5, none⟩) h.lt).trans x5
    have g5 : ∀ o, (w.alloc o).frozen? ⟨r, 5, none⟩ = false := fun o => (((Below.refl w.heap.size w).alloc (Nat.le_refl _) o).frozen (p := ⟨r, 5, none⟩) h.lt).trans f5
    have HA := hide (And.intro hbA (And.intro hsA hhA))
    have HZ := hide hz
    have HE := hide eA
    clear h hf hbA hsA hhA hz x0 x1 x2 x3 x4 eA
    go_enter Tryd.func40, Tryd.ntmps40
    go_wp2
    refine bodyPost_end (results_none rfl _ _ _) rfl ?_
    have h := unhide HR
    obtain ⟨hbA, hsA, hhA⟩ := unhide HA
    rw [unhide HE]
    have hlt := h.lt
    have hHw := h.size
    obtain ⟨pw', hb1, hb2⟩ := h.box
    have hbx : A.heap[r]? = some (.cells (rsC mc md (some mb) z pw') 62) := (hbA.block r hlt).trans hb1
    refine ⟨rfl, h.boxed (fun k hk hs hn => (heap_set 5 _ hn).trans (hbA.block k hs)) rfl rfl rfl (set_block hbx _) ⟨w.heap.size, rfl, hHw, ?_⟩, below_set (hbA.mono hHw) h.hr _ _⟩
    exact (heap_set 5 _ (by omega)).trans hhA
  | some e =>
    rw [hz] at hw
    obtain ⟨p, rfl, hp, hq⟩ := hw
    clear h hf x0 x1 x2 x3 x4 hz hp hq
    go_enter Tryd.func40, Tryd.ntmps40
    go_wp2
    refine bodyPost_end (results_none rfl _ _ _) rfl ?_
    exact ⟨rfl, unhide HR, Below.refl _ _⟩
end Go.Proofs.YtljhpbjngbbjbaaDoor

/- Package scope as plain Lean: binders stay few. -/
namespace Go.Proofs.YtljhpbjngbbjbaaDoor
theorem lkI_ptI (k j : ByteArray) (v : Int) : ∀ es : List (ByteArray × Int), lkI j (ptI k v es) = if j = k then some v else lkI j es
  | [] => by simp [ptI, lkI]
  | p :: es => by
    unfold ptI
    by_cases hk : k = p.1
    · rw [if_pos hk]
      simp only [lkI]
      by_cases hj : j = k
      · simp [hj]
      · rw [if_neg hj, if_neg hj, if_neg (by rw [← hk]; exact hj)]
    · rw [if_neg hk]
      simp only [lkI, lkI_ptI k j v es]
      by_cases hj : j = k
      · subst hj
        simp [hk]
      · simp [hj]
/-- So many more binders may come. -/
structure Fi (k : Nat) (z : RZ) : Prop where
  d0 : 0 ≤ z.depth
  d1 : z.depth + k ≤ 1000000000
  b : ∀ s, 0 ≤ z.bnd s ∧ z.bnd s ≤ 1000000000
theorem Fi.ref {k : Nat} {z : RZ} (h : Fi k z) (a n : Int) : Fi k (z.ref a n) ∧ (z.ref a n).depth = z.depth := by
  unfold RZ.ref
  cases hw : z.wr with
  | none => exact ⟨⟨h.d0, h.d1, h.b⟩, rfl⟩
  | some e => exact ⟨h, rfl⟩
theorem Fi.down {k j : Nat} {z : RZ} (h : Fi k z) (hj : j ≤ k) : Fi j z := ⟨h.d0, by have := h.d1; omega, h.b⟩
theorem Fi.setB {k j : Nat} {z : RZ} (h : Fi k z) (s : ByteArray) {d v : Int} (h0 : 0 ≤ d) (h1 : d + j ≤ 1000000000) (h2 : 0 ≤ v) (h3 : v ≤ 1000000000) : Fi j (z.setB d s v) := by
  refine ⟨h0, h1, fun x => ?_⟩
  have e : (z.setB d s v).bnd x = (if x = s then some v else lkI x z.bind).getD 0 := by
    show (lkI x (ptI s v z.bind)).getD 0 = _
    rw [lkI_ptI]
  rw [e]
  by_cases hx : x = s
  · rw [if_pos hx]; exact ⟨h2, h3⟩
  · rw [if_neg hx]; exact h.b x
theorem Fi.same {k : Nat} {z y : RZ} (h : Fi k z) (hd : y.depth = z.depth) (hb : y.bind = z.bind) : Fi k y := ⟨by rw [hd]; exact h.d0, by rw [hd]; exact h.d1, fun s => by unfold RZ.bnd; rw [hb]; exact h.b s⟩
def Kp (k : Nat) {α : Type} (f : RZ → α → α × RZ) : Prop := ∀ z t, Fi k z → Fi k (f z t).2 ∧ (f z t).2.depth = z.depth
theorem thr_kp {k : Nat} {α : Type} {f : RZ → α → α × RZ} (hf : Kp k f) : ∀ (l : List α) (z : RZ), Fi k z → Fi k (thr f z l).2 ∧ (thr f z l).2.depth = z.depth
  | [], z, h => ⟨h, rfl⟩
  | t :: l, z, h => by
    have h1 := hf z t h
    have h2 := thr_kp hf l (f z t).2 h1.1
    exact ⟨h2.1, h2.2.trans h1.2⟩
theorem und_kp {k : Nat} {f : RZ → List Er → List Er × RZ} (hf : ∀ z l, Fi k z → Fi k (f z l).2 ∧ (f z l).2.depth = z.depth) (s : ByteArray) (z : RZ) (l : List Er) (h : Fi (k + 1) z) : Fi (k + 1) (undS f s z l).2 ∧ (undS f s z l).2.depth = z.depth := by
  have hd := h.d0
  have hd1 := h.d1
  have h1 : Fi k (z.setB (z.depth + 1) s (z.depth + 1)) := h.setB s (by omega) (by push_cast at hd1; omega) (by omega) (by push_cast at hd1; omega)
  have h2 := hf _ l h1
  have hb := h.b s
  have e : (undS f s z l).2 = (f (z.setB (z.depth + 1) s (z.depth + 1)) l).2.setB ((f (z.setB (z.depth + 1) s (z.depth + 1)) l).2.depth - 1) s (z.bnd s) := rfl
  have e3 : (z.setB (z.depth + 1) s (z.depth + 1)).depth = z.depth + 1 := rfl
  have e2 : (f (z.setB (z.depth + 1) s (z.depth + 1)) l).2.depth = z.depth + 1 := h2.2.trans e3
  rw [e, e2]
  have e4 : ∀ y : RZ, (y.setB (z.depth + 1 - 1) s (z.bnd s)).depth = z.depth := fun y => by show z.depth + 1 - 1 = z.depth; omega
  exact ⟨h2.1.setB s (by omega) (by omega) hb.1 hb.2, e4 _⟩
theorem num_kp {k : Nat} (m : List (ByteArray × Int)) (z : RZ) (t : Er) (h : Fi k z) : Fi k (numS m z t).2 ∧ (numS m z t).2.depth = z.depth := by
  unfold numS
  cases lkI t.name m with
  | some v => exact ⟨h, rfl⟩
  | none => exact h.ref _ _
theorem rx_kp : ∀ k : Nat, Kp k (rxE k)
  | 0 => fun z t h => ⟨h, rfl⟩
  | k + 1 => fun z t h => by
    have hk := rx_kp k
    have hops : ∀ z t, Fi (k + 1) z → Fi (k + 1) (opsS (rxE k) z t).2 ∧ (opsS (rxE k) z t).2.depth = z.depth := fun z t h => by
      have h2 := thr_kp hk t.l z (h.down (by omega))
      have e : (opsS (rxE k) z t).2 = (thr (rxE k) z t.l).2 := rfl
      rw [e]
      exact ⟨⟨h2.1.d0, by rw [h2.2]; exact h.d1, h2.1.b⟩, h2.2⟩
    unfold rxE
    split
    · unfold varS
      split
      · exact h.ref _ _
      · exact ⟨h, rfl⟩
    split
    · exact num_kp _ _ _ h
    split
    · have h1 : Fi (k + 1) (if z.ens then z else z.ref t.at' 172) ∧ (if z.ens then z else z.ref t.at' 172).depth = z.depth := by
        split
        · exact ⟨h, rfl⟩
        · exact h.ref _ _
      have h2 := num_kp z.cells _ t h1.1
      exact ⟨h2.1, h2.2.trans h1.2⟩
    split
    · have h1 := num_kp z.cells z t h
      have h2 := hops (numS z.cells z t).2 (numS z.cells z t).1 h1.1
      exact ⟨h2.1, h2.2.trans h1.2⟩
    split
    · have h1 := num_kp z.defs z t h
      have h2 := hops (numS z.defs z t).2 (numS z.defs z t).1 h1.1
      exact ⟨h2.1, h2.2.trans h1.2⟩
    split
    · have h1 := thr_kp hk (t.l.take 1) z (h.down (by omega))
      have h1' : Fi (k + 1) (thr (rxE k) z (t.l.take 1)).2 := ⟨h1.1.d0, by rw [h1.2]; exact h.d1, h1.1.b⟩
      have h2 := und_kp (fun z l => thr_kp hk l z) t.name (thr (rxE k) z (t.l.take 1)).2 (t.l.drop 1) h1'
      have e : (binS (rxE k) z t).2 = (undS (thr (rxE k)) t.name (thr (rxE k) z (t.l.take 1)).2 (t.l.drop 1)).2 := rfl
      rw [e]
      exact ⟨h2.1, h2.2.trans h1.2⟩
    · exact hops z t h
end Go.Proofs.YtljhpbjngbbjbaaDoor

/- Package scope: what names stand for: numberOf, variable, cell, old. -/
namespace Go.Proofs.YtljhpbjngbbjbaaDoor
open Go Go.RowKit
theorem umI : Tryd.prog.underlying 59 = some (.map 9 3) := by kernel_rfl
theorem ukI : Tryd.prog.underlying 9 = some .string := by kernel_rfl
theorem zI (w : World) : (zeroValue 3).run Tryd.prog w = .ok (.int .i64 0) w := by go_simp
theorem asked {w : World} {m : Nat} {es : List (ByteArray × Int)} (h : NM w m (iM es)) (k : ByteArray) : (Instr.lookup 59 (.map (some m)) (.string k) true).run Tryd.prog w = .ok (.tuple #[.int .i64 ((lkI k es).getD 0), .bool (lkI k es).isSome]) w ∧ (Instr.lookup 59 (.map (some m)) (.string k) false).run Tryd.prog w = .ok (.int .i64 ((lkI k es).getD 0)) w := by
  have hl := nm_lookup (k := k) umI ukI (zI w) h
  rw [look_def, look_some] at hl
  exact hl
theorem updated {w : World} {m : Nat} {es : List (ByteArray × Int)} (h : NM w m (iM es)) (k : ByteArray) (v : Int) : ∃ W9, (Instr.mapUpdate 59 (.map (some m)) (.string k) (.int .i64 v)).run Tryd.prog w = .ok () W9 ∧ PutAt m w W9 ∧ NM W9 m (iM (ptI k v es)) := by
  obtain ⟨W9, h1, h2, h3⟩ := nm_update (P := Tryd.prog) (k := k) (v := .int .i64 v) umI ukI h
  rw [put_iM] at h3
  exact ⟨W9, h1, h2, h3⟩
/-- A tree's blocks, and where it stands, lie below H and apart. -/
structure Ap (H lo hi b : Nat) : Prop where
  b1 : b < H
  h1 : hi ≤ H
  o1 : b < lo ∨ hi ≤ b
/-- An expression has been gone through. -/
def EP (H r mc md mb k lo hi b o : Nat) (x : Er × RZ) (w : World) (e : Ending) (w' : World) : Prop := e = .returned (.tuple #[]) ∧ RSt H r mc md mb w' x.2 ∧ OE w' k lo hi b o x.1 ∧ Fr H (Foot lo hi b o 7) w w'
theorem OE.low {H k lo hi b o : Nat} {w w' : World} {t : Er} (hx : OE w k lo hi b o t) (hA : Ap H lo hi b) (h : Below H w w') : OE w' k lo hi b o t :=
  hx.fr (Fr.of (fun _ _ => False) h) hA.b1 hA.h1 (fun _ _ _ h => h) (fun _ _ _ _ h => h)
theorem written {H r mc md mb k lo hi b o : Nat} {w w2 : World} {t : Er} {z : RZ} (hx : OE w k lo hi b o t) (hA : Ap H lo hi b) (hR : RSt H r mc md mb w2 z) (h2 : Below H w w2) (i : Int) : EP H r mc md mb k lo hi b o (t.setI i, z) w (.returned (.tuple #[])) (w2.setCell ⟨b, o + 5, none⟩ (.int .i64 i)) :=
  ⟨rfl, hR.set hA.b1 _ _, (hx.low hA h2).setI hA.o1 i, ((Fr.of _ h2).set _ fun _ => .inr ⟨rfl, by omega, by omega⟩)⟩
theorem unwritten {H r mc md mb k lo hi b o : Nat} {w w2 : World} {t : Er} {z : RZ} (hx : OE w k lo hi b o t) (hA : Ap H lo hi b) (hR : RSt H r mc md mb w2 z) (h2 : Below H w w2) : EP H r mc md mb k lo hi b o (t, z) w (.returned (.tuple #[])) w2 :=
  ⟨rfl, hR, hx.low hA h2, Fr.of _ h2⟩
def NumP (H r mc md mb : Nat) (x : Er × RZ) (w : World) (e : Ending) (w' : World) : Prop := e = .returned (.int .i64 x.1.i) ∧ RSt H r mc md mb w' x.2 ∧ Below H w w'
set_option maxRecDepth 100000 in
set_option maxHeartbeats 8000000 in
theorem numberOf_any {H r mc md mb b o m : Nat} {w : World} {z : RZ} {es : List (ByteArray × Int)} {t : Er} (h : RSt H r mc md mb w z) (hm : NM w m (iM es)) (c1 : w.cell? ⟨b, o + 1, none⟩ = some (.string t.name)) (c6 : w.cell? ⟨b, o + 6, none⟩ = some (.int .i64 t.at')) : Calls Tryd.prog 79 #[.pointer (some ⟨r, 0, none⟩), .pointer (some ⟨b, o, none⟩), .map (some m)] w (NumP H r mc md mb (numS es z t) w) := by
  have hl := (asked hm t.name).1
  have HR := hide h
  have HC := hide (refus_any h t.at' 170)
  unfold NumP numS
  cases hk : lkI t.name es with
  | some k =>
    rw [hk] at hl
    clear h hm hk
    go_enter Tryd.func79, Tryd.ntmps79
    go_wp2
    go_ret
    exact ⟨rfl, unhide HR, Below.refl _ _⟩
  | none =>
    rw [hk] at hl
    clear h hm hk
    go_enter Tryd.func79, Tryd.ntmps79
    go_wp2_with fail
    refine (unhide HC).mono ?_
    rintro e w2 ⟨rfl, hR2, hb2⟩
    have H2 := hide (And.intro hR2 hb2)
    clear hR2 hb2
    go_wp2
    go_ret
    exact ⟨rfl, (unhide H2).1, (unhide H2).2⟩
theorem below_dw (H : Nat) (w : World) (n : Nat) : Below H w (w.drewN n) := by
  induction n with
  | zero => exact Below.refl _ w
  | succ n ih => exact ih.drew
set_option maxRecDepth 100000 in
set_option maxHeartbeats 8000000 in
theorem variable_any {H r mc md mb k lo hi b o : Nat} {w : World} {z : RZ} {t : Er} (h : RSt H r mc md mb w z) (hx : OE w (k + 1) lo hi b o t) (hA : Ap H lo hi b) (hFi : Fi (k + 1) z) : Calls Tryd.prog 70 #[.pointer (some ⟨r, 0, none⟩), .pointer (some ⟨b, o, none⟩)] w (EP H r mc md mb (k + 1) lo hi b o (varS z t) w) := by
  have hl := fun n => (asked (h.below (below_dw _ w n)).nb t.name).2
  obtain ⟨pw, x0, x1, x2, x3, x4, x5, hf, hw⟩ := h.cells
  obtain ⟨a, n, c, y0, y1, y4, y5, y6, yf, -⟩ := hx.cells
  have HC := hide (fun n => refus_any (h.below (below_dw _ w n)) t.at' 170)
  have HW := hide (fun n i => written hx hA (h.below (below_dw _ w n)) (below_dw H w n) i)
  have HX := hide hx
  have HA := hide hA
  unfold varS
  by_cases hk : z.bnd t.name = 0
  · rw [if_pos hk]
    clear hFi
    have hk' : (lkI t.name z.bind).getD 0 = 0 := hk
    rw [hk'] at hl
    clear h hx hA hf hw hk hk' y4 y5 y0 yf x0 x1 x3 x4 x5
    go_enter Tryd.func70, Tryd.ntmps70
    go_wp2_with fail
    go_quiet (fail)
    go_wp2_with fail
    refine (unhide HC nq).mono ?_
    rintro e w2 ⟨rfl, hR2, hb2⟩
    have H2 := hide (unwritten (unhide HX) (unhide HA) hR2 ((below_dw H w nq).trans hb2))
    clear hR2 hb2
    go_wp2
    refine bodyPost_ret (results_none rfl _ _ _) rfl ?_
    exact unhide H2
  · rw [if_neg hk]
    obtain ⟨N, hN⟩ : ∃ N, z.bnd t.name = N := ⟨_, rfl⟩
    have HQ := hide (show wrap64 (z.depth - N) = z.depth - N from by
      have h1 := hFi.d0
      have h2 := hFi.d1
      have h3 := hFi.b t.name
      rw [hN] at h3
      unfold wrap64
      push_cast at h2
      omega)
    clear hFi
    rw [hN] at hk ⊢
    have hN' : (lkI t.name z.bind).getD 0 = N := hN
    rw [hN'] at hl
    have e1 : (N == 0) = false := by simpa using hk
    have e2 : decide (N = 0) = false := by simpa using hk
    clear h hx hA hf hw hk y4 y0 x0 x1 x4 x5 hN hN'
    go_enter Tryd.func70, Tryd.ntmps70
    go_wp2_with fail
    go_quiet (fail)
    go_wp2
    refine bodyPost_end (results_none rfl _ _ _) rfl ?_
    have := unhide HW nq (z.depth - N)
    rw [unhide HQ]
    exact this
set_option maxRecDepth 100000 in
set_option maxHeartbeats 8000000 in
theorem cell_any {H r mc md mb k lo hi b o : Nat} {w : World} {z : RZ} {t : Er} (h : RSt H r mc md mb w z) (hx : OE w (k + 1) lo hi b o t) (hA : Ap H lo hi b) : Calls Tryd.prog 71 #[.pointer (some ⟨r, 0, none⟩), .pointer (some ⟨b, o, none⟩)] w (EP H r mc md mb (k + 1) lo hi b o (numS z.cells z t) w) := by
  obtain ⟨pw, x0, x1, x2, x3, x4, x5, hf, hw⟩ := h.cells
  obtain ⟨a, n, c, y0, y1, y4, y5, y6, yf, -⟩ := hx.cells
  have HC := hide (numberOf_any h h.nc y1 y6)
  have HY := hide (And.intro y5 yf)
  have HX := hide hx
  have HA := hide hA
  have HB := hide (show b < H from hA.b1)
  clear h hx hA hf hw y0 y1 y4 y5 y6 yf
  go_enter Tryd.func71, Tryd.ntmps71
  go_wp2_with fail
  refine (unhide HC).mono ?_
  rintro e w2 ⟨rfl, hR2, hb2⟩
  have y5 := (hb2.cell (p := ⟨b, o + 5, none⟩) (unhide HB)).trans (unhide HY).1
  have yf := (hb2.frozen (p := ⟨b, o + 5, none⟩) (unhide HB)).trans (unhide HY).2
  have H2 := hide (written (unhide HX) (unhide HA) hR2 hb2 (numS z.cells z t).1.i)
  clear hR2 hb2 HC HY HX HA HB x0 x1 x2 x3 x4 x5
  go_wp2
  refine bodyPost_end (results_none rfl _ _ _) rfl ?_
  have e3 : (t.setI (numS z.cells z t).1.i, (numS z.cells z t).2) = numS z.cells z t := by
    unfold numS
    cases lkI t.name z.cells <;> rfl
  have := unhide H2
  rw [e3] at this
  exact this
set_option maxRecDepth 100000 in
set_option maxHeartbeats 8000000 in
theorem old_any {H r mc md mb k lo hi b o : Nat} {w : World} {z : RZ} {t : Er} (h : RSt H r mc md mb w z) (hx : OE w (k + 1) lo hi b o t) (hA : Ap H lo hi b) : Calls Tryd.prog 72 #[.pointer (some ⟨r, 0, none⟩), .pointer (some ⟨b, o, none⟩)] w (EP H r mc md mb (k + 1) lo hi b o (numS z.cells (if z.ens then z else z.ref t.at' 172) t) w) := by
  obtain ⟨pw, x0, x1, x2, x3, x4, x5, hf, hw⟩ := h.cells
  obtain ⟨a, n, c, y0, y1, y4, y5, y6, yf, -⟩ := hx.cells
  have HR := hide (refus_any h t.at' 172)
  have HX := hide hx
  have HA := hide hA
  have HH := hide h
  clear h hx hA hf hw y0 y1 y4 y5 yf
  cases he : z.ens with
  | true =>
    rw [he] at x4
    have HC := hide (cell_any (unhide HH) (unhide HX) (unhide HA))
    clear he HR HX HA HH
    rw [if_pos rfl]
    go_enter Tryd.func72, Tryd.ntmps72
    go_wp2_with fail
    refine (unhide HC).mono ?_
    intro e w2 h2
    obtain rfl := h2.1
    have H2 := hide h2
    clear h2 HC
    go_wp2
    refine bodyPost_end (results_none rfl _ _ _) rfl ?_
    exact unhide H2
  | false =>
    rw [he] at x4
    have hz : (z.ref t.at' 172).cells = z.cells := by unfold RZ.ref; cases z.wr <;> rfl
    rw [← hz, if_neg (by simp)]
    clear he hz
    go_enter Tryd.func72, Tryd.ntmps72
    go_wp2_with fail
    refine (unhide HR).mono ?_
    rintro e w1 ⟨rfl, hR1, hb1⟩
    have HC := hide (cell_any hR1 ((unhide HX).low (unhide HA) hb1) (unhide HA))
    have HB := hide hb1
    clear hR1 hb1
    go_wp2_with fail
    refine (unhide HC).mono ?_
    rintro e w2 ⟨rfl, h3, h4, h5⟩
    have H2 := hide (show EP H r mc md mb (k + 1) lo hi b o (numS (z.ref t.at' 172).cells (z.ref t.at' 172) t) w (.returned (.tuple #[])) w2 from ⟨rfl, h3, h4, (Fr.of _ (unhide HB)).trans h5⟩)
    clear h3 h4 h5 HC HB
    go_wp2
    refine bodyPost_end (results_none rfl _ _ _) rfl ?_
    exact unhide H2
end Go.Proofs.YtljhpbjngbbjbaaDoor

namespace Go.Proofs.YtljhpbjngbbjbaaDoor
open Go Go.RowKit
/-- The resolver's expr, at trees so high at most. -/
def EC (H r mc md mb k : Nat) : Prop := ∀ (lo hi b o : Nat) (w : World) (z : RZ) (t : Er), RSt H r mc md mb w z → OE w k lo hi b o t → Ap H lo hi b → Fi k z → Calls Tryd.prog 60 #[.pointer (some ⟨r, 0, none⟩), .pointer (some ⟨b, o, none⟩)] w (EP H r mc md mb k lo hi b o (rxE k z t) w)
def LP (H r mc md mb k lo hi q o n : Nat) (x : List Er × RZ) (w : World) (e : Ending) (w' : World) : Prop := e = .returned (.tuple #[]) ∧ RSt H r mc md mb w' x.2 ∧ OLp (OE w' k) q lo hi o x.1 ∧ Fr H (Foot lo hi q o (7 * n)) w w'
theorem thr_len {α : Type} {f : RZ → α → α × RZ} : ∀ (l : List α) (z : RZ), (thr f z l).1.length = l.length
  | [], _ => rfl
  | t :: l, z => by
    show (thr f (f z t).2 l).1.length + 1 = _
    rw [thr_len l]; rfl
/-- One of a row has been gone through: the row as it stands. -/
theorem row_step {H k lo hi m1 m2 q o j n : Nat} {w w' : World} {u rest : List Er} {t' : Er} (hu : u.length = j) (hn : n = j + 1 + rest.length) (hA : Ap H lo hi q) (h1 : OLp (OE w k) q lo m1 o u) (h12 : m1 ≤ m2) (h3 : OLp (OE w k) q m2 hi (o + 7 * u.length + 7) rest) (h4 : OE w' k m1 m2 q (o + 7 * j) t') (h5 : Fr H (Foot m1 m2 q (o + 7 * j) 7) w w') : OLp (OE w' k) q lo hi o ((u ++ [t']) ++ rest) ∧ Fr H (Foot lo hi q o (7 * n)) w w' := by
  have l1 := OLp.le _ _ _ _ h1
  have l3 := OLp.le _ _ _ _ h3
  have ho := hA.o1
  have hh := hA.h1
  constructor
  · rw [List.append_assoc, OLp.split]
    refine ⟨m1, h1.fr h5 hA.b1 (by omega) (fun i k1 k2 => ?_) (fun k' i k1 k2 => ?_), m2, h12, by rw [hu]; exact h4, ?_⟩
    · rintro (⟨g1, g2⟩ | ⟨g1, g2, g3⟩) <;> omega
    · rintro (⟨g1, g2⟩ | ⟨g1, g2, g3⟩) <;> omega
    · refine h3.fr h5 hA.b1 hh (fun i k1 k2 => ?_) (fun k' i k1 k2 => ?_)
      · rintro (⟨g1, g2⟩ | ⟨g1, g2, g3⟩) <;> omega
      · rintro (⟨g1, g2⟩ | ⟨g1, g2, g3⟩) <;> omega
  · refine h5.mono fun k' i hk => ?_
    rcases hk with ⟨g1, g2⟩ | ⟨g1, g2, g3⟩
    · exact .inl ⟨by omega, by omega⟩
    · exact .inr ⟨g1, by omega, by omega⟩
theorem OLp.at {p : Nat → Nat → Nat → Nat → Er → Prop} {q lo hi o : Nat} {u rest : List Er} {t : Er} (h : OLp p q lo hi o (u ++ t :: rest)) : ∃ m1 m2, OLp p q lo m1 o u ∧ m1 ≤ m2 ∧ p m1 m2 q (o + 7 * u.length) t ∧ OLp p q m2 hi (o + 7 * u.length + 7) rest := by
  obtain ⟨m1, h1, m2, h2, h3, h4⟩ := (OLp.split _ _ _ _ _).1 h
  exact ⟨m1, m2, h1, h2, h3, h4⟩
set_option maxRecDepth 100000 in
set_option maxHeartbeats 8000000 in
theorem exprs_nil {H r mc md mb c : Nat} {a : Option Addr} {w : World} {z : RZ} (h : RSt H r mc md mb w z) : Calls Tryd.prog 58 #[.pointer (some ⟨r, 0, none⟩), .slice a 0 c] w fun e w' => e = .returned (.tuple #[]) ∧ RSt H r mc md mb w' z ∧ Below H w w' := by
  have HR := hide h
  clear h
  go_enter Tryd.func58, Tryd.ntmps58
  go_wp2_with fail
  go_loopw [7] (fun iv wr => iv = .int .i64 (0 : Nat) ∧ Hid (wr = w)) (fun iv _ => 0)
  case atStart => exact ⟨rfl, rfl⟩
  case round =>
    obtain ⟨rfl, HB⟩ := hrel
    go_wp2
    refine bodyPost_end (results_none rfl _ _ _) rfl ?_
    have e := unhide HB
    subst e
    exact ⟨rfl, unhide HR, Below.refl _ _⟩
set_option maxRecDepth 100000 in
set_option maxHeartbeats 8000000 in
theorem xrow_of {H r mc md mb k : Nat} (hE : EC H r mc md mb k) {lo hi q o n c : Nat} {w : World} {z : RZ} {l : List Er} (h : RSt H r mc md mb w z) (hx : OLp (OE w k) q lo hi o l) (hA : Ap H lo hi q) (hFi : Fi k z) (hn : n = l.length) (hc : n ≤ c) (hm : n ≤ 1000000) : Calls Tryd.prog 58 #[.pointer (some ⟨r, 0, none⟩), .slice (some ⟨q, o, none⟩) n c] w (LP H r mc md mb k lo hi q o n (thr (rxE k) z l) w) := by
  have HI := hide (And.intro h (And.intro hx (And.intro hA (And.intro hFi hn))))
  have g4 : (n : Int) ≤ 1000000 := by omega
  have HE := hide hE
  clear h hx hA hFi hn hc hE
  go_enter Tryd.func58, Tryd.ntmps58
  generalize hQQ : bodyPost Tryd.prog Tryd.f58 (LP H r mc md mb k lo hi q o n (thr (rxE k) z l) w) = QQ
  have HQQ := hide hQQ
  clear hQQ
  go_wp2_with fail
  go_loopw [7] (fun iv wr => ∃ (j : Nat) (u rest : List Er) (y : RZ), iv = .int .i64 j ∧ j ≤ n ∧ Hid (u.length = j ∧ n = j + rest.length ∧ thr (rxE k) z l = (u ++ (thr (rxE k) y rest).1, (thr (rxE k) y rest).2) ∧ Fi k y ∧ RSt H r mc md mb wr y ∧ OLp (OE wr k) q lo hi o (u ++ rest) ∧ Fr H (Foot lo hi q o (7 * n)) w wr)) (fun iv _ => n - (intOf iv).toNat)
  case atStart =>
    obtain ⟨h, hx, hA, hFi, hn⟩ := unhide HI
    exact ⟨0, [], l, z, rfl, Nat.zero_le _, rfl, by omega, rfl, hFi, h, hx, Fr.refl _ _ _⟩
  case round =>
    obtain ⟨j, u, rest, y, rfl, hj, HB⟩ := hrel
    have g3 : (0 : Int) ≤ (j : Int) := by omega
    by_cases hjn : j < n
    rotate_left
    · have g1 : ¬ ((j : Int) < (n : Int)) := by omega
      have g2 : decide ((j : Int) < (n : Int)) = false := by simp; omega
      clear HI hm
      have HJ := hide hjn
      clear hj hjn
      go_wp2
      rw [← unhide HQQ]
      refine bodyPost_end (results_none rfl _ _ _) rfl ?_
      obtain ⟨hu, hn, ht, hF, hR, hO, hf⟩ := unhide HB
      have hr : rest = [] := List.length_eq_zero_iff.1 (by have := unhide HJ; omega)
      subst hr
      rw [ht]
      exact ⟨rfl, hR, hO, hf⟩
    · obtain ⟨hu, hn, ht, hF, hR, hO, hf⟩ := unhide HB
      obtain ⟨t, rest, rfl⟩ : ∃ t r2, rest = t :: r2 := by
        cases rest with
        | nil => simp at hn; omega
        | cons t r2 => exact ⟨t, r2, rfl⟩
      obtain ⟨m1, m2, k1, k2, k3, k4⟩ := hO.at
      have hA := (unhide HI).2.2.1
      have l1 := OLp.le _ _ _ _ k1
      have l4 := OLp.le _ _ _ _ k4
      rw [hu] at k3
      have hA2 : Ap H m1 m2 q := ⟨hA.b1, by have := hA.h1; omega, by have := hA.o1; omega⟩
      have HC := hide (unhide HE m1 m2 q (o + 7 * j) wr y t hR k3 hA2 hF)
      rw [Nat.mul_comm 7 j] at HC
      have HK := hide (And.intro k1 (And.intro k2 (And.intro k4 (And.intro hA (And.intro hu (And.intro hn (And.intro ht (And.intro hF hf))))))))
      have HF2 := hide (rx_kp k y t hF)
      have g1 : (j : Int) < (n : Int) := by omega
      have g2 : decide ((j : Int) < (n : Int)) = true := by simp; omega
      clear hu hn ht hF hR hO hf k1 k2 k3 k4 l1 l4 hA hA2 hj HI HE HB
      have HJ := hide hjn
      clear hjn
      go_wp2_with fail
      refine (unhide HC).mono ?_
      rintro e w2 ⟨rfl, h3, h4, h5⟩
      obtain ⟨k1, k2, k4, hA, hu, hn, ht, hF, hf⟩ := unhide HK
      rw [Nat.mul_comm j 7] at h4 h5
      have hs := row_step (n := n) hu (by simp at hn; omega) hA k1 k2 k4 h4 h5
      have HZ := hide (show (u ++ [(rxE k y t).1]).length = j + 1 ∧ n = (j + 1) + rest.length ∧ thr (rxE k) z l = ((u ++ [(rxE k y t).1]) ++ (thr (rxE k) (rxE k y t).2 rest).1, (thr (rxE k) (rxE k y t).2 rest).2) ∧ Fi k (rxE k y t).2 ∧ RSt H r mc md mb w2 (rxE k y t).2 ∧ OLp (OE w2 k) q lo hi o ((u ++ [(rxE k y t).1]) ++ rest) ∧ Fr H (Foot lo hi q o (7 * n)) w w2 from ⟨by simp [hu], by simp at hn; omega, thr_go ht, (unhide HF2).1, h3, hs.1, hf.trans hs.2⟩)
      clear k1 k2 k4 hA hu hn ht hF hf h3 h4 h5 hs HK HC HF2
      go_wp2
      exact ⟨⟨j + 1, _, rest, _, by push_cast; rfl, by have := unhide HJ; omega, unhide HZ⟩, by simp only [intOf]; have := unhide HJ; omega⟩
end Go.Proofs.YtljhpbjngbbjbaaDoor
