/- avowref16.Expr: its leaves. -/
import Derived.Test.YtfkfnbehdcmgeaaGreatDoorZAE
import Derived.Deep.RegionHeld3
set_option linter.unusedVariables false
set_option linter.unusedSimpArgs false

/- avowhelp.Expr, Exprs: of the same tree they tell true. -/
namespace Go.Proofs.YtfkfnbehdcmgeaaGreatDoor
open Go Go.RowKit
/-- An expression as a value, so high at most. -/
def ExV (w : World) (P : Nat → Prop) (h : Nat) (v : Value) : Ex → Prop
  | .mk op nm nu bl l i => ∃ a c, v = .agg #[.int .i64 op, .string nm, .string nu, .bool bl, .slice a l.length c, .int .i64 0, .int .i64 i] ∧ RowX w P a l.length c fun b o j => ∀ t, l[j]? = some t → ExAt w P h b o t
/-- A row of expressions, so high at most. -/
def LsV (w : World) (P : Nat → Prop) (h : Nat) (v : Value) (l : List Ex) : Prop := ∃ a c, v = .slice a l.length c ∧ RowX w P a l.length c fun b o j => ∀ t, l[j]? = some t → ExAt w P h b o t
theorem ExV.keep {w w' : World} {P : Nat → Prop} {h : Nat} {v : Value} {t : Ex} (hx : ExV w P h v t) (hb : Below w.heap.size w w') : ExV w' P h v t := by
  obtain ⟨op, nm, nu, bl, l, i⟩ := t
  obtain ⟨a, c, e, h2⟩ := hx
  exact ⟨a, c, e, h2.mono hb.size (fun _ h => h) fun b o j hr hbl hj t ht => ExAt.keep ⟨hb.size, fun k _ hk => hb.block k hk⟩ (fun _ h => h) h b o t hr hbl (hj t ht)⟩
theorem LsV.keep {w w' : World} {P : Nat → Prop} {h : Nat} {v : Value} {l : List Ex} (hx : LsV w P h v l) (hb : Below w.heap.size w w') : LsV w' P h v l := by
  obtain ⟨a, c, e, h2⟩ := hx
  exact ⟨a, c, e, h2.mono hb.size (fun _ h => h) fun b o j hr hbl hj t ht => ExAt.keep ⟨hb.size, fun k _ hk => hb.block k hk⟩ (fun _ h => h) h b o t hr hbl (hj t ht)⟩
theorem ExV.up {w : World} {P : Nat → Prop} {h k : Nat} {v : Value} {t : Ex} (hx : ExV w P h v t) (hk : h ≤ k) : ExV w P k v t := by
  obtain ⟨op, nm, nu, bl, l, i⟩ := t
  obtain ⟨a, c, e, h2⟩ := hx
  exact ⟨a, c, e, h2.mono (Nat.le_refl _) (fun _ h => h) fun b o j _ _ hj t ht => ExAt.up h k b o t (hj t ht) hk⟩
theorem IsEP.exv {w : World} {P : Nat → Prop} {v : Value} {t : Ex} (h : IsEP w P v t) : ∃ k, ExV w P k v t := by
  obtain ⟨op, nm, nu, bl, l, i⟩ := t
  obtain ⟨k, a, c, e, h2⟩ := h
  exact ⟨k, a, c, e, h2⟩
theorem ExV.ls {w : World} {P : Nat → Prop} {h : Nat} {v : Value} {t : Ex} (hx : ExV w P h v t) : ∃ x4, v = .agg #[.int .i64 t.op, .string t.name, .string t.num, .bool t.b, x4, .int .i64 0, .int .i64 t.at'] ∧ LsV w P h x4 t.l := by
  obtain ⟨op, nm, nu, bl, l, i⟩ := t
  obtain ⟨a, c, e, h2⟩ := hx
  exact ⟨_, e, a, c, rfl, h2⟩
/-- An element of a row. -/
theorem LsV.at {w : World} {P : Nat → Prop} {h : Nat} {a : Option Addr} {n c : Nat} {l : List Ex} (hx : LsV w P (h + 1) (.slice a n c) l) {j : Nat} {t : Ex} (ht : l[j]? = some t) : n = l.length ∧ n ≤ c ∧ ∃ b off x4, a = some ⟨b, off, none⟩ ∧ b < w.heap.size ∧ w.rangeAt b (off + j * 7) [.int .i64 t.op, .string t.name, .string t.num, .bool t.b, x4, .int .i64 0, .int .i64 t.at'] ∧ ExV w P h (.agg #[.int .i64 t.op, .string t.name, .string t.num, .bool t.b, x4, .int .i64 0, .int .i64 t.at']) t := by
  obtain ⟨a', c', e, h1, h2, h3⟩ := hx
  obtain ⟨rfl, rfl, rfl⟩ : a = a' ∧ n = l.length ∧ c = c' := by simpa using e
  have hj := (List.getElem?_eq_some_iff.1 ht).1
  obtain ⟨b, off, rfl, hP, hb, hc⟩ := h3 (by omega)
  have hx := hc j hj t ht
  obtain ⟨op, nm, nu, bl, l', i⟩ := t
  obtain ⟨a2, c2, hr, hrow⟩ := hx
  exact ⟨rfl, h1, b, off, _, rfl, hb, hr, a2, c2, rfl, hrow⟩
theorem LsV.nil {w : World} {P : Nat → Prop} {v : Value} {l : List Ex} (hx : LsV w P 0 v l) : l = [] := by
  obtain ⟨a, c, e, h1, h2, h3⟩ := hx
  cases l with
  | nil => rfl
  | cons t l =>
    obtain ⟨b, off, -, -, -, hc⟩ := h3 (by simp)
    exact (hc 0 (by simp) t rfl).elim
end Go.Proofs.YtfkfnbehdcmgeaaGreatDoor

/- The document's texts of trees as plain Lean; Sign; a string appended. -/
namespace Go.Proofs.YtfkfnbehdcmgeaaGreatDoor
open Go Go.RowKit
def sgnS (op : Int) : ByteArray :=
  if op = 9 then ⟨#[42]⟩ else if op = 10 then ⟨#[43]⟩ else if op = 11 then ⟨#[45]⟩ else if op = 12 then ⟨#[61]⟩ else if op = 13 then ⟨#[60, 62]⟩ else if op = 14 then ⟨#[60]⟩ else if op = 15 then ⟨#[60, 61]⟩ else if op = 16 then ⟨#[62]⟩ else if op = 17 then ⟨#[62, 61]⟩ else if op = 18 then ⟨#[38, 38]⟩ else if op = 19 then ⟨#[124, 124]⟩ else if op = 20 then ⟨#[61, 61, 62]⟩ else ⟨#[]⟩
/-- A call's text, from its i-th operand on. -/
def joinS : ByteArray → Nat → List ByteArray → ByteArray
  | out, _, [] => out
  | out, i, c :: l => joinS ((if 0 < i then out ++ ⟨#[44, 32]⟩ else out) ++ c) (i + 1) l
/-- The text of an expression out of its operands' texts. -/
def shS (op : Int) (nm nu : ByteArray) (b : Bool) (cs : List ByteArray) : ByteArray :=
  let c (k : Nat) : ByteArray := cs.getD k ⟨#[]⟩
  if op = 1 then nu else if op = 2 then (if b then ⟨#[116, 114, 117, 101]⟩ else ⟨#[102, 97, 108, 115, 101]⟩) else if op = 3 then ⟨#[40, 41]⟩ else if op = 4 then nm else if op = 5 then ⟨#[33]⟩ ++ nm else if op = 6 then ⟨#[111, 108, 100, 32]⟩ ++ nm
  else if op = 7 then ⟨#[40, 45, 32]⟩ ++ c 0 ++ ⟨#[41]⟩ else if op = 8 then ⟨#[40, 110, 111, 116, 32]⟩ ++ c 0 ++ ⟨#[41]⟩
  else if op = 21 then joinS (nm ++ ⟨#[40]⟩) 0 cs ++ ⟨#[41]⟩
  else if op = 22 then ⟨#[40, 105, 102, 32]⟩ ++ c 0 ++ ⟨#[32, 116, 104, 101, 110, 32]⟩ ++ c 1 ++ ⟨#[32, 101, 108, 115, 101, 32]⟩ ++ c 2 ++ ⟨#[41]⟩
  else if op = 23 then ⟨#[40, 108, 101, 116, 32]⟩ ++ nm ++ ⟨#[32, 61, 32]⟩ ++ c 0 ++ ⟨#[32, 105, 110, 32]⟩ ++ c 1 ++ ⟨#[41]⟩
  else if op = 24 then ⟨#[40]⟩ ++ c 0 ++ ⟨#[59, 32]⟩ ++ c 1 ++ ⟨#[41]⟩
  else if op = 25 then ⟨#[40]⟩ ++ nm ++ ⟨#[32, 58, 61, 32]⟩ ++ c 0 ++ ⟨#[41]⟩
  else if op = 26 then ⟨#[40, 114, 97, 105, 115, 101, 32]⟩ ++ c 0 ++ ⟨#[41]⟩
  else if op = 28 then ⟨#[40, 97, 115, 115, 101, 114, 116, 32]⟩ ++ c 0 ++ ⟨#[41]⟩
  else if op = 27 then ⟨#[40, 116, 114, 121, 32]⟩ ++ c 0 ++ ⟨#[32, 119, 105, 116, 104, 32]⟩ ++ nm ++ ⟨#[32, 45, 62, 32]⟩ ++ c 1 ++ ⟨#[41]⟩
  else ⟨#[40]⟩ ++ c 0 ++ ⟨#[32]⟩ ++ sgnS op ++ ⟨#[32]⟩ ++ c 1 ++ ⟨#[41]⟩
/-- The document's text of an expression. -/
def exS : Ex → ByteArray
  | .mk op nm nu b l _ => shS op nm nu b (l.map fun u => exS u)
/-- How many operands an operator has: any number (none), so many (some). -/
def arS (op : Int) : Option Nat :=
  if 1 ≤ op ∧ op ≤ 6 then some 0 else if op = 7 ∨ op = 8 ∨ op = 25 ∨ op = 26 ∨ op = 28 then some 1 else if (9 ≤ op ∧ op ≤ 20) ∨ op = 23 ∨ op = 24 ∨ op = 27 then some 2 else if op = 22 then some 3 else none
set_option maxRecDepth 100000 in
set_option maxHeartbeats 16000000 in
theorem sign_eq (op : Int) (w : World) : Calls Tryz.prog 40 #[.int .i64 op] w (fun e w' => e = .returned (.string (sgnS op)) ∧ w' = w) := by
  obtain ⟨o, ho⟩ : ∃ o, sgnS op = o := ⟨_, rfl⟩
  rw [ho]
  unfold sgnS at ho
  replace ho := hide ho
  go_enter Tryz.func40, Tryz.ntmps40
  go_wp2_with fail
  all_goals
    go_ret
    refine ⟨?_, rfl⟩
    have ho2 := unhide ho
    clear ho
    simp_all
theorem str_app {w : World} {B n : Nat} {v : Value} {xs : List Value} (s : ByteArray) (hown : w.ownsRow B 9 1 v n xs) (hn : n ≤ 100000) (hB : B ≤ w.heap.size) :
    ∃ g cap w', (Builtin.append_ #[44, 44] 44 #[v, .slice (some ⟨w.heap.size, 0, none⟩) 1 1]).run Tryz.prog (w.alloc (.cells #[.string s] 9)) = .ok (.slice (some ⟨g, 0, none⟩) (n + 1) cap) w' ∧ w'.ownsRow B 9 1 (.slice (some ⟨g, 0, none⟩) (n + 1) cap) (n + 1) (xs ++ [.string s]) ∧ (w.alloc (.cells #[.string s] 9)).grownBy w' v.ownBlock ∧ (v.ownBlock = some g ∨ g = w.heap.size + 1) := by
  have hb := (MapKept.heap_alloc w (.cells #[.string s] 9)).1
  obtain ⟨g, cap, w', hr, ho, hg, hw, -⟩ := run_append_lies (P := Tryz.prog) (w.alloc (.cells #[.string s] 9)) 44 44 B 9 Tryz.t9 (.string ⟨#[]⟩) 1 16 Tryz.underlying44 (by kernel_rfl) (by kernel_rfl) (by kernel_rfl) (by kernel_rfl) rfl (by decide) v n xs (hown.alloc _) ⟨w.heap.size, 0, none⟩ 1 1 [.string s] rfl (fun j u hj => by
      have h := (blk hb).2.1 j u (by simpa using hj)
      rw [addr0]
      exact h) (fun u hu => by
      simp at hu
      rcases hu with rfl
      rfl) (by omega) (by unfold maxLen; omega) (by omega) (by simp; omega) _ rfl
  exact ⟨g, cap, w', hr, ho, hg, by simpa using hw⟩
end Go.Proofs.YtfkfnbehdcmgeaaGreatDoor

namespace Go.Proofs.YtfkfnbehdcmgeaaGreatDoor
open Go Go.RowKit
def sR : Code → Code
  | .seq _ b => b
  | c => c
/-- What stands behind the loop over the operands. -/
def sTail (f : Func) : Code := sR (sR (sR (f.body.getD .skip)))
theorem sgnS_size (op : Int) : (sgnS op).size ≤ 3 := by
  have key : ∀ (p : Prop) [Decidable p] (a b : ByteArray), a.size ≤ 3 → b.size ≤ 3 → (if p then a else b).size ≤ 3 := fun p _ a b h1 h2 => by split <;> assumption
  unfold sgnS
  repeat' (first | (apply key) | decide)
set_option maxRecDepth 100000 in
set_option maxHeartbeats 8000000 in
theorem leaf_1 {V : World} {q : Nat} {op at' : Int} {nm nu : ByteArray} {bl : Bool} {xs4 xv xl xi x7 x8 x9 x10 x11 x12 x13 x14 x15 x16 x17 x18 x19 x20 x21 x22 : Value} {Q : Exit → Act → World → Prop} (hb : V.heap[q]? = some (.cells #[.int .i64 op, .string nm, .string nu, .bool bl, xs4, .int .i64 0, .int .i64 at'] 36)) (hop : op = 1)  (hQ : ∀ (a : Act) (W : World), a.defers = [] → a.tmps.getD 2 undef = .string (nu) → Below V.heap.size V W → Q .ret a W) :
    Code.wp Tryz.prog (sTail Tryz.f23) Q { tmps := #[xv, .pointer (some ⟨q, 0, none⟩), .string ⟨#[]⟩, xl, xi, undef, undef, x7, x8, x9, x10, x11, x12, x13, x14, x15, x16, x17, x18, x19, x20, x21, x22, undef, undef, undef, undef, undef, undef, undef, undef, undef, undef, undef, undef, undef, undef, undef, undef, undef, undef, undef, undef, undef, undef, undef, undef, undef, undef, undef, undef, undef, undef, undef, undef, undef, undef, undef, undef, undef, undef, undef, undef, undef, undef, undef, undef, undef, undef, undef, undef, undef, undef, undef, undef, undef, undef, undef, undef, undef, undef, undef, undef, undef, undef, undef, undef, undef, undef, undef, undef, undef, undef, undef, undef, undef, undef, undef, undef, undef, undef, undef, undef, undef, undef, undef, undef, undef, undef, undef, undef, undef, undef, undef, undef, undef, undef, undef, undef, undef, undef, undef, undef, undef, undef, undef, undef, undef, undef, undef, undef, undef, undef, undef, undef, undef, undef, undef, undef, undef, undef, undef, undef, undef, undef, undef, undef, undef, undef, undef, undef, undef, undef, undef, undef, undef, undef, undef, undef, undef, undef, undef, undef, undef, undef, undef, undef, undef, undef, undef, undef, undef, undef, undef, undef, undef, undef, undef, undef, undef, undef, undef, undef, undef, undef, undef, undef], defers := [] } V := by
  have b0 := (blk hb).2.1 0 _ rfl
  have b1 := (blk hb).2.1 1 _ rfl
  have b2 := (blk hb).2.1 2 _ rfl
  have b3 := (blk hb).2.1 3 _ rfl
  have HQ := hide hQ
  clear hQ hb
  subst hop
  conv => arg 2; whnf
  go_wp2
  refine unhide HQ _ _ rfl ?_ ?_
  · first | rfl | (simp; done)
  · exact Below.refl _ _
set_option maxRecDepth 100000 in
set_option maxHeartbeats 8000000 in
theorem leaf_3 {V : World} {q : Nat} {op at' : Int} {nm nu : ByteArray} {bl : Bool} {xs4 xv xl xi x7 x8 x9 x10 x11 x12 x13 x14 x15 x16 x17 x18 x19 x20 x21 x22 : Value} {Q : Exit → Act → World → Prop} (hb : V.heap[q]? = some (.cells #[.int .i64 op, .string nm, .string nu, .bool bl, xs4, .int .i64 0, .int .i64 at'] 36)) (hop : op = 3)  (hQ : ∀ (a : Act) (W : World), a.defers = [] → a.tmps.getD 2 undef = .string (⟨#[40, 41]⟩) → Below V.heap.size V W → Q .ret a W) :
    Code.wp Tryz.prog (sTail Tryz.f23) Q { tmps := #[xv, .pointer (some ⟨q, 0, none⟩), .string ⟨#[]⟩, xl, xi, undef, undef, x7, x8, x9, x10, x11, x12, x13, x14, x15, x16, x17, x18, x19, x20, x21, x22, undef, undef, undef, undef, undef, undef, undef, undef, undef, undef, undef, undef, undef, undef, undef, undef, undef, undef, undef, undef, undef, undef, undef, undef, undef, undef, undef, undef, undef, undef, undef, undef, undef, undef, undef, undef, undef, undef, undef, undef, undef, undef, undef, undef, undef, undef, undef, undef, undef, undef, undef, undef, undef, undef, undef, undef, undef, undef, undef, undef, undef, undef, undef, undef, undef, undef, undef, undef, undef, undef, undef, undef, undef, undef, undef, undef, undef, undef, undef, undef, undef, undef, undef, undef, undef, undef, undef, undef, undef, undef, undef, undef, undef, undef, undef, undef, undef, undef, undef, undef, undef, undef, undef, undef, undef, undef, undef, undef, undef, undef, undef, undef, undef, undef, undef, undef, undef, undef, undef, undef, undef, undef, undef, undef, undef, undef, undef, undef, undef, undef, undef, undef, undef, undef, undef, undef, undef, undef, undef, undef, undef, undef, undef, undef, undef, undef, undef, undef, undef, undef, undef, undef, undef, undef, undef, undef, undef, undef, undef, undef, undef, undef, undef, undef], defers := [] } V := by
  have b0 := (blk hb).2.1 0 _ rfl
  have b1 := (blk hb).2.1 1 _ rfl
  have b2 := (blk hb).2.1 2 _ rfl
  have b3 := (blk hb).2.1 3 _ rfl
  have HQ := hide hQ
  clear hQ hb
  subst hop
  conv => arg 2; whnf
  go_wp2
  refine unhide HQ _ _ rfl ?_ ?_
  · first | rfl | (simp; done)
  · exact Below.refl _ _
set_option maxRecDepth 100000 in
set_option maxHeartbeats 8000000 in
theorem leaf_4 {V : World} {q : Nat} {op at' : Int} {nm nu : ByteArray} {bl : Bool} {xs4 xv xl xi x7 x8 x9 x10 x11 x12 x13 x14 x15 x16 x17 x18 x19 x20 x21 x22 : Value} {Q : Exit → Act → World → Prop} (hb : V.heap[q]? = some (.cells #[.int .i64 op, .string nm, .string nu, .bool bl, xs4, .int .i64 0, .int .i64 at'] 36)) (hop : op = 4)  (zm : nm.size ≤ 1000000) (hQ : ∀ (a : Act) (W : World), a.defers = [] → a.tmps.getD 2 undef = .string (nm) → Below V.heap.size V W → Q .ret a W) :
    Code.wp Tryz.prog (sTail Tryz.f23) Q { tmps := #[xv, .pointer (some ⟨q, 0, none⟩), .string ⟨#[]⟩, xl, xi, undef, undef, x7, x8, x9, x10, x11, x12, x13, x14, x15, x16, x17, x18, x19, x20, x21, x22, undef, undef, undef, undef, undef, undef, undef, undef, undef, undef, undef, undef, undef, undef, undef, undef, undef, undef, undef, undef, undef, undef, undef, undef, undef, undef, undef, undef, undef, undef, undef, undef, undef, undef, undef, undef, undef, undef, undef, undef, undef, undef, undef, undef, undef, undef, undef, undef, undef, undef, undef, undef, undef, undef, undef, undef, undef, undef, undef, undef, undef, undef, undef, undef, undef, undef, undef, undef, undef, undef, undef, undef, undef, undef, undef, undef, undef, undef, undef, undef, undef, undef, undef, undef, undef, undef, undef, undef, undef, undef, undef, undef, undef, undef, undef, undef, undef, undef, undef, undef, undef, undef, undef, undef, undef, undef, undef, undef, undef, undef, undef, undef, undef, undef, undef, undef, undef, undef, undef, undef, undef, undef, undef, undef, undef, undef, undef, undef, undef, undef, undef, undef, undef, undef, undef, undef, undef, undef, undef, undef, undef, undef, undef, undef, undef, undef, undef, undef, undef, undef, undef, undef, undef, undef, undef, undef, undef, undef, undef, undef, undef, undef, undef, undef], defers := [] } V := by
  have b0 := (blk hb).2.1 0 _ rfl
  have b1 := (blk hb).2.1 1 _ rfl
  have b2 := (blk hb).2.1 2 _ rfl
  have b3 := (blk hb).2.1 3 _ rfl
  have HQ := hide hQ
  clear hQ hb
  subst hop
  clear zm
  conv => arg 2; whnf
  go_wp2
  refine unhide HQ _ _ rfl ?_ ?_
  · first | rfl | (simp; done)
  · exact Below.refl _ _
set_option maxRecDepth 100000 in
set_option maxHeartbeats 8000000 in
theorem leaf_5 {V : World} {q : Nat} {op at' : Int} {nm nu : ByteArray} {bl : Bool} {xs4 xv xl xi x7 x8 x9 x10 x11 x12 x13 x14 x15 x16 x17 x18 x19 x20 x21 x22 : Value} {Q : Exit → Act → World → Prop} (hb : V.heap[q]? = some (.cells #[.int .i64 op, .string nm, .string nu, .bool bl, xs4, .int .i64 0, .int .i64 at'] 36)) (hop : op = 5)  (zm : nm.size ≤ 1000000) (hQ : ∀ (a : Act) (W : World), a.defers = [] → a.tmps.getD 2 undef = .string (⟨#[33]⟩ ++ nm) → Below V.heap.size V W → Q .ret a W) :
    Code.wp Tryz.prog (sTail Tryz.f23) Q { tmps := #[xv, .pointer (some ⟨q, 0, none⟩), .string ⟨#[]⟩, xl, xi, undef, undef, x7, x8, x9, x10, x11, x12, x13, x14, x15, x16, x17, x18, x19, x20, x21, x22, undef, undef, undef, undef, undef, undef, undef, undef, undef, undef, undef, undef, undef, undef, undef, undef, undef, undef, undef, undef, undef, undef, undef, undef, undef, undef, undef, undef, undef, undef, undef, undef, undef, undef, undef, undef, undef, undef, undef, undef, undef, undef, undef, undef, undef, undef, undef, undef, undef, undef, undef, undef, undef, undef, undef, undef, undef, undef, undef, undef, undef, undef, undef, undef, undef, undef, undef, undef, undef, undef, undef, undef, undef, undef, undef, undef, undef, undef, undef, undef, undef, undef, undef, undef, undef, undef, undef, undef, undef, undef, undef, undef, undef, undef, undef, undef, undef, undef, undef, undef, undef, undef, undef, undef, undef, undef, undef, undef, undef, undef, undef, undef, undef, undef, undef, undef, undef, undef, undef, undef, undef, undef, undef, undef, undef, undef, undef, undef, undef, undef, undef, undef, undef, undef, undef, undef, undef, undef, undef, undef, undef, undef, undef, undef, undef, undef, undef, undef, undef, undef, undef, undef, undef, undef, undef, undef, undef, undef, undef, undef, undef, undef, undef, undef], defers := [] } V := by
  have b0 := (blk hb).2.1 0 _ rfl
  have b1 := (blk hb).2.1 1 _ rfl
  have b2 := (blk hb).2.1 2 _ rfl
  have b3 := (blk hb).2.1 3 _ rfl
  have HQ := hide hQ
  clear hQ hb
  subst hop
  have hov0 : (9223372036854775807 < 1 + nm.size) = False := by simp; omega
  clear zm
  conv => arg 2; whnf
  go_wp2
  refine unhide HQ _ _ rfl ?_ ?_
  · first | rfl | (simp; done)
  · exact Below.refl _ _
set_option maxRecDepth 100000 in
set_option maxHeartbeats 8000000 in
theorem leaf_6 {V : World} {q : Nat} {op at' : Int} {nm nu : ByteArray} {bl : Bool} {xs4 xv xl xi x7 x8 x9 x10 x11 x12 x13 x14 x15 x16 x17 x18 x19 x20 x21 x22 : Value} {Q : Exit → Act → World → Prop} (hb : V.heap[q]? = some (.cells #[.int .i64 op, .string nm, .string nu, .bool bl, xs4, .int .i64 0, .int .i64 at'] 36)) (hop : op = 6)  (zm : nm.size ≤ 1000000) (hQ : ∀ (a : Act) (W : World), a.defers = [] → a.tmps.getD 2 undef = .string (⟨#[111, 108, 100, 32]⟩ ++ nm) → Below V.heap.size V W → Q .ret a W) :
    Code.wp Tryz.prog (sTail Tryz.f23) Q { tmps := #[xv, .pointer (some ⟨q, 0, none⟩), .string ⟨#[]⟩, xl, xi, undef, undef, x7, x8, x9, x10, x11, x12, x13, x14, x15, x16, x17, x18, x19, x20, x21, x22, undef, undef, undef, undef, undef, undef, undef, undef, undef, undef, undef, undef, undef, undef, undef, undef, undef, undef, undef, undef, undef, undef, undef, undef, undef, undef, undef, undef, undef, undef, undef, undef, undef, undef, undef, undef, undef, undef, undef, undef, undef, undef, undef, undef, undef, undef, undef, undef, undef, undef, undef, undef, undef, undef, undef, undef, undef, undef, undef, undef, undef, undef, undef, undef, undef, undef, undef, undef, undef, undef, undef, undef, undef, undef, undef, undef, undef, undef, undef, undef, undef, undef, undef, undef, undef, undef, undef, undef, undef, undef, undef, undef, undef, undef, undef, undef, undef, undef, undef, undef, undef, undef, undef, undef, undef, undef, undef, undef, undef, undef, undef, undef, undef, undef, undef, undef, undef, undef, undef, undef, undef, undef, undef, undef, undef, undef, undef, undef, undef, undef, undef, undef, undef, undef, undef, undef, undef, undef, undef, undef, undef, undef, undef, undef, undef, undef, undef, undef, undef, undef, undef, undef, undef, undef, undef, undef, undef, undef, undef, undef, undef, undef, undef, undef], defers := [] } V := by
  have b0 := (blk hb).2.1 0 _ rfl
  have b1 := (blk hb).2.1 1 _ rfl
  have b2 := (blk hb).2.1 2 _ rfl
  have b3 := (blk hb).2.1 3 _ rfl
  have HQ := hide hQ
  clear hQ hb
  subst hop
  have hov0 : (9223372036854775807 < 4 + nm.size) = False := by simp; omega
  clear zm
  conv => arg 2; whnf
  go_wp2
  refine unhide HQ _ _ rfl ?_ ?_
  · first | rfl | (simp; done)
  · exact Below.refl _ _
set_option maxRecDepth 100000 in
set_option maxHeartbeats 8000000 in
theorem leaf_7 {V : World} {q : Nat} {op at' : Int} {nm nu : ByteArray} {bl : Bool} {xs4 xv xl xi x7 x8 x9 x10 x11 x12 x13 x14 x15 x16 x17 x18 x19 x20 x21 x22 : Value} {Q : Exit → Act → World → Prop} (hb : V.heap[q]? = some (.cells #[.int .i64 op, .string nm, .string nu, .bool bl, xs4, .int .i64 0, .int .i64 at'] 36)) (hop : op = 7) {c0 : ByteArray} {gs nn cap : Nat} (hl : xl = .slice (some ⟨gs, 0, none⟩) nn cap) (hnn : 0 < nn) (hcap : nn ≤ cap) (k0 : V.cell? ⟨gs, 0, none⟩ = some (.string c0)) (z0 : c0.size ≤ 1000000) (hQ : ∀ (a : Act) (W : World), a.defers = [] → a.tmps.getD 2 undef = .string (⟨#[40, 45, 32]⟩ ++ c0 ++ ⟨#[41]⟩) → Below V.heap.size V W → Q .ret a W) :
    Code.wp Tryz.prog (sTail Tryz.f23) Q { tmps := #[xv, .pointer (some ⟨q, 0, none⟩), .string ⟨#[]⟩, xl, xi, undef, undef, x7, x8, x9, x10, x11, x12, x13, x14, x15, x16, x17, x18, x19, x20, x21, x22, undef, undef, undef, undef, undef, undef, undef, undef, undef, undef, undef, undef, undef, undef, undef, undef, undef, undef, undef, undef, undef, undef, undef, undef, undef, undef, undef, undef, undef, undef, undef, undef, undef, undef, undef, undef, undef, undef, undef, undef, undef, undef, undef, undef, undef, undef, undef, undef, undef, undef, undef, undef, undef, undef, undef, undef, undef, undef, undef, undef, undef, undef, undef, undef, undef, undef, undef, undef, undef, undef, undef, undef, undef, undef, undef, undef, undef, undef, undef, undef, undef, undef, undef, undef, undef, undef, undef, undef, undef, undef, undef, undef, undef, undef, undef, undef, undef, undef, undef, undef, undef, undef, undef, undef, undef, undef, undef, undef, undef, undef, undef, undef, undef, undef, undef, undef, undef, undef, undef, undef, undef, undef, undef, undef, undef, undef, undef, undef, undef, undef, undef, undef, undef, undef, undef, undef, undef, undef, undef, undef, undef, undef, undef, undef, undef, undef, undef, undef, undef, undef, undef, undef, undef, undef, undef, undef, undef, undef, undef, undef, undef, undef, undef, undef], defers := [] } V := by
  have b0 := (blk hb).2.1 0 _ rfl
  have b1 := (blk hb).2.1 1 _ rfl
  have b2 := (blk hb).2.1 2 _ rfl
  have b3 := (blk hb).2.1 3 _ rfl
  have HQ := hide hQ
  clear hQ hb
  subst hop
  subst hl
  have gn : (0 : Int) < (nn : Int) := by omega
  have gn0 : (0 : Int) < (nn : Int) := by omega
  have gcap : (nn : Int) ≤ (cap : Int) := by omega
  have hov0 : (9223372036854775807 < 3 + c0.size) = False := by simp; omega
  have hov1 : (9223372036854775807 < 3 + c0.size + 1) = False := by simp; omega
  clear z0 hnn
  conv => arg 2; whnf
  go_wp2
  refine unhide HQ _ _ rfl ?_ ?_
  · first | rfl | (simp; done)
  · exact Below.refl _ _
set_option maxRecDepth 100000 in
set_option maxHeartbeats 8000000 in
theorem leaf_8 {V : World} {q : Nat} {op at' : Int} {nm nu : ByteArray} {bl : Bool} {xs4 xv xl xi x7 x8 x9 x10 x11 x12 x13 x14 x15 x16 x17 x18 x19 x20 x21 x22 : Value} {Q : Exit → Act → World → Prop} (hb : V.heap[q]? = some (.cells #[.int .i64 op, .string nm, .string nu, .bool bl, xs4, .int .i64 0, .int .i64 at'] 36)) (hop : op = 8) {c0 : ByteArray} {gs nn cap : Nat} (hl : xl = .slice (some ⟨gs, 0, none⟩) nn cap) (hnn : 0 < nn) (hcap : nn ≤ cap) (k0 : V.cell? ⟨gs, 0, none⟩ = some (.string c0)) (z0 : c0.size ≤ 1000000) (hQ : ∀ (a : Act) (W : World), a.defers = [] → a.tmps.getD 2 undef = .string (⟨#[40, 110, 111, 116, 32]⟩ ++ c0 ++ ⟨#[41]⟩) → Below V.heap.size V W → Q .ret a W) :
    Code.wp Tryz.prog (sTail Tryz.f23) Q { tmps := #[xv, .pointer (some ⟨q, 0, none⟩), .string ⟨#[]⟩, xl, xi, undef, undef, x7, x8, x9, x10, x11, x12, x13, x14, x15, x16, x17, x18, x19, x20, x21, x22, undef, undef, undef, undef, undef, undef, undef, undef, undef, undef, undef, undef, undef, undef, undef, undef, undef, undef, undef, undef, undef, undef, undef, undef, undef, undef, undef, undef, undef, undef, undef, undef, undef, undef, undef, undef, undef, undef, undef, undef, undef, undef, undef, undef, undef, undef, undef, undef, undef, undef, undef, undef, undef, undef, undef, undef, undef, undef, undef, undef, undef, undef, undef, undef, undef, undef, undef, undef, undef, undef, undef, undef, undef, undef, undef, undef, undef, undef, undef, undef, undef, undef, undef, undef, undef, undef, undef, undef, undef, undef, undef, undef, undef, undef, undef, undef, undef, undef, undef, undef, undef, undef, undef, undef, undef, undef, undef, undef, undef, undef, undef, undef, undef, undef, undef, undef, undef, undef, undef, undef, undef, undef, undef, undef, undef, undef, undef, undef, undef, undef, undef, undef, undef, undef, undef, undef, undef, undef, undef, undef, undef, undef, undef, undef, undef, undef, undef, undef, undef, undef, undef, undef, undef, undef, undef, undef, undef, undef, undef, undef, undef, undef, undef, undef], defers := [] } V := by
  have b0 := (blk hb).2.1 0 _ rfl
  have b1 := (blk hb).2.1 1 _ rfl
  have b2 := (blk hb).2.1 2 _ rfl
  have b3 := (blk hb).2.1 3 _ rfl
  have HQ := hide hQ
  clear hQ hb
  subst hop
  subst hl
  have gn : (0 : Int) < (nn : Int) := by omega
  have gn0 : (0 : Int) < (nn : Int) := by omega
  have gcap : (nn : Int) ≤ (cap : Int) := by omega
  have hov0 : (9223372036854775807 < 5 + c0.size) = False := by simp; omega
  have hov1 : (9223372036854775807 < 5 + c0.size + 1) = False := by simp; omega
  clear z0 hnn
  conv => arg 2; whnf
  go_wp2
  refine unhide HQ _ _ rfl ?_ ?_
  · first | rfl | (simp; done)
  · exact Below.refl _ _
set_option maxRecDepth 100000 in
set_option maxHeartbeats 8000000 in
theorem leaf_22 {V : World} {q : Nat} {op at' : Int} {nm nu : ByteArray} {bl : Bool} {xs4 xv xl xi x7 x8 x9 x10 x11 x12 x13 x14 x15 x16 x17 x18 x19 x20 x21 x22 : Value} {Q : Exit → Act → World → Prop} (hb : V.heap[q]? = some (.cells #[.int .i64 op, .string nm, .string nu, .bool bl, xs4, .int .i64 0, .int .i64 at'] 36)) (hop : op = 22) {c0 c1 c2 : ByteArray} {gs nn cap : Nat} (hl : xl = .slice (some ⟨gs, 0, none⟩) nn cap) (hnn : 2 < nn) (hcap : nn ≤ cap) (k0 : V.cell? ⟨gs, 0, none⟩ = some (.string c0)) (z0 : c0.size ≤ 1000000) (k1 : V.cell? ⟨gs, 1, none⟩ = some (.string c1)) (z1 : c1.size ≤ 1000000) (k2 : V.cell? ⟨gs, 2, none⟩ = some (.string c2)) (z2 : c2.size ≤ 1000000) (hQ : ∀ (a : Act) (W : World), a.defers = [] → a.tmps.getD 2 undef = .string (⟨#[40, 105, 102, 32]⟩ ++ c0 ++ ⟨#[32, 116, 104, 101, 110, 32]⟩ ++ c1 ++ ⟨#[32, 101, 108, 115, 101, 32]⟩ ++ c2 ++ ⟨#[41]⟩) → Below V.heap.size V W → Q .ret a W) :
    Code.wp Tryz.prog (sTail Tryz.f23) Q { tmps := #[xv, .pointer (some ⟨q, 0, none⟩), .string ⟨#[]⟩, xl, xi, undef, undef, x7, x8, x9, x10, x11, x12, x13, x14, x15, x16, x17, x18, x19, x20, x21, x22, undef, undef, undef, undef, undef, undef, undef, undef, undef, undef, undef, undef, undef, undef, undef, undef, undef, undef, undef, undef, undef, undef, undef, undef, undef, undef, undef, undef, undef, undef, undef, undef, undef, undef, undef, undef, undef, undef, undef, undef, undef, undef, undef, undef, undef, undef, undef, undef, undef, undef, undef, undef, undef, undef, undef, undef, undef, undef, undef, undef, undef, undef, undef, undef, undef, undef, undef, undef, undef, undef, undef, undef, undef, undef, undef, undef, undef, undef, undef, undef, undef, undef, undef, undef, undef, undef, undef, undef, undef, undef, undef, undef, undef, undef, undef, undef, undef, undef, undef, undef, undef, undef, undef, undef, undef, undef, undef, undef, undef, undef, undef, undef, undef, undef, undef, undef, undef, undef, undef, undef, undef, undef, undef, undef, undef, undef, undef, undef, undef, undef, undef, undef, undef, undef, undef, undef, undef, undef, undef, undef, undef, undef, undef, undef, undef, undef, undef, undef, undef, undef, undef, undef, undef, undef, undef, undef, undef, undef, undef, undef, undef, undef, undef, undef], defers := [] } V := by
  have b0 := (blk hb).2.1 0 _ rfl
  have b1 := (blk hb).2.1 1 _ rfl
  have b2 := (blk hb).2.1 2 _ rfl
  have b3 := (blk hb).2.1 3 _ rfl
  have HQ := hide hQ
  clear hQ hb
  subst hop
  subst hl
  have gn : (2 : Int) < (nn : Int) := by omega
  have gn0 : (0 : Int) < (nn : Int) := by omega
  have gcap : (nn : Int) ≤ (cap : Int) := by omega
  have gn1 : (1 : Int) < (nn : Int) := by omega
  have gnN0 : 0 < nn := by omega
  have gnN1 : 1 < nn := by omega
  have hov0 : (9223372036854775807 < 4 + c0.size) = False := by simp; omega
  have hov1 : (9223372036854775807 < 4 + c0.size + 6) = False := by simp; omega
  have hov2 : (9223372036854775807 < 4 + c0.size + 6 + c1.size) = False := by simp; omega
  have hov3 : (9223372036854775807 < 4 + c0.size + 6 + c1.size + 6) = False := by simp; omega
  have hov4 : (9223372036854775807 < 4 + c0.size + 6 + c1.size + 6 + c2.size) = False := by simp; omega
  have hov5 : (9223372036854775807 < 4 + c0.size + 6 + c1.size + 6 + c2.size + 1) = False := by simp; omega
  clear z0 z1 z2 hnn
  conv => arg 2; whnf
  go_wp2_with fail
  go_region
  go_wp2
  refine unhide HQ _ _ rfl ?_ ?_
  · first | rfl | (simp; done)
  · first | exact Below.refl _ _ | exact (Below.refl _ _).drew
set_option maxRecDepth 100000 in
set_option maxHeartbeats 8000000 in
theorem leaf_23 {V : World} {q : Nat} {op at' : Int} {nm nu : ByteArray} {bl : Bool} {xs4 xv xl xi x7 x8 x9 x10 x11 x12 x13 x14 x15 x16 x17 x18 x19 x20 x21 x22 : Value} {Q : Exit → Act → World → Prop} (hb : V.heap[q]? = some (.cells #[.int .i64 op, .string nm, .string nu, .bool bl, xs4, .int .i64 0, .int .i64 at'] 36)) (hop : op = 23) {c0 c1 : ByteArray} {gs nn cap : Nat} (hl : xl = .slice (some ⟨gs, 0, none⟩) nn cap) (hnn : 1 < nn) (hcap : nn ≤ cap) (k0 : V.cell? ⟨gs, 0, none⟩ = some (.string c0)) (z0 : c0.size ≤ 1000000) (k1 : V.cell? ⟨gs, 1, none⟩ = some (.string c1)) (z1 : c1.size ≤ 1000000) (zm : nm.size ≤ 1000000) (hQ : ∀ (a : Act) (W : World), a.defers = [] → a.tmps.getD 2 undef = .string (⟨#[40, 108, 101, 116, 32]⟩ ++ nm ++ ⟨#[32, 61, 32]⟩ ++ c0 ++ ⟨#[32, 105, 110, 32]⟩ ++ c1 ++ ⟨#[41]⟩) → Below V.heap.size V W → Q .ret a W) :
    Code.wp Tryz.prog (sTail Tryz.f23) Q { tmps := #[xv, .pointer (some ⟨q, 0, none⟩), .string ⟨#[]⟩, xl, xi, undef, undef, x7, x8, x9, x10, x11, x12, x13, x14, x15, x16, x17, x18, x19, x20, x21, x22, undef, undef, undef, undef, undef, undef, undef, undef, undef, undef, undef, undef, undef, undef, undef, undef, undef, undef, undef, undef, undef, undef, undef, undef, undef, undef, undef, undef, undef, undef, undef, undef, undef, undef, undef, undef, undef, undef, undef, undef, undef, undef, undef, undef, undef, undef, undef, undef, undef, undef, undef, undef, undef, undef, undef, undef, undef, undef, undef, undef, undef, undef, undef, undef, undef, undef, undef, undef, undef, undef, undef, undef, undef, undef, undef, undef, undef, undef, undef, undef, undef, undef, undef, undef, undef, undef, undef, undef, undef, undef, undef, undef, undef, undef, undef, undef, undef, undef, undef, undef, undef, undef, undef, undef, undef, undef, undef, undef, undef, undef, undef, undef, undef, undef, undef, undef, undef, undef, undef, undef, undef, undef, undef, undef, undef, undef, undef, undef, undef, undef, undef, undef, undef, undef, undef, undef, undef, undef, undef, undef, undef, undef, undef, undef, undef, undef, undef, undef, undef, undef, undef, undef, undef, undef, undef, undef, undef, undef, undef, undef, undef, undef, undef, undef], defers := [] } V := by
  have b0 := (blk hb).2.1 0 _ rfl
  have b1 := (blk hb).2.1 1 _ rfl
  have b2 := (blk hb).2.1 2 _ rfl
  have b3 := (blk hb).2.1 3 _ rfl
  have HQ := hide hQ
  clear hQ hb
  subst hop
  subst hl
  have gn : (1 : Int) < (nn : Int) := by omega
  have gn0 : (0 : Int) < (nn : Int) := by omega
  have gcap : (nn : Int) ≤ (cap : Int) := by omega
  have gn1 : (1 : Int) < (nn : Int) := by omega
  have gnN0 : 0 < nn := by omega
  have gnN1 : 1 < nn := by omega
  have hov0 : (9223372036854775807 < 5 + nm.size) = False := by simp; omega
  have hov1 : (9223372036854775807 < 5 + nm.size + 3) = False := by simp; omega
  have hov2 : (9223372036854775807 < 5 + nm.size + 3 + c0.size) = False := by simp; omega
  have hov3 : (9223372036854775807 < 5 + nm.size + 3 + c0.size + 4) = False := by simp; omega
  have hov4 : (9223372036854775807 < 5 + nm.size + 3 + c0.size + 4 + c1.size) = False := by simp; omega
  have hov5 : (9223372036854775807 < 5 + nm.size + 3 + c0.size + 4 + c1.size + 1) = False := by simp; omega
  clear z0 z1 zm hnn
  conv => arg 2; whnf
  go_wp2_with fail
  go_region
  go_wp2
  refine unhide HQ _ _ rfl ?_ ?_
  · first | rfl | (simp; done)
  · first | exact Below.refl _ _ | exact (Below.refl _ _).drew
set_option maxRecDepth 100000 in
set_option maxHeartbeats 8000000 in
theorem leaf_24 {V : World} {q : Nat} {op at' : Int} {nm nu : ByteArray} {bl : Bool} {xs4 xv xl xi x7 x8 x9 x10 x11 x12 x13 x14 x15 x16 x17 x18 x19 x20 x21 x22 : Value} {Q : Exit → Act → World → Prop} (hb : V.heap[q]? = some (.cells #[.int .i64 op, .string nm, .string nu, .bool bl, xs4, .int .i64 0, .int .i64 at'] 36)) (hop : op = 24) {c0 c1 : ByteArray} {gs nn cap : Nat} (hl : xl = .slice (some ⟨gs, 0, none⟩) nn cap) (hnn : 1 < nn) (hcap : nn ≤ cap) (k0 : V.cell? ⟨gs, 0, none⟩ = some (.string c0)) (z0 : c0.size ≤ 1000000) (k1 : V.cell? ⟨gs, 1, none⟩ = some (.string c1)) (z1 : c1.size ≤ 1000000) (hQ : ∀ (a : Act) (W : World), a.defers = [] → a.tmps.getD 2 undef = .string (⟨#[40]⟩ ++ c0 ++ ⟨#[59, 32]⟩ ++ c1 ++ ⟨#[41]⟩) → Below V.heap.size V W → Q .ret a W) :
    Code.wp Tryz.prog (sTail Tryz.f23) Q { tmps := #[xv, .pointer (some ⟨q, 0, none⟩), .string ⟨#[]⟩, xl, xi, undef, undef, x7, x8, x9, x10, x11, x12, x13, x14, x15, x16, x17, x18, x19, x20, x21, x22, undef, undef, undef, undef, undef, undef, undef, undef, undef, undef, undef, undef, undef, undef, undef, undef, undef, undef, undef, undef, undef, undef, undef, undef, undef, undef, undef, undef, undef, undef, undef, undef, undef, undef, undef, undef, undef, undef, undef, undef, undef, undef, undef, undef, undef, undef, undef, undef, undef, undef, undef, undef, undef, undef, undef, undef, undef, undef, undef, undef, undef, undef, undef, undef, undef, undef, undef, undef, undef, undef, undef, undef, undef, undef, undef, undef, undef, undef, undef, undef, undef, undef, undef, undef, undef, undef, undef, undef, undef, undef, undef, undef, undef, undef, undef, undef, undef, undef, undef, undef, undef, undef, undef, undef, undef, undef, undef, undef, undef, undef, undef, undef, undef, undef, undef, undef, undef, undef, undef, undef, undef, undef, undef, undef, undef, undef, undef, undef, undef, undef, undef, undef, undef, undef, undef, undef, undef, undef, undef, undef, undef, undef, undef, undef, undef, undef, undef, undef, undef, undef, undef, undef, undef, undef, undef, undef, undef, undef, undef, undef, undef, undef, undef, undef], defers := [] } V := by
  have b0 := (blk hb).2.1 0 _ rfl
  have b1 := (blk hb).2.1 1 _ rfl
  have b2 := (blk hb).2.1 2 _ rfl
  have b3 := (blk hb).2.1 3 _ rfl
  have HQ := hide hQ
  clear hQ hb
  subst hop
  subst hl
  have gn : (1 : Int) < (nn : Int) := by omega
  have gn0 : (0 : Int) < (nn : Int) := by omega
  have gcap : (nn : Int) ≤ (cap : Int) := by omega
  have gn1 : (1 : Int) < (nn : Int) := by omega
  have gnN0 : 0 < nn := by omega
  have gnN1 : 1 < nn := by omega
  have hov0 : (9223372036854775807 < 1 + c0.size) = False := by simp; omega
  have hov1 : (9223372036854775807 < 1 + c0.size + 2) = False := by simp; omega
  have hov2 : (9223372036854775807 < 1 + c0.size + 2 + c1.size) = False := by simp; omega
  have hov3 : (9223372036854775807 < 1 + c0.size + 2 + c1.size + 1) = False := by simp; omega
  clear z0 z1 hnn
  conv => arg 2; whnf
  go_wp2_with fail
  go_region
  go_wp2
  refine unhide HQ _ _ rfl ?_ ?_
  · first | rfl | (simp; done)
  · first | exact Below.refl _ _ | exact (Below.refl _ _).drew
set_option maxRecDepth 100000 in
set_option maxHeartbeats 8000000 in
theorem leaf_25 {V : World} {q : Nat} {op at' : Int} {nm nu : ByteArray} {bl : Bool} {xs4 xv xl xi x7 x8 x9 x10 x11 x12 x13 x14 x15 x16 x17 x18 x19 x20 x21 x22 : Value} {Q : Exit → Act → World → Prop} (hb : V.heap[q]? = some (.cells #[.int .i64 op, .string nm, .string nu, .bool bl, xs4, .int .i64 0, .int .i64 at'] 36)) (hop : op = 25) {c0 : ByteArray} {gs nn cap : Nat} (hl : xl = .slice (some ⟨gs, 0, none⟩) nn cap) (hnn : 0 < nn) (hcap : nn ≤ cap) (k0 : V.cell? ⟨gs, 0, none⟩ = some (.string c0)) (z0 : c0.size ≤ 1000000) (zm : nm.size ≤ 1000000) (hQ : ∀ (a : Act) (W : World), a.defers = [] → a.tmps.getD 2 undef = .string (⟨#[40]⟩ ++ nm ++ ⟨#[32, 58, 61, 32]⟩ ++ c0 ++ ⟨#[41]⟩) → Below V.heap.size V W → Q .ret a W) :
    Code.wp Tryz.prog (sTail Tryz.f23) Q { tmps := #[xv, .pointer (some ⟨q, 0, none⟩), .string ⟨#[]⟩, xl, xi, undef, undef, x7, x8, x9, x10, x11, x12, x13, x14, x15, x16, x17, x18, x19, x20, x21, x22, undef, undef, undef, undef, undef, undef, undef, undef, undef, undef, undef, undef, undef, undef, undef, undef, undef, undef, undef, undef, undef, undef, undef, undef, undef, undef, undef, undef, undef, undef, undef, undef, undef, undef, undef, undef, undef, undef, undef, undef, undef, undef, undef, undef, undef, undef, undef, undef, undef, undef, undef, undef, undef, undef, undef, undef, undef, undef, undef, undef, undef, undef, undef, undef, undef, undef, undef, undef, undef, undef, undef, undef, undef, undef, undef, undef, undef, undef, undef, undef, undef, undef, undef, undef, undef, undef, undef, undef, undef, undef, undef, undef, undef, undef, undef, undef, undef, undef, undef, undef, undef, undef, undef, undef, undef, undef, undef, undef, undef, undef, undef, undef, undef, undef, undef, undef, undef, undef, undef, undef, undef, undef, undef, undef, undef, undef, undef, undef, undef, undef, undef, undef, undef, undef, undef, undef, undef, undef, undef, undef, undef, undef, undef, undef, undef, undef, undef, undef, undef, undef, undef, undef, undef, undef, undef, undef, undef, undef, undef, undef, undef, undef, undef, undef], defers := [] } V := by
  have b0 := (blk hb).2.1 0 _ rfl
  have b1 := (blk hb).2.1 1 _ rfl
  have b2 := (blk hb).2.1 2 _ rfl
  have b3 := (blk hb).2.1 3 _ rfl
  have HQ := hide hQ
  clear hQ hb
  subst hop
  subst hl
  have gn : (0 : Int) < (nn : Int) := by omega
  have gn0 : (0 : Int) < (nn : Int) := by omega
  have gcap : (nn : Int) ≤ (cap : Int) := by omega
  have hov0 : (9223372036854775807 < 1 + nm.size) = False := by simp; omega
  have hov1 : (9223372036854775807 < 1 + nm.size + 4) = False := by simp; omega
  have hov2 : (9223372036854775807 < 1 + nm.size + 4 + c0.size) = False := by simp; omega
  have hov3 : (9223372036854775807 < 1 + nm.size + 4 + c0.size + 1) = False := by simp; omega
  clear z0 zm hnn
  conv => arg 2; whnf
  go_wp2_with fail
  go_region
  go_wp2
  refine unhide HQ _ _ rfl ?_ ?_
  · first | rfl | (simp; done)
  · first | exact Below.refl _ _ | exact (Below.refl _ _).drew
set_option maxRecDepth 100000 in
set_option maxHeartbeats 8000000 in
theorem leaf_26 {V : World} {q : Nat} {op at' : Int} {nm nu : ByteArray} {bl : Bool} {xs4 xv xl xi x7 x8 x9 x10 x11 x12 x13 x14 x15 x16 x17 x18 x19 x20 x21 x22 : Value} {Q : Exit → Act → World → Prop} (hb : V.heap[q]? = some (.cells #[.int .i64 op, .string nm, .string nu, .bool bl, xs4, .int .i64 0, .int .i64 at'] 36)) (hop : op = 26) {c0 : ByteArray} {gs nn cap : Nat} (hl : xl = .slice (some ⟨gs, 0, none⟩) nn cap) (hnn : 0 < nn) (hcap : nn ≤ cap) (k0 : V.cell? ⟨gs, 0, none⟩ = some (.string c0)) (z0 : c0.size ≤ 1000000) (hQ : ∀ (a : Act) (W : World), a.defers = [] → a.tmps.getD 2 undef = .string (⟨#[40, 114, 97, 105, 115, 101, 32]⟩ ++ c0 ++ ⟨#[41]⟩) → Below V.heap.size V W → Q .ret a W) :
    Code.wp Tryz.prog (sTail Tryz.f23) Q { tmps := #[xv, .pointer (some ⟨q, 0, none⟩), .string ⟨#[]⟩, xl, xi, undef, undef, x7, x8, x9, x10, x11, x12, x13, x14, x15, x16, x17, x18, x19, x20, x21, x22, undef, undef, undef, undef, undef, undef, undef, undef, undef, undef, undef, undef, undef, undef, undef, undef, undef, undef, undef, undef, undef, undef, undef, undef, undef, undef, undef, undef, undef, undef, undef, undef, undef, undef, undef, undef, undef, undef, undef, undef, undef, undef, undef, undef, undef, undef, undef, undef, undef, undef, undef, undef, undef, undef, undef, undef, undef, undef, undef, undef, undef, undef, undef, undef, undef, undef, undef, undef, undef, undef, undef, undef, undef, undef, undef, undef, undef, undef, undef, undef, undef, undef, undef, undef, undef, undef, undef, undef, undef, undef, undef, undef, undef, undef, undef, undef, undef, undef, undef, undef, undef, undef, undef, undef, undef, undef, undef, undef, undef, undef, undef, undef, undef, undef, undef, undef, undef, undef, undef, undef, undef, undef, undef, undef, undef, undef, undef, undef, undef, undef, undef, undef, undef, undef, undef, undef, undef, undef, undef, undef, undef, undef, undef, undef, undef, undef, undef, undef, undef, undef, undef, undef, undef, undef, undef, undef, undef, undef, undef, undef, undef, undef, undef, undef], defers := [] } V := by
  have b0 := (blk hb).2.1 0 _ rfl
  have b1 := (blk hb).2.1 1 _ rfl
  have b2 := (blk hb).2.1 2 _ rfl
  have b3 := (blk hb).2.1 3 _ rfl
  have HQ := hide hQ
  clear hQ hb
  subst hop
  subst hl
  have gn : (0 : Int) < (nn : Int) := by omega
  have gn0 : (0 : Int) < (nn : Int) := by omega
  have gcap : (nn : Int) ≤ (cap : Int) := by omega
  have hov0 : (9223372036854775807 < 7 + c0.size) = False := by simp; omega
  have hov1 : (9223372036854775807 < 7 + c0.size + 1) = False := by simp; omega
  clear z0 hnn
  conv => arg 2; whnf
  go_wp2
  refine unhide HQ _ _ rfl ?_ ?_
  · first | rfl | (simp; done)
  · exact Below.refl _ _
set_option maxRecDepth 100000 in
set_option maxHeartbeats 8000000 in
theorem leaf_27 {V : World} {q : Nat} {op at' : Int} {nm nu : ByteArray} {bl : Bool} {xs4 xv xl xi x7 x8 x9 x10 x11 x12 x13 x14 x15 x16 x17 x18 x19 x20 x21 x22 : Value} {Q : Exit → Act → World → Prop} (hb : V.heap[q]? = some (.cells #[.int .i64 op, .string nm, .string nu, .bool bl, xs4, .int .i64 0, .int .i64 at'] 36)) (hop : op = 27) {c0 c1 : ByteArray} {gs nn cap : Nat} (hl : xl = .slice (some ⟨gs, 0, none⟩) nn cap) (hnn : 1 < nn) (hcap : nn ≤ cap) (k0 : V.cell? ⟨gs, 0, none⟩ = some (.string c0)) (z0 : c0.size ≤ 1000000) (k1 : V.cell? ⟨gs, 1, none⟩ = some (.string c1)) (z1 : c1.size ≤ 1000000) (zm : nm.size ≤ 1000000) (hQ : ∀ (a : Act) (W : World), a.defers = [] → a.tmps.getD 2 undef = .string (⟨#[40, 116, 114, 121, 32]⟩ ++ c0 ++ ⟨#[32, 119, 105, 116, 104, 32]⟩ ++ nm ++ ⟨#[32, 45, 62, 32]⟩ ++ c1 ++ ⟨#[41]⟩) → Below V.heap.size V W → Q .ret a W) :
    Code.wp Tryz.prog (sTail Tryz.f23) Q { tmps := #[xv, .pointer (some ⟨q, 0, none⟩), .string ⟨#[]⟩, xl, xi, undef, undef, x7, x8, x9, x10, x11, x12, x13, x14, x15, x16, x17, x18, x19, x20, x21, x22, undef, undef, undef, undef, undef, undef, undef, undef, undef, undef, undef, undef, undef, undef, undef, undef, undef, undef, undef, undef, undef, undef, undef, undef, undef, undef, undef, undef, undef, undef, undef, undef, undef, undef, undef, undef, undef, undef, undef, undef, undef, undef, undef, undef, undef, undef, undef, undef, undef, undef, undef, undef, undef, undef, undef, undef, undef, undef, undef, undef, undef, undef, undef, undef, undef, undef, undef, undef, undef, undef, undef, undef, undef, undef, undef, undef, undef, undef, undef, undef, undef, undef, undef, undef, undef, undef, undef, undef, undef, undef, undef, undef, undef, undef, undef, undef, undef, undef, undef, undef, undef, undef, undef, undef, undef, undef, undef, undef, undef, undef, undef, undef, undef, undef, undef, undef, undef, undef, undef, undef, undef, undef, undef, undef, undef, undef, undef, undef, undef, undef, undef, undef, undef, undef, undef, undef, undef, undef, undef, undef, undef, undef, undef, undef, undef, undef, undef, undef, undef, undef, undef, undef, undef, undef, undef, undef, undef, undef, undef, undef, undef, undef, undef, undef], defers := [] } V := by
  have b0 := (blk hb).2.1 0 _ rfl
  have b1 := (blk hb).2.1 1 _ rfl
  have b2 := (blk hb).2.1 2 _ rfl
  have b3 := (blk hb).2.1 3 _ rfl
  have HQ := hide hQ
  clear hQ hb
  subst hop
  subst hl
  have gn : (1 : Int) < (nn : Int) := by omega
  have gn0 : (0 : Int) < (nn : Int) := by omega
  have gcap : (nn : Int) ≤ (cap : Int) := by omega
  have gn1 : (1 : Int) < (nn : Int) := by omega
  have gnN0 : 0 < nn := by omega
  have gnN1 : 1 < nn := by omega
  have hov0 : (9223372036854775807 < 5 + c0.size) = False := by simp; omega
  have hov1 : (9223372036854775807 < 5 + c0.size + 6) = False := by simp; omega
  have hov2 : (9223372036854775807 < 5 + c0.size + 6 + nm.size) = False := by simp; omega
  have hov3 : (9223372036854775807 < 5 + c0.size + 6 + nm.size + 4) = False := by simp; omega
  have hov4 : (9223372036854775807 < 5 + c0.size + 6 + nm.size + 4 + c1.size) = False := by simp; omega
  have hov5 : (9223372036854775807 < 5 + c0.size + 6 + nm.size + 4 + c1.size + 1) = False := by simp; omega
  clear z0 z1 zm hnn
  conv => arg 2; whnf
  go_wp2_with fail
  go_region
  go_wp2
  refine unhide HQ _ _ rfl ?_ ?_
  · first | rfl | (simp; done)
  · first | exact Below.refl _ _ | exact (Below.refl _ _).drew
set_option maxRecDepth 100000 in
set_option maxHeartbeats 8000000 in
theorem leaf_28 {V : World} {q : Nat} {op at' : Int} {nm nu : ByteArray} {bl : Bool} {xs4 xv xl xi x7 x8 x9 x10 x11 x12 x13 x14 x15 x16 x17 x18 x19 x20 x21 x22 : Value} {Q : Exit → Act → World → Prop} (hb : V.heap[q]? = some (.cells #[.int .i64 op, .string nm, .string nu, .bool bl, xs4, .int .i64 0, .int .i64 at'] 36)) (hop : op = 28) {c0 : ByteArray} {gs nn cap : Nat} (hl : xl = .slice (some ⟨gs, 0, none⟩) nn cap) (hnn : 0 < nn) (hcap : nn ≤ cap) (k0 : V.cell? ⟨gs, 0, none⟩ = some (.string c0)) (z0 : c0.size ≤ 1000000) (hQ : ∀ (a : Act) (W : World), a.defers = [] → a.tmps.getD 2 undef = .string (⟨#[40, 97, 115, 115, 101, 114, 116, 32]⟩ ++ c0 ++ ⟨#[41]⟩) → Below V.heap.size V W → Q .ret a W) :
    Code.wp Tryz.prog (sTail Tryz.f23) Q { tmps := #[xv, .pointer (some ⟨q, 0, none⟩), .string ⟨#[]⟩, xl, xi, undef, undef, x7, x8, x9, x10, x11, x12, x13, x14, x15, x16, x17, x18, x19, x20, x21, x22, undef, undef, undef, undef, undef, undef, undef, undef, undef, undef, undef, undef, undef, undef, undef, undef, undef, undef, undef, undef, undef, undef, undef, undef, undef, undef, undef, undef, undef, undef, undef, undef, undef, undef, undef, undef, undef, undef, undef, undef, undef, undef, undef, undef, undef, undef, undef, undef, undef, undef, undef, undef, undef, undef, undef, undef, undef, undef, undef, undef, undef, undef, undef, undef, undef, undef, undef, undef, undef, undef, undef, undef, undef, undef, undef, undef, undef, undef, undef, undef, undef, undef, undef, undef, undef, undef, undef, undef, undef, undef, undef, undef, undef, undef, undef, undef, undef, undef, undef, undef, undef, undef, undef, undef, undef, undef, undef, undef, undef, undef, undef, undef, undef, undef, undef, undef, undef, undef, undef, undef, undef, undef, undef, undef, undef, undef, undef, undef, undef, undef, undef, undef, undef, undef, undef, undef, undef, undef, undef, undef, undef, undef, undef, undef, undef, undef, undef, undef, undef, undef, undef, undef, undef, undef, undef, undef, undef, undef, undef, undef, undef, undef, undef, undef], defers := [] } V := by
  have b0 := (blk hb).2.1 0 _ rfl
  have b1 := (blk hb).2.1 1 _ rfl
  have b2 := (blk hb).2.1 2 _ rfl
  have b3 := (blk hb).2.1 3 _ rfl
  have HQ := hide hQ
  clear hQ hb
  subst hop
  subst hl
  have gn : (0 : Int) < (nn : Int) := by omega
  have gn0 : (0 : Int) < (nn : Int) := by omega
  have gcap : (nn : Int) ≤ (cap : Int) := by omega
  have hov0 : (9223372036854775807 < 8 + c0.size) = False := by simp; omega
  have hov1 : (9223372036854775807 < 8 + c0.size + 1) = False := by simp; omega
  clear z0 hnn
  conv => arg 2; whnf
  go_wp2
  refine unhide HQ _ _ rfl ?_ ?_
  · first | rfl | (simp; done)
  · exact Below.refl _ _
set_option maxRecDepth 100000 in
set_option maxHeartbeats 8000000 in
theorem leaf_2t {V : World} {q : Nat} {op at' : Int} {nm nu : ByteArray} {bl : Bool} {xs4 xv xl xi x7 x8 x9 x10 x11 x12 x13 x14 x15 x16 x17 x18 x19 x20 x21 x22 : Value} {Q : Exit → Act → World → Prop} (hb : V.heap[q]? = some (.cells #[.int .i64 op, .string nm, .string nu, .bool bl, xs4, .int .i64 0, .int .i64 at'] 36)) (hop : op = 2) (hbl : bl = true)  (hQ : ∀ (a : Act) (W : World), a.defers = [] → a.tmps.getD 2 undef = .string (⟨#[116, 114, 117, 101]⟩) → Below V.heap.size V W → Q .ret a W) :
    Code.wp Tryz.prog (sTail Tryz.f23) Q { tmps := #[xv, .pointer (some ⟨q, 0, none⟩), .string ⟨#[]⟩, xl, xi, undef, undef, x7, x8, x9, x10, x11, x12, x13, x14, x15, x16, x17, x18, x19, x20, x21, x22, undef, undef, undef, undef, undef, undef, undef, undef, undef, undef, undef, undef, undef, undef, undef, undef, undef, undef, undef, undef, undef, undef, undef, undef, undef, undef, undef, undef, undef, undef, undef, undef, undef, undef, undef, undef, undef, undef, undef, undef, undef, undef, undef, undef, undef, undef, undef, undef, undef, undef, undef, undef, undef, undef, undef, undef, undef, undef, undef, undef, undef, undef, undef, undef, undef, undef, undef, undef, undef, undef, undef, undef, undef, undef, undef, undef, undef, undef, undef, undef, undef, undef, undef, undef, undef, undef, undef, undef, undef, undef, undef, undef, undef, undef, undef, undef, undef, undef, undef, undef, undef, undef, undef, undef, undef, undef, undef, undef, undef, undef, undef, undef, undef, undef, undef, undef, undef, undef, undef, undef, undef, undef, undef, undef, undef, undef, undef, undef, undef, undef, undef, undef, undef, undef, undef, undef, undef, undef, undef, undef, undef, undef, undef, undef, undef, undef, undef, undef, undef, undef, undef, undef, undef, undef, undef, undef, undef, undef, undef, undef, undef, undef, undef, undef], defers := [] } V := by
  have b0 := (blk hb).2.1 0 _ rfl
  have b1 := (blk hb).2.1 1 _ rfl
  have b2 := (blk hb).2.1 2 _ rfl
  have b3 := (blk hb).2.1 3 _ rfl
  have HQ := hide hQ
  clear hQ hb
  subst hop
  subst hbl
  conv => arg 2; whnf
  go_wp2
  refine unhide HQ _ _ rfl ?_ ?_
  · first | rfl | (simp; done)
  · exact Below.refl _ _
set_option maxRecDepth 100000 in
set_option maxHeartbeats 8000000 in
theorem leaf_2f {V : World} {q : Nat} {op at' : Int} {nm nu : ByteArray} {bl : Bool} {xs4 xv xl xi x7 x8 x9 x10 x11 x12 x13 x14 x15 x16 x17 x18 x19 x20 x21 x22 : Value} {Q : Exit → Act → World → Prop} (hb : V.heap[q]? = some (.cells #[.int .i64 op, .string nm, .string nu, .bool bl, xs4, .int .i64 0, .int .i64 at'] 36)) (hop : op = 2) (hbl : bl = false)  (hQ : ∀ (a : Act) (W : World), a.defers = [] → a.tmps.getD 2 undef = .string (⟨#[102, 97, 108, 115, 101]⟩) → Below V.heap.size V W → Q .ret a W) :
    Code.wp Tryz.prog (sTail Tryz.f23) Q { tmps := #[xv, .pointer (some ⟨q, 0, none⟩), .string ⟨#[]⟩, xl, xi, undef, undef, x7, x8, x9, x10, x11, x12, x13, x14, x15, x16, x17, x18, x19, x20, x21, x22, undef, undef, undef, undef, undef, undef, undef, undef, undef, undef, undef, undef, undef, undef, undef, undef, undef, undef, undef, undef, undef, undef, undef, undef, undef, undef, undef, undef, undef, undef, undef, undef, undef, undef, undef, undef, undef, undef, undef, undef, undef, undef, undef, undef, undef, undef, undef, undef, undef, undef, undef, undef, undef, undef, undef, undef, undef, undef, undef, undef, undef, undef, undef, undef, undef, undef, undef, undef, undef, undef, undef, undef, undef, undef, undef, undef, undef, undef, undef, undef, undef, undef, undef, undef, undef, undef, undef, undef, undef, undef, undef, undef, undef, undef, undef, undef, undef, undef, undef, undef, undef, undef, undef, undef, undef, undef, undef, undef, undef, undef, undef, undef, undef, undef, undef, undef, undef, undef, undef, undef, undef, undef, undef, undef, undef, undef, undef, undef, undef, undef, undef, undef, undef, undef, undef, undef, undef, undef, undef, undef, undef, undef, undef, undef, undef, undef, undef, undef, undef, undef, undef, undef, undef, undef, undef, undef, undef, undef, undef, undef, undef, undef, undef, undef], defers := [] } V := by
  have b0 := (blk hb).2.1 0 _ rfl
  have b1 := (blk hb).2.1 1 _ rfl
  have b2 := (blk hb).2.1 2 _ rfl
  have b3 := (blk hb).2.1 3 _ rfl
  have HQ := hide hQ
  clear hQ hb
  subst hop
  subst hbl
  conv => arg 2; whnf
  go_wp2
  refine unhide HQ _ _ rfl ?_ ?_
  · first | rfl | (simp; done)
  · exact Below.refl _ _
set_option maxRecDepth 100000 in
set_option maxHeartbeats 8000000 in
theorem leaf_bin {V : World} {q : Nat} {op at' : Int} {nm nu : ByteArray} {bl : Bool} {xs4 xv xl xi x7 x8 x9 x10 x11 x12 x13 x14 x15 x16 x17 x18 x19 x20 x21 x22 : Value} {Q : Exit → Act → World → Prop} (hb : V.heap[q]? = some (.cells #[.int .i64 op, .string nm, .string nu, .bool bl, xs4, .int .i64 0, .int .i64 at'] 36)) (h9 : 9 ≤ op) (h20 : op ≤ 20) {c0 c1 : ByteArray} {gs nn cap : Nat} (hl : xl = .slice (some ⟨gs, 0, none⟩) nn cap) (hnn : 1 < nn) (hcap : nn ≤ cap) (k0 : V.cell? ⟨gs, 0, none⟩ = some (.string c0)) (z0 : c0.size ≤ 1000000) (k1 : V.cell? ⟨gs, 1, none⟩ = some (.string c1)) (z1 : c1.size ≤ 1000000) (hQ : ∀ (a : Act) (W : World), a.defers = [] → a.tmps.getD 2 undef = .string (⟨#[40]⟩ ++ c0 ++ ⟨#[32]⟩ ++ sgnS op ++ ⟨#[32]⟩ ++ c1 ++ ⟨#[41]⟩) → Below V.heap.size V W → Q .ret a W) :
    Code.wp Tryz.prog (sTail Tryz.f23) Q { tmps := #[xv, .pointer (some ⟨q, 0, none⟩), .string ⟨#[]⟩, xl, xi, undef, undef, x7, x8, x9, x10, x11, x12, x13, x14, x15, x16, x17, x18, x19, x20, x21, x22, undef, undef, undef, undef, undef, undef, undef, undef, undef, undef, undef, undef, undef, undef, undef, undef, undef, undef, undef, undef, undef, undef, undef, undef, undef, undef, undef, undef, undef, undef, undef, undef, undef, undef, undef, undef, undef, undef, undef, undef, undef, undef, undef, undef, undef, undef, undef, undef, undef, undef, undef, undef, undef, undef, undef, undef, undef, undef, undef, undef, undef, undef, undef, undef, undef, undef, undef, undef, undef, undef, undef, undef, undef, undef, undef, undef, undef, undef, undef, undef, undef, undef, undef, undef, undef, undef, undef, undef, undef, undef, undef, undef, undef, undef, undef, undef, undef, undef, undef, undef, undef, undef, undef, undef, undef, undef, undef, undef, undef, undef, undef, undef, undef, undef, undef, undef, undef, undef, undef, undef, undef, undef, undef, undef, undef, undef, undef, undef, undef, undef, undef, undef, undef, undef, undef, undef, undef, undef, undef, undef, undef, undef, undef, undef, undef, undef, undef, undef, undef, undef, undef, undef, undef, undef, undef, undef, undef, undef, undef, undef, undef, undef, undef, undef], defers := [] } V := by
  have b0 := (blk hb).2.1 0 _ rfl
  have b1 := (blk hb).2.1 1 _ rfl
  have b2 := (blk hb).2.1 2 _ rfl
  have b3 := (blk hb).2.1 3 _ rfl
  have HQ := hide hQ
  clear hQ hb
  have HSg := hide (fun W => sign_eq op W)
  have e1 : (op == 1) = false := by simp; omega
  have d1 : decide (op = 1) = false := by simp; omega
  have e2 : (op == 2) = false := by simp; omega
  have d2 : decide (op = 2) = false := by simp; omega
  have e3 : (op == 3) = false := by simp; omega
  have d3 : decide (op = 3) = false := by simp; omega
  have e4 : (op == 4) = false := by simp; omega
  have d4 : decide (op = 4) = false := by simp; omega
  have e5 : (op == 5) = false := by simp; omega
  have d5 : decide (op = 5) = false := by simp; omega
  have e6 : (op == 6) = false := by simp; omega
  have d6 : decide (op = 6) = false := by simp; omega
  have e7 : (op == 7) = false := by simp; omega
  have d7 : decide (op = 7) = false := by simp; omega
  have e8 : (op == 8) = false := by simp; omega
  have d8 : decide (op = 8) = false := by simp; omega
  have e21 : (op == 21) = false := by simp; omega
  have d21 : decide (op = 21) = false := by simp; omega
  have e22 : (op == 22) = false := by simp; omega
  have d22 : decide (op = 22) = false := by simp; omega
  have e23 : (op == 23) = false := by simp; omega
  have d23 : decide (op = 23) = false := by simp; omega
  have e24 : (op == 24) = false := by simp; omega
  have d24 : decide (op = 24) = false := by simp; omega
  have e25 : (op == 25) = false := by simp; omega
  have d25 : decide (op = 25) = false := by simp; omega
  have e26 : (op == 26) = false := by simp; omega
  have d26 : decide (op = 26) = false := by simp; omega
  have e28 : (op == 28) = false := by simp; omega
  have d28 : decide (op = 28) = false := by simp; omega
  have e27 : (op == 27) = false := by simp; omega
  have d27 : decide (op = 27) = false := by simp; omega
  subst hl
  have gn : (1 : Int) < (nn : Int) := by omega
  have gn0 : (0 : Int) < (nn : Int) := by omega
  have gcap : (nn : Int) ≤ (cap : Int) := by omega
  have gn1 : (1 : Int) < (nn : Int) := by omega
  have gnN0 : 0 < nn := by omega
  have gnN1 : 1 < nn := by omega
  have hsg := sgnS_size op
  obtain ⟨sg, hsgn⟩ : ∃ x, sgnS op = x := ⟨_, rfl⟩
  rw [hsgn] at hsg HSg HQ
  have hov0 : (9223372036854775807 < 1 + c0.size) = False := by simp; omega
  have hov1 : (9223372036854775807 < 1 + c0.size + 1) = False := by simp; omega
  have hov2 : (9223372036854775807 < 1 + c0.size + 1 + sg.size) = False := by simp; omega
  have hov3 : (9223372036854775807 < 1 + c0.size + 1 + sg.size + 1) = False := by simp; omega
  have hov4 : (9223372036854775807 < 1 + c0.size + 1 + sg.size + 1 + c1.size) = False := by simp; omega
  have hov5 : (9223372036854775807 < 1 + c0.size + 1 + sg.size + 1 + c1.size + 1) = False := by simp; omega
  have HX := hide (And.intro h9 h20)
  clear z0 z1 hnn hsgn h9 h20 hsg
  have HSS : Hid (∀ w' : World, (w' = V ∨ w' = V.drew) → (w'.cell? ⟨gs, 0, none⟩ = some (.string c0) ∧ w'.cell? ⟨gs, 1, none⟩ = some (.string c1) ∧ w'.cell? ⟨q, 0, none⟩ = some (.int .i64 op) ∧ (w' = V ∨ w' = V.drew))) := fun w' h => by
    rcases h with h | h
    · subst h
      exact ⟨k0, k1, b0, .inl rfl⟩
    · subst h
      exact ⟨k0, k1, b0, .inr rfl⟩
  have hst := unhide HSS V (.inl rfl)
  conv => arg 2; whnf
  go_wp2_with fail
  go_region_held3 (fun w' => w'.cell? ⟨gs, 0, none⟩ = some (.string c0) ∧ w'.cell? ⟨gs, 1, none⟩ = some (.string c1) ∧ w'.cell? ⟨q, 0, none⟩ = some (.int .i64 op) ∧ (w' = V ∨ w' = V.drew)) (first | assumption | exact unhide HSS _ (.inl rfl) | exact unhide HSS _ (.inr rfl)) (first | (go_at_call 40; refine (unhide HSg _).mono ?_; rintro e v1 ⟨rfl, rfl⟩))
  all_goals
    go_wp2
    refine unhide HQ _ _ rfl ?_ ?_
    · first | rfl | (simp; done)
    · first | exact Below.refl _ _ | exact (Below.refl _ _).drew
end Go.Proofs.YtfkfnbehdcmgeaaGreatDoor
