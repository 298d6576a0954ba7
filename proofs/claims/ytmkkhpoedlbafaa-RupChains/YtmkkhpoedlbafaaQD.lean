/- The checker of package rup in memory: what stores and appends make of it. -/
import Derived.Test.YtmkkhpoedlbafaaQC
import Derived.Test.YtmkkhpoedlbafaaQA
import Derived.Deep.AppendLies
import Derived.Deep.MidRow
import Derived.Laws.OwnMore
import Derived.OneCell
set_option linter.unusedVariables false
set_option linter.unusedSimpArgs false

/- The checker of package rup in memory. -/
namespace Go.Proofs.Ytmkkhpoedlbafaa
open Go Go.RowKit

def nv (y : Nat) : Value := .int .i64 y
/-- A row of one's own, in a block that bears this mark. -/
def Rw (w : World) (B : Nat) (ρ : Nat → Nat × Nat) (role : Nat × Nat) (e : TypeId) (size : Nat) (v : Value) (n : Nat) (xs : List Value) : Prop := w.ownsRow B e size v n xs ∧ ∀ g, v.ownBlock = some g → ρ g = role
theorem lt_of_heap {w : World} {g : Nat} {o : Obj} (h : w.heap[g]? = some o) : g < w.heap.size := (Array.getElem?_eq_some_iff.1 h).1
section
variable {w w2 : World} {B : Nat} {ρ ρ2 : Nat → Nat × Nat} {role : Nat × Nat} {e : TypeId} {size : Nat} {v : Value} {n : Nat} {xs : List Value}
theorem Rw.step (h : Rw w B ρ role e size v n xs) (hs : ∀ g, g < w.heap.size → ρ g = role → w2.heap[g]? = w.heap[g]? ∧ ρ2 g = role) : Rw w2 B ρ2 role e size v n xs := by
  obtain ⟨⟨h0, h1⟩, h2⟩ := h
  rcases h1 with ⟨rfl, rfl⟩ | ⟨g, cap, cur, rfl, hb, hg, h5⟩
  · exact ⟨⟨h0, .inl ⟨rfl, rfl⟩⟩, fun g hg => by cases hg⟩
  · obtain ⟨k1, k2⟩ := hs g (lt_of_heap hg) (h2 g rfl)
    exact ⟨⟨h0, .inr ⟨g, cap, cur, rfl, hb, k1.trans hg, h5⟩⟩, fun g' hg' => by cases hg'; exact k2⟩
theorem Rw.form (h : Rw w B ρ role e size v n xs) : ∃ a cap, v = .slice a n cap ∧ n ≤ cap ∧ cap ≤ 9223372036854775807 := by
  obtain ⟨⟨h0, h1⟩, h2⟩ := h
  rcases h1 with ⟨rfl, rfl⟩ | ⟨g, cap, cur, rfl, hb, hg, h5, h6, _⟩
  · exact ⟨none, 0, rfl, by omega, by omega⟩
  · unfold maxLen at h6
    exact ⟨some ⟨g, 0, none⟩, cap, rfl, h5, by omega⟩
theorem Rw.open (h : Rw w B ρ role e size v n xs) (hn : 0 < n) : ∃ g cap, v = .slice (some ⟨g, 0, none⟩) n cap ∧ n ≤ cap ∧ cap ≤ 9223372036854775807 ∧ B ≤ g ∧ g < w.heap.size ∧ ρ g = role := by
  obtain ⟨⟨h0, h1⟩, h2⟩ := h
  rcases h1 with ⟨rfl, rfl⟩ | ⟨g, cap, cur, rfl, hb, hg, h5, h6, _⟩
  · omega
  · unfold maxLen at h6
    exact ⟨g, cap, rfl, h5, by omega, hb, lt_of_heap hg, h2 g rfl⟩
theorem Rw.cell {g cap : Nat} (h : Rw w B ρ role e size (.slice (some ⟨g, 0, none⟩) n cap) n xs) {j : Nat} {u : Value} (hj : xs[j]? = some u) : w.cell? ⟨g, j, none⟩ = some u ∧ w.frozen? ⟨g, j, none⟩ = false := by
  have hl := (List.getElem?_eq_some_iff.1 hj).1
  rw [h.1.1] at hl
  exact ⟨(h.1.cellAt j hl).trans hj, h.1.frozenAt j⟩
theorem Rw.set {g cap : Nat} (h : Rw w B ρ role e size (.slice (some ⟨g, 0, none⟩) n cap) n xs) (j : Nat) (u : Value) : Rw (w.setCell ⟨g, j, none⟩ u) B ρ role e size (.slice (some ⟨g, 0, none⟩) n cap) n (xs.set j u) :=
  ⟨(h.1.stored j u).1, h.2⟩
theorem Rw.cut {g cap : Nat} (h : Rw w B ρ role e size (.slice (some ⟨g, 0, none⟩) n cap) n xs) {m : Nat} (hm : m ≤ n) : Rw w B ρ role e size (.slice (some ⟨g, 0, none⟩) m cap) m (xs.take (m * size)) := by
  obtain ⟨⟨h0, h1⟩, h2⟩ := h
  rcases h1 with ⟨h', _⟩ | ⟨g', cap', cur, h', hb, hg, h5, h6, h7, h8⟩
  · simp at h'
  · simp only [Value.slice.injEq, Option.some.injEq, Addr.mk.injEq, and_true, true_and] at h'
    obtain ⟨rfl, rfl⟩ := h'
    have hms : m * size ≤ n * size := Nat.mul_le_mul_right _ hm
    refine ⟨⟨by rw [List.length_take, h0]; omega, .inr ⟨g, cap, cur, rfl, hb, hg, by omega, h6, h7, ?_⟩⟩, fun g' hg' => h2 g' hg'⟩
    rw [← h8, List.take_take, Nat.min_eq_left hms]
end
def upd (ρ : Nat → Nat × Nat) (g : Nat) (role : Nat × Nat) : Nat → Nat × Nat := fun k => if k = g then role else ρ k
theorem upd_same (ρ : Nat → Nat × Nat) (g : Nat) (role : Nat × Nat) : upd ρ g role g = role := if_pos rfl
theorem upd_other {ρ : Nat → Nat × Nat} {g k : Nat} {role : Nat × Nat} (h : k ≠ g) : upd ρ g role k = ρ k := if_neg h

/-! ### The map of places -/
def MP (w : World) (m : Nat) (pl : List Int) : Prop := ∃ es clock, w.heap[m]? = some (.map es clock) ∧ es.size = pl.length ∧ ∀ (j : Nat) a, pl[j]? = some a → ∃ born, es.toList[j]? = some ⟨.int .i64 a, .int .i64 j, born⟩
theorem MP.step {w w2 : World} {m : Nat} {pl : List Int} (h : MP w m pl) (hs : w2.heap[m]? = w.heap[m]?) : MP w2 m pl := by
  obtain ⟨es, c, h1, h2⟩ := h
  exact ⟨es, c, hs.trans h1, h2⟩
theorem MP.lt {w : World} {m : Nat} {pl : List Int} (h : MP w m pl) : m < w.heap.size := by
  obtain ⟨es, c, h1, h2⟩ := h
  exact lt_of_heap h1
theorem find_pl {k : Int} : ∀ (pl : List Int) (l : List MapEntry) (i : Nat), l.length = pl.length → (∀ (j : Nat) a, pl[j]? = some a → ∃ born, l[j]? = some ⟨.int .i64 a, .int .i64 (((i + j : Nat)) : Int), born⟩) →
    (k ∉ pl → Instr.findNow (.int .i64) (.int .i64 k) l i = some none) ∧ (k ∈ pl → ∃ j, pl[j]? = some k ∧ Instr.findNow (.int .i64) (.int .i64 k) l i = some (some (i + j, .int .i64 ((i + j : Nat) : Int))))
  | [], l, i, hl, _ => by
    have : l = [] := List.eq_nil_of_length_eq_zero hl
    subst this
    exact ⟨fun _ => rfl, fun h => (by cases h)⟩
  | a :: pl, l, i, hl, h => by
    obtain ⟨born, h0⟩ := h 0 a rfl
    match l, hl, h, h0 with
    | e :: l, hl, h, h0 =>
    simp only [List.getElem?_cons_zero, Option.some.injEq] at h0
    subst h0
    have ih := find_pl (k := k) pl l (i + 1) (by simpa using hl) (fun j b hb => by
      obtain ⟨born, hb2⟩ := h (j + 1) b (by simpa using hb)
      refine ⟨born, ?_⟩
      simp only [List.getElem?_cons_succ] at hb2
      rw [hb2, show i + (j + 1) = i + 1 + j by omega])
    by_cases hk : k = a
    · subst hk
      refine ⟨fun hn => absurd (.head _) hn, fun _ => ⟨0, rfl, ?_⟩⟩
      simp [Instr.findNow, Instr.sameNow]
    · have hs : ∀ e, e = (⟨.int .i64 a, .int .i64 ((i + 0 : Nat) : Int), born⟩ : MapEntry) → Instr.findNow (.int .i64) (.int .i64 k) (e :: l) i = Instr.findNow (.int .i64) (.int .i64 k) l (i + 1) := by
        intro e he
        have hk2 : (k == a) = false := by simp [hk]
        subst he
        simp [Instr.findNow, Instr.sameNow, hk2]
      refine ⟨fun hn => ?_, fun hm => ?_⟩
      · rw [hs _ rfl]; exact ih.1 fun hm => hn (.tail _ hm)
      · have hm2 : k ∈ pl := by
          rcases List.mem_cons.1 hm with e | e
          · exact absurd e hk
          · exact e
        obtain ⟨j, h1, h2⟩ := ih.2 hm2
        refine ⟨j + 1, by simpa using h1, ?_⟩
        rw [hs _ rfl, h2, show i + 1 + j = i + (j + 1) by omega]
theorem um2 : Try.prog.underlying 46 = some (.map 3 3) := by kernel_rfl
set_option maxRecDepth 100000 in
theorem lk_yes {w : World} {m : Nat} {pl : List Int} {k : Int} (h : MP w m pl) (hk : k ∈ pl) : ∃ j : Nat, pl[j]? = some k ∧ (Instr.lookup 46 (.map (some m)) (.int .i64 k) true).run Try.prog w = .ok (.tuple #[.int .i64 j, .bool true]) w := by
  obtain ⟨es, c, h1, h2, h3⟩ := h
  obtain ⟨j, hj, hf⟩ := (find_pl (k := k) pl es.toList 0 (by simpa using h2) (fun j a ha => by simpa using h3 j a ha)).2 hk
  refine ⟨j, hj, ?_⟩
  simp only [Nat.zero_add] at hf
  simp [Instr.lookup, run_underlying um2, MapKept.run_getObj_map h1, MapKept.run_checkKey ui (iskey k), MapKept.run_findKey ui hf, Result.andThen]
set_option maxRecDepth 100000 in
theorem lk_no {w : World} {m : Nat} {pl : List Int} {k : Int} (h : MP w m pl) (hk : k ∉ pl) : (Instr.lookup 46 (.map (some m)) (.int .i64 k) true).run Try.prog w = .ok (.tuple #[.int .i64 0, .bool false]) w := by
  obtain ⟨es, c, h1, h2, h3⟩ := h
  have hf := (find_pl (k := k) pl es.toList 0 (by simpa using h2) (fun j a ha => by simpa using h3 j a ha)).1 hk
  have hz : (zeroValue 3).run Try.prog w = .ok (.int .i64 0) w := by go_simp
  simp [Instr.lookup, run_underlying um2, MapKept.run_getObj_map h1, MapKept.run_checkKey ui (iskey k), MapKept.run_findKey ui hf, hz, Result.andThen]
theorem ml {w : World} {m : Nat} {pl : List Int} {ty : TypeId} (h : MP w m pl) : (Builtin.len_ #[46] ty #[.map (some m)]).run Try.prog w = .ok (.int .i64 pl.length) w := by
  obtain ⟨es, c, h1, h2, h3⟩ := h
  simp [Builtin.len_, run_underlying um2, MapKept.run_getObj_map h1, h2, goInt]
set_option maxRecDepth 100000 in
theorem mput {w : World} {m : Nat} {pl : List Int} {k : Int} (h : MP w m pl) (hk : k ∉ pl) : ∃ w', (Instr.mapUpdate 46 (.map (some m)) (.int .i64 k) (.int .i64 pl.length)).run Try.prog w = .ok () w' ∧ PutAt m w w' ∧ MP w' m (pl ++ [k]) := by
  obtain ⟨es, c, h1, h2, h3⟩ := h
  have hlt := lt_of_heap h1
  have hf := (find_pl (k := k) pl es.toList 0 (by simpa using h2) (fun j a ha => by simpa using h3 j a ha)).1 hk
  obtain ⟨hp, ho⟩ := put_obj (w := w) (.map (es.push ⟨.int .i64 k, .int .i64 pl.length, c⟩) (c + 1)) hlt
  refine ⟨_, by simp only [Instr.mapUpdate, Sem.run_bind, run_underlying um2, MapKept.run_getObj_map h1, MapKept.run_checkKey ui (iskey k), MapKept.run_findKey ui hf, MapKept.run_setObj_map _ h1, Result.andThen], hp, _, _, ho, by simp [h2], fun j a ha => ?_⟩
  rw [Array.toList_push]
  by_cases hj : j < pl.length
  · rw [List.getElem?_append_left hj] at ha
    obtain ⟨born, hb⟩ := h3 j a ha
    exact ⟨born, by rw [List.getElem?_append_left (by simpa [h2] using hj)]; exact hb⟩
  · have hl := (List.getElem?_eq_some_iff.1 ha).1
    simp only [List.length_append, List.length_singleton] at hl
    have e : j = pl.length := by omega
    subst e
    simp only [List.getElem?_concat_length, Option.some.injEq] at ha
    subst ha
    refine ⟨c, ?_⟩
    rw [show pl.length = es.toList.length by simp [h2]]
    simp
end Go.Proofs.Ytmkkhpoedlbafaa

namespace Go.Proofs.Ytmkkhpoedlbafaa
open Go Go.RowKit

/-- Where things lie. -/
structure Mv where
  m : Nat
  vC : Value
  vW : Value
  vT : Value
  vL : Value
  lv : List Value
  wv : List Value
def ccells : List Value → List (List Nat × Nat) → List Value
  | v :: lv, c :: cs => v :: nv c.2 :: ccells lv cs
  | _, _ => []
def i8 (z : Int) : Value := .int .i8 z
structure Ck (w0 w : World) (B r : Nat) (ρ : Nat → Nat × Nat) (q : Mv) (k : KS) (tr : List Int) : Prop where
  blk : w.heap[r]? = some (.cells #[.map (some q.m), q.vC, q.vW, q.vT, q.vL, .int .i64 k.head, .bool k.empty, .bool k.refuted] 50 (0, 0))
  rB : B ≤ r
  rr : ρ r = (0, 0)
  mp : MP w q.m k.pl
  mB : B ≤ q.m
  mr : ρ q.m = (1, 0)
  rc : Rw w B ρ (2, 0) 57 2 q.vC k.cs.length (ccells q.lv k.cs)
  ll : q.lv.length = k.cs.length
  rl : ∀ (i : Nat) v c, q.lv[i]? = some v → k.cs[i]? = some c → Rw w B ρ (6, i) 3 1 v c.1.length (c.1.map nv)
  rw_ : Rw w B ρ (3, 0) 23 1 q.vW k.ws.length q.wv
  rx : ∀ (x : Nat) v l, q.wv[x]? = some v → k.ws[x]? = some l → Rw w B ρ (7, x) 3 1 v l.length (l.map nv)
  rt : Rw w B ρ (4, 0) 51 1 q.vT tr.length (tr.map i8)
  rT : Rw w B ρ (5, 0) 3 1 q.vL k.trail.length (k.trail.map nv)
  bl : Below B w0 w
theorem ccells_length : ∀ (lv : List Value) (cs : List (List Nat × Nat)), lv.length = cs.length → (ccells lv cs).length = 2 * cs.length
  | [], [], _ => rfl
  | _ :: lv, _ :: cs, h => by simp [ccells, ccells_length lv cs (by simpa using h)]; omega
  | [], _ :: _, h => by simp at h
  | _ :: _, [], h => by simp at h
theorem ccells_get : ∀ (lv : List Value) (cs : List (List Nat × Nat)), lv.length = cs.length → ∀ (i : Nat) v c, lv[i]? = some v → cs[i]? = some c → (ccells lv cs)[i * 2]? = some v ∧ (ccells lv cs)[i * 2 + 1]? = some (nv c.2)
  | [], [], _, i, v, c, h, _ => by simp at h
  | a :: lv, b :: cs, h, 0, v, c, h1, h2 => by
    simp only [List.getElem?_cons_zero, Option.some.injEq] at h1 h2
    subst h1 h2
    simp [ccells]
  | a :: lv, b :: cs, h, i + 1, v, c, h1, h2 => by
    simp only [List.getElem?_cons_succ] at h1 h2
    have := ccells_get lv cs (by simpa using h) i v c h1 h2
    rw [show (i + 1) * 2 = i * 2 + 1 + 1 by omega]
    simpa [ccells] using this
  | [], _ :: _, h, _, _, _, _, _ => by simp at h
  | _ :: _, [], h, _, _, _, _, _ => by simp at h
theorem ccells_set : ∀ (lv : List Value) (cs : List (List Nat × Nat)) (i : Nat) (c : List Nat) (m : Nat), lv.length = cs.length → (ccells lv cs).set (i * 2 + 1) (nv m) = ccells lv (cs.set i (c, m))
  | [], [], i, c, m, _ => by simp [ccells]
  | a :: lv, b :: cs, 0, c, m, h => by simp [ccells]
  | a :: lv, b :: cs, i + 1, c, m, h => by
    rw [show (i + 1) * 2 + 1 = (i * 2 + 1) + 1 + 1 by omega]
    simp only [ccells, List.set_cons_succ]
    rw [ccells_set lv cs i c m (by simpa using h)]
  | [], _ :: _, _, _, _, h => by simp at h
  | _ :: _, [], _, _, _, h => by simp at h
theorem ccells_same : ∀ (lv : List Value) (cs : List (List Nat × Nat)) (i : Nat) (c c' : List Nat) (m : Nat), cs[i]? = some (c, m) → ccells lv (cs.set i (c', m)) = ccells lv cs
  | [], cs, i, c, c', m, _ => by cases h : cs.set i (c', m) <;> cases cs <;> rfl
  | a :: lv, [], i, c, c', m, h => by simp at h
  | a :: lv, b :: cs, 0, c, c', m, h => by
    simp only [List.getElem?_cons_zero, Option.some.injEq] at h
    subst h
    simp [ccells]
  | a :: lv, b :: cs, i + 1, c, c', m, h => by
    simp only [List.getElem?_cons_succ] at h
    simp only [List.set_cons_succ, ccells]
    rw [ccells_same lv cs i c c' m h]
theorem ccells_push : ∀ (lv : List Value) (cs : List (List Nat × Nat)) (v : Value) (c : List Nat × Nat), lv.length = cs.length → ccells (lv ++ [v]) (cs ++ [c]) = ccells lv cs ++ [v, nv c.2]
  | [], [], v, c, _ => rfl
  | a :: lv, b :: cs, v, c, h => by
    simp only [List.cons_append, ccells]
    rw [ccells_push lv cs v c (by simpa using h)]
  | [], _ :: _, _, _, h => by simp at h
  | _ :: _, [], _, _, h => by simp at h
section
variable {w0 w w2 : World} {B r : Nat} {ρ ρ2 : Nat → Nat × Nat} {q : Mv} {k : KS} {tr : List Int}
/-- What bears another mark stays. -/
theorem Rw.carry (X : Nat × Nat → Prop) (hs : ∀ g, g < w.heap.size → ¬ X (ρ g) → w2.heap[g]? = w.heap[g]? ∧ ρ2 g = ρ g) {role : Nat × Nat} {e : TypeId} {s n : Nat} {v : Value} {xs : List Value} (h : Rw w B ρ role e s v n xs) (hx : ¬ X role) : Rw w2 B ρ2 role e s v n xs :=
  h.step fun g hg hr => by
    have := hs g hg (by rw [hr]; exact hx)
    exact ⟨this.1, this.2.trans hr⟩
theorem Ck.lt (h : Ck w0 w B r ρ q k tr) : r < w.heap.size := lt_of_heap h.blk
theorem Ck.size (h : Ck w0 w B r ρ q k tr) : B ≤ w.heap.size := Nat.le_trans h.rB (Nat.le_of_lt h.lt)
theorem Ck.wvl (h : Ck w0 w B r ρ q k tr) : q.wv.length = k.ws.length := by have := h.rw_.1.1; omega
theorem Ck.same (h : Ck w0 w B r ρ q k tr) (hs : ∀ g, g < w.heap.size → w2.heap[g]? = w.heap[g]?) (hb : Below B w w2) : Ck w0 w2 B r ρ q k tr := by
  have hs' : ∀ g, g < w.heap.size → ¬ False → w2.heap[g]? = w.heap[g]? ∧ ρ g = ρ g := fun g hg _ => ⟨hs g hg, rfl⟩
  have c := @Rw.carry w w2 B ρ ρ (fun _ => False) hs'
  exact ⟨(hs r h.lt).trans h.blk, h.rB, h.rr, h.mp.step (hs _ h.mp.lt), h.mB, h.mr, c h.rc id, h.ll, fun i v d h1 h2 => c (h.rl i v d h1 h2) id, c h.rw_ id, fun x v l h1 h2 => c (h.rx x v l h1 h2) id, c h.rt id, c h.rT id, h.bl.trans hb⟩
theorem Ck.alloc (h : Ck w0 w B r ρ q k tr) (o : Obj) : Ck w0 (w.alloc o) B r ρ q k tr := h.same (fun g hg => Below.heap_alloc w o g hg) ((Below.refl B w).alloc h.size o)
theorem Ck.drew (h : Ck w0 w B r ρ q k tr) : Ck w0 w.drew B r ρ q k tr := h.same (fun _ _ => rfl) (Below.refl B w).drew
/-- A store into one block, of this mark. -/
theorem frame_set {p : Addr} {u : Value} {role : Nat × Nat} (hp : ρ p.block = role) : ∀ g, g < w.heap.size → ¬ (ρ g = role) → (w.setCell p u).heap[g]? = w.heap[g]? ∧ ρ g = ρ g := fun g _ hr => ⟨Below.heap_setCell w p u g fun e => hr (by rw [e]; exact hp), rfl⟩
theorem Ck.setHead (h : Ck w0 w B r ρ q k tr) (hd : Nat) : Ck w0 (w.setCell ⟨r, 5, none⟩ (.int .i64 hd)) B r ρ q { k with head := hd } tr := by
  have c := @Rw.carry w _ B ρ ρ (fun x => x = (0, 0)) (frame_set (w := w) (p := ⟨r, 5, none⟩) (u := .int .i64 hd) h.rr)
  exact ⟨heap_setCell_same w r 5 _ _ _ h.blk, h.rB, h.rr, h.mp.step (Below.heap_setCell w _ _ _ fun e => by have := h.mr; rw [show q.m = r from e, h.rr] at this; cases this), h.mB, h.mr, c h.rc (by simp), h.ll, fun i v d h1 h2 => c (h.rl i v d h1 h2) (by simp), c h.rw_ (by simp), fun x v l h1 h2 => c (h.rx x v l h1 h2) (by simp), c h.rt (by simp), c h.rT (by simp), h.bl.setCell h.rB _⟩
theorem Ck.setEmpty (h : Ck w0 w B r ρ q k tr) (b : Bool) : Ck w0 (w.setCell ⟨r, 6, none⟩ (.bool b)) B r ρ q { k with empty := b } tr := by
  have c := @Rw.carry w _ B ρ ρ (fun x => x = (0, 0)) (frame_set (w := w) (p := ⟨r, 6, none⟩) (u := .bool b) h.rr)
  exact ⟨heap_setCell_same w r 6 _ _ _ h.blk, h.rB, h.rr, h.mp.step (Below.heap_setCell w _ _ _ fun e => by have := h.mr; rw [show q.m = r from e, h.rr] at this; cases this), h.mB, h.mr, c h.rc (by simp), h.ll, fun i v d h1 h2 => c (h.rl i v d h1 h2) (by simp), c h.rw_ (by simp), fun x v l h1 h2 => c (h.rx x v l h1 h2) (by simp), c h.rt (by simp), c h.rT (by simp), h.bl.setCell h.rB _⟩
theorem Ck.setRefuted (h : Ck w0 w B r ρ q k tr) (b : Bool) : Ck w0 (w.setCell ⟨r, 7, none⟩ (.bool b)) B r ρ q { k with refuted := b } tr := by
  have c := @Rw.carry w _ B ρ ρ (fun x => x = (0, 0)) (frame_set (w := w) (p := ⟨r, 7, none⟩) (u := .bool b) h.rr)
  exact ⟨heap_setCell_same w r 7 _ _ _ h.blk, h.rB, h.rr, h.mp.step (Below.heap_setCell w _ _ _ fun e => by have := h.mr; rw [show q.m = r from e, h.rr] at this; cases this), h.mB, h.mr, c h.rc (by simp), h.ll, fun i v d h1 h2 => c (h.rl i v d h1 h2) (by simp), c h.rw_ (by simp), fun x v l h1 h2 => c (h.rx x v l h1 h2) (by simp), c h.rt (by simp), c h.rT (by simp), h.bl.setCell h.rB _⟩
theorem Ck.ne (h : Ck w0 w B r ρ q k tr) {g : Nat} {role : Nat × Nat} (hg : ρ g = role) (h0 : role ≠ (0, 0)) (h1 : role ≠ (1, 0)) : r ≠ g ∧ q.m ≠ g :=
  ⟨fun e => h0 (by rw [← hg, ← e]; exact h.rr), fun e => h1 (by rw [← hg, ← e]; exact h.mr)⟩
theorem Ck.setTruth (h : Ck w0 w B r ρ q k tr) {g n cap : Nat} (hv : q.vT = .slice (some ⟨g, 0, none⟩) n cap) (hn : n = tr.length) (j : Nat) (z : Int) : Ck w0 (w.setCell ⟨g, j, none⟩ (.int .i8 z)) B r ρ q k (tr.set j z) := by
  subst hn
  have hrt := h.rt
  rw [hv] at hrt
  have hg : ρ g = (4, 0) := hrt.2 g rfl
  have hB : B ≤ g := by
    obtain ⟨hb, _⟩ := hrt.1.lt g rfl
    exact hb
  obtain ⟨n1, n2⟩ := h.ne hg (by simp) (by simp)
  have c := @Rw.carry w _ B ρ ρ (fun x => x = (4, 0)) (frame_set (w := w) (p := ⟨g, j, none⟩) (u := .int .i8 z) hg)
  have hnew := hrt.set j (.int .i8 z)
  rw [← hv] at hnew
  exact ⟨(Below.heap_setCell w _ _ _ n1).trans h.blk, h.rB, h.rr, h.mp.step (Below.heap_setCell w _ _ _ n2), h.mB, h.mr, c h.rc (by simp), h.ll, fun i v d h1 h2 => c (h.rl i v d h1 h2) (by simp), c h.rw_ (by simp), fun x v l h1 h2 => c (h.rx x v l h1 h2) (by simp), by rw [List.length_set, List.map_set]; exact hnew, c h.rT (by simp), h.bl.setCell hB _⟩
theorem Ck.setLit (h : Ck w0 w B r ρ q k tr) {i g n cap m : Nat} {c : List Nat} (hc : k.cs[i]? = some (c, m)) (hl : q.lv[i]? = some (.slice (some ⟨g, 0, none⟩) n cap)) (hn : n = c.length) (j y : Nat) : Ck w0 (w.setCell ⟨g, j, none⟩ (.int .i64 y)) B r ρ q { k with cs := k.cs.set i (c.set j y, m) } tr := by
  subst hn
  have hi := (List.getElem?_eq_some_iff.1 hc).1
  have hrt := h.rl i _ _ hl hc
  have hg : ρ g = (6, i) := hrt.2 g rfl
  have hB : B ≤ g := (hrt.1.lt g rfl).1
  obtain ⟨n1, n2⟩ := h.ne hg (by simp) (by simp)
  have c' := @Rw.carry w _ B ρ ρ (fun x => x = (6, i)) (frame_set (w := w) (p := ⟨g, j, none⟩) (u := .int .i64 y) hg)
  have hnew := hrt.set j (.int .i64 y)
  refine ⟨(Below.heap_setCell w _ _ _ n1).trans h.blk, h.rB, h.rr, h.mp.step (Below.heap_setCell w _ _ _ n2), h.mB, h.mr, ?_, by simpa using h.ll, fun i2 v d h1 h2 => ?_, c' h.rw_ (by simp), fun x v l h1 h2 => c' (h.rx x v l h1 h2) (by simp), c' h.rt (by simp), c' h.rT (by simp), h.bl.setCell hB _⟩
  · have := c' h.rc (by simp)
    simp only [List.length_set]
    rw [ccells_same q.lv k.cs i c (c.set j y) m hc]
    exact this
  · simp only [get_set k.cs hi] at h2
    split at h2
    · rename_i e
      subst e
      cases h2
      rw [hl] at h1
      cases h1
      simp only [List.length_set, List.map_set]
      exact hnew
    · rename_i e
      exact c' (h.rl i2 v d h1 h2) (by simp; exact fun e2 => e e2.symm)
theorem Ck.setNext (h : Ck w0 w B r ρ q k tr) {i g n cap m : Nat} {c : List Nat} (hc : k.cs[i]? = some (c, m)) (hv : q.vC = .slice (some ⟨g, 0, none⟩) n cap) (hn : n = k.cs.length) (m' : Nat) : Ck w0 (w.setCell ⟨g, i * 2 + 1, none⟩ (.int .i64 m')) B r ρ q { k with cs := k.cs.set i (c, m') } tr := by
  subst hn
  have hi := (List.getElem?_eq_some_iff.1 hc).1
  have hrt := h.rc
  rw [hv] at hrt
  have hg : ρ g = (2, 0) := hrt.2 g rfl
  have hB : B ≤ g := (hrt.1.lt g rfl).1
  obtain ⟨n1, n2⟩ := h.ne hg (by simp) (by simp)
  have c' := @Rw.carry w _ B ρ ρ (fun x => x = (2, 0)) (frame_set (w := w) (p := ⟨g, i * 2 + 1, none⟩) (u := .int .i64 m') hg)
  have hnew := hrt.set (i * 2 + 1) (.int .i64 m')
  rw [← hv] at hnew
  refine ⟨(Below.heap_setCell w _ _ _ n1).trans h.blk, h.rB, h.rr, h.mp.step (Below.heap_setCell w _ _ _ n2), h.mB, h.mr, ?_, by simpa using h.ll, fun i2 v d h1 h2 => ?_, c' h.rw_ (by simp), fun x v l h1 h2 => c' (h.rx x v l h1 h2) (by simp), c' h.rt (by simp), c' h.rT (by simp), h.bl.setCell hB _⟩
  · simp only [List.length_set]
    rw [← ccells_set q.lv k.cs i c m' h.ll]
    exact hnew
  · simp only [get_set k.cs hi] at h2
    split at h2
    · rename_i e
      subst e
      cases h2
      exact c' (h.rl i v (c, m) h1 hc) (by simp)
    · exact c' (h.rl i2 v d h1 h2) (by simp)
/-- An element of a list of watches. -/
theorem Ck.setWatch (h : Ck w0 w B r ρ q k tr) {x g n cap : Nat} {l : List Nat} (hc : k.ws[x]? = some l) (hl : q.wv[x]? = some (.slice (some ⟨g, 0, none⟩) n cap)) (hn : n = l.length) (j y : Nat) : Ck w0 (w.setCell ⟨g, j, none⟩ (.int .i64 y)) B r ρ q { k with ws := k.ws.set x (l.set j y) } tr := by
  subst hn
  have hi := (List.getElem?_eq_some_iff.1 hc).1
  have hrt := h.rx x _ _ hl hc
  have hg : ρ g = (7, x) := hrt.2 g rfl
  have hB : B ≤ g := (hrt.1.lt g rfl).1
  obtain ⟨n1, n2⟩ := h.ne hg (by simp) (by simp)
  have c' := @Rw.carry w _ B ρ ρ (fun z => z = (7, x)) (frame_set (w := w) (p := ⟨g, j, none⟩) (u := .int .i64 y) hg)
  have hnew := hrt.set j (.int .i64 y)
  refine ⟨(Below.heap_setCell w _ _ _ n1).trans h.blk, h.rB, h.rr, h.mp.step (Below.heap_setCell w _ _ _ n2), h.mB, h.mr, c' h.rc (by simp), h.ll, fun i v d h1 h2 => c' (h.rl i v d h1 h2) (by simp), ?_, fun x2 v l2 h1 h2 => ?_, c' h.rt (by simp), c' h.rT (by simp), h.bl.setCell hB _⟩
  · simp only [List.length_set]
    exact c' h.rw_ (by simp)
  · simp only [get_setw k.ws hi] at h2
    split at h2
    · rename_i e
      subst e
      cases h2
      rw [hl] at h1
      cases h1
      simp only [List.length_set, List.map_set]
      exact hnew
    · rename_i e
      exact c' (h.rx x2 v l2 h1 h2) (by simp; exact fun e2 => e e2.symm)
/-- A list of watches is cut. -/
theorem Ck.cutWatch (h : Ck w0 w B r ρ q k tr) {x g n cap gW nW capW m : Nat} {l : List Nat} (hc : k.ws[x]? = some l) (hl : q.wv[x]? = some (.slice (some ⟨g, 0, none⟩) n cap)) (hn : n = l.length) (hv : q.vW = .slice (some ⟨gW, 0, none⟩) nW capW) (hnW : nW = k.ws.length) (hm : m ≤ n) : Ck w0 (w.setCell ⟨gW, x, none⟩ (.slice (some ⟨g, 0, none⟩) m cap)) B r ρ { q with wv := q.wv.set x (.slice (some ⟨g, 0, none⟩) m cap) } { k with ws := k.ws.set x (l.take m) } tr := by
  subst hn hnW
  have hi := (List.getElem?_eq_some_iff.1 hc).1
  have hrt := h.rw_
  rw [hv] at hrt
  have hg : ρ gW = (3, 0) := hrt.2 gW rfl
  have hB : B ≤ gW := (hrt.1.lt gW rfl).1
  obtain ⟨n1, n2⟩ := h.ne hg (by simp) (by simp)
  have c' := @Rw.carry w _ B ρ ρ (fun z => z = (3, 0)) (frame_set (w := w) (p := ⟨gW, x, none⟩) (u := .slice (some ⟨g, 0, none⟩) m cap) hg)
  have hnew := hrt.set x (.slice (some ⟨g, 0, none⟩) m cap)
  rw [← hv] at hnew
  refine ⟨(Below.heap_setCell w _ _ _ n1).trans h.blk, h.rB, h.rr, h.mp.step (Below.heap_setCell w _ _ _ n2), h.mB, h.mr, c' h.rc (by simp), h.ll, fun i v d h1 h2 => c' (h.rl i v d h1 h2) (by simp), ?_, fun x2 v l2 h1 h2 => ?_, c' h.rt (by simp), c' h.rT (by simp), h.bl.setCell hB _⟩
  · simp only [List.length_set]
    exact hnew
  · simp only [get_setw k.ws hi] at h2
    split at h2
    · rename_i e
      subst e
      cases h2
      have hix : x < q.wv.length := by rw [h.wvl]; exact hi
      simp only [List.getElem?_set_self hix, Option.some.injEq] at h1
      subst h1
      have := c' ((h.rx x _ _ hl hc).cut hm) (by simp)
      rw [Nat.mul_one, ← List.map_take] at this
      rw [List.length_take, Nat.min_eq_left hm]
      exact this
    · rename_i e
      simp only [List.getElem?_set_ne e] at h1
      exact c' (h.rx x2 v l2 h1 h2) (by simp)
theorem Ck.cutTrail (h : Ck w0 w B r ρ q k tr) {g n cap m : Nat} (hv : q.vL = .slice (some ⟨g, 0, none⟩) n cap) (hn : n = k.trail.length) (hm : m ≤ n) : Ck w0 (w.setCell ⟨r, 4, none⟩ (.slice (some ⟨g, 0, none⟩) m cap)) B r ρ { q with vL := .slice (some ⟨g, 0, none⟩) m cap } { k with trail := k.trail.take m } tr := by
  subst hn
  have c := @Rw.carry w _ B ρ ρ (fun x => x = (0, 0)) (frame_set (w := w) (p := ⟨r, 4, none⟩) (u := .slice (some ⟨g, 0, none⟩) m cap) h.rr)
  refine ⟨heap_setCell_same w r 4 _ _ _ h.blk, h.rB, h.rr, h.mp.step (Below.heap_setCell w _ _ _ fun e => by have := h.mr; rw [show q.m = r from e, h.rr] at this; cases this), h.mB, h.mr, c h.rc (by simp), h.ll, fun i v d h1 h2 => c (h.rl i v d h1 h2) (by simp), c h.rw_ (by simp), fun x v l h1 h2 => c (h.rx x v l h1 h2) (by simp), c h.rt (by simp), ?_, h.bl.setCell h.rB _⟩
  have hrT := h.rT
  rw [hv] at hrT
  have := c (hrT.cut hm) (by simp)
  rw [Nat.mul_one, ← List.map_take] at this
  simp only [List.length_take, Nat.min_eq_left hm]
  exact this
/-- A trail that is nil is cut at 0. -/
theorem Ck.cutTrail0 (h : Ck w0 w B r ρ q k tr) (hv : q.vL = .slice none 0 0) (hn : k.trail = []) : Ck w0 (w.setCell ⟨r, 4, none⟩ (.slice none 0 0)) B r ρ q k tr := by
  have c := @Rw.carry w _ B ρ ρ (fun x => x = (0, 0)) (frame_set (w := w) (p := ⟨r, 4, none⟩) (u := .slice none 0 0) h.rr)
  refine ⟨?_, h.rB, h.rr, h.mp.step (Below.heap_setCell w _ _ _ fun e => by have := h.mr; rw [show q.m = r from e, h.rr] at this; cases this), h.mB, h.mr, c h.rc (by simp), h.ll, fun i v d h1 h2 => c (h.rl i v d h1 h2) (by simp), c h.rw_ (by simp), fun x v l h1 h2 => c (h.rx x v l h1 h2) (by simp), c h.rt (by simp), c h.rT (by simp), h.bl.setCell h.rB _⟩
  rw [hv]
  exact heap_setCell_same w r 4 _ _ _ h.blk

/-! ### Appends -/
theorem app_frame {wa w1 : World} {v : Value} {g : Nat} {role0 : Nat × Nat} (hr : ∀ b, v.ownBlock = some b → ρ b = role0) (hg : wa.grownBy w1 v.ownBlock) (hw : v.ownBlock = some g ∨ g = wa.heap.size) : ∀ g', g' < wa.heap.size → ρ g' ≠ role0 → w1.heap[g']? = wa.heap[g']? ∧ upd ρ g role0 g' = ρ g' := by
  intro g' h1 h2
  refine ⟨hg.block g' h1 fun e => h2 (hr g' e.symm), upd_other fun e => ?_⟩
  rcases hw with hw | hw
  · exact h2 (by rw [e]; exact hr g hw)
  · omega
theorem Below.app {wa w1 : World} {v : Value} (hb : Below B w0 wa) (hB : B ≤ wa.heap.size) (hl : ∀ b, v.ownBlock = some b → B ≤ b) (hg : wa.grownBy w1 v.ownBlock) : Below B w0 w1 := hb.grown hg hB hl
theorem Ck.pushTrail (h : Ck w0 w B r ρ q k tr) {w1 : World} {g cap y : Nat} (ho : w1.ownsRow B 3 1 (.slice (some ⟨g, 0, none⟩) (k.trail.length + 1) cap) (k.trail.length + 1) (k.trail.map nv ++ [.int .i64 y])) (hg : w.grownBy w1 q.vL.ownBlock) (hw : q.vL.ownBlock = some g ∨ g = w.heap.size) : Ck w0 (w1.setCell ⟨r, 4, none⟩ (.slice (some ⟨g, 0, none⟩) (k.trail.length + 1) cap)) B r (upd ρ g (5, 0)) { q with vL := .slice (some ⟨g, 0, none⟩) (k.trail.length + 1) cap } { k with trail := k.trail ++ [y] } tr := by
  have hf := app_frame (ρ := ρ) h.rT.2 hg hw
  have hrg : r ≠ g := fun e => by
    rcases hw with hw | hw
    · have := h.rT.2 g hw; rw [← e, h.rr] at this; cases this
    · have := h.lt; omega
  have hfr := hf r h.lt (by rw [h.rr]; simp)
  have hfm := hf q.m h.mp.lt (by rw [h.mr]; simp)
  have hrm : q.m ≠ r := fun e => by have := h.mr; rw [e, h.rr] at this; cases this
  have hs : ∀ g', g' < w.heap.size → ¬ (ρ g' = (5, 0) ∨ ρ g' = (0, 0)) → (w1.setCell ⟨r, 4, none⟩ (.slice (some ⟨g, 0, none⟩) (k.trail.length + 1) cap)).heap[g']? = w.heap[g']? ∧ upd ρ g (5, 0) g' = ρ g' := fun g' h1 h2 => by
    have := hf g' h1 fun e => h2 (.inl e)
    exact ⟨(Below.heap_setCell w1 _ _ _ fun e => h2 (.inr (by rw [show g' = r from e]; exact h.rr))).trans this.1, this.2⟩
  have c := @Rw.carry w _ B ρ (upd ρ g (5, 0)) (fun x => x = (5, 0) ∨ x = (0, 0)) hs
  refine ⟨heap_setCell_same w1 r 4 _ _ _ (hfr.1.trans h.blk), h.rB, hfr.2.trans h.rr, h.mp.step ((Below.heap_setCell w1 _ _ _ hrm).trans hfm.1), h.mB, hfm.2.trans h.mr, c h.rc (by simp), h.ll, fun i v d h1 h2 => c (h.rl i v d h1 h2) (by simp), c h.rw_ (by simp), fun x v l h1 h2 => c (h.rx x v l h1 h2) (by simp), c h.rt (by simp), ?_, (Below.app h.bl h.size (fun b hb => (h.rT.1.lt b hb).1) hg).setCell h.rB _⟩
  simp only [List.length_append, List.length_singleton, List.map_append, List.map_cons, List.map_nil]
  exact ⟨ownsRow_setCell_other ho (fun e => hrg (by cases e; rfl)) _, fun g' hg' => by cases hg'; exact upd_same _ _ _⟩
theorem Ck.pushTruth (h : Ck w0 w B r ρ q k tr) {w1 : World} {g cap : Nat} {zs : List Int} (ho : w1.ownsRow B 51 1 (.slice (some ⟨g, 0, none⟩) (tr.length + zs.length) cap) (tr.length + zs.length) (tr.map i8 ++ zs.map i8)) (hg : w.grownBy w1 q.vT.ownBlock) (hw : q.vT.ownBlock = some g ∨ g = w.heap.size) : Ck w0 (w1.setCell ⟨r, 3, none⟩ (.slice (some ⟨g, 0, none⟩) (tr.length + zs.length) cap)) B r (upd ρ g (4, 0)) { q with vT := .slice (some ⟨g, 0, none⟩) (tr.length + zs.length) cap } k (tr ++ zs) := by
  have hf := app_frame (ρ := ρ) h.rt.2 hg hw
  have hrg : r ≠ g := fun e => by
    rcases hw with hw | hw
    · have := h.rt.2 g hw; rw [← e, h.rr] at this; cases this
    · have := h.lt; omega
  have hfr := hf r h.lt (by rw [h.rr]; simp)
  have hfm := hf q.m h.mp.lt (by rw [h.mr]; simp)
  have hrm : q.m ≠ r := fun e => by have := h.mr; rw [e, h.rr] at this; cases this
  have hs : ∀ g', g' < w.heap.size → ¬ (ρ g' = (4, 0) ∨ ρ g' = (0, 0)) → (w1.setCell ⟨r, 3, none⟩ (.slice (some ⟨g, 0, none⟩) (tr.length + zs.length) cap)).heap[g']? = w.heap[g']? ∧ upd ρ g (4, 0) g' = ρ g' := fun g' h1 h2 => by
    have := hf g' h1 fun e => h2 (.inl e)
    exact ⟨(Below.heap_setCell w1 _ _ _ fun e => h2 (.inr (by rw [show g' = r from e]; exact h.rr))).trans this.1, this.2⟩
  have c := @Rw.carry w _ B ρ (upd ρ g (4, 0)) (fun x => x = (4, 0) ∨ x = (0, 0)) hs
  refine ⟨heap_setCell_same w1 r 3 _ _ _ (hfr.1.trans h.blk), h.rB, hfr.2.trans h.rr, h.mp.step ((Below.heap_setCell w1 _ _ _ hrm).trans hfm.1), h.mB, hfm.2.trans h.mr, c h.rc (by simp), h.ll, fun i v d h1 h2 => c (h.rl i v d h1 h2) (by simp), c h.rw_ (by simp), fun x v l h1 h2 => c (h.rx x v l h1 h2) (by simp), ?_, c h.rT (by simp), (Below.app h.bl h.size (fun b hb => (h.rt.1.lt b hb).1) hg).setCell h.rB _⟩
  simp only [List.length_append, List.map_append]
  exact ⟨ownsRow_setCell_other ho (fun e => hrg (by cases e; rfl)) _, fun g' hg' => by cases hg'; exact upd_same _ _ _⟩
/-- Two more lists of watches, nil. -/
theorem Ck.pushNils (h : Ck w0 w B r ρ q k tr) {w1 : World} {g cap : Nat} (ho : w1.ownsRow B 23 1 (.slice (some ⟨g, 0, none⟩) (k.ws.length + 2) cap) (k.ws.length + 2) (q.wv ++ [.slice none 0 0, .slice none 0 0])) (hg : w.grownBy w1 q.vW.ownBlock) (hw : q.vW.ownBlock = some g ∨ g = w.heap.size) : Ck w0 (w1.setCell ⟨r, 2, none⟩ (.slice (some ⟨g, 0, none⟩) (k.ws.length + 2) cap)) B r (upd ρ g (3, 0)) { q with vW := .slice (some ⟨g, 0, none⟩) (k.ws.length + 2) cap, wv := q.wv ++ [.slice none 0 0, .slice none 0 0] } { k with ws := k.ws ++ [[], []] } tr := by
  have hf := app_frame (ρ := ρ) h.rw_.2 hg hw
  have hrg : r ≠ g := fun e => by
    rcases hw with hw | hw
    · have := h.rw_.2 g hw; rw [← e, h.rr] at this; cases this
    · have := h.lt; omega
  have hfr := hf r h.lt (by rw [h.rr]; simp)
  have hfm := hf q.m h.mp.lt (by rw [h.mr]; simp)
  have hrm : q.m ≠ r := fun e => by have := h.mr; rw [e, h.rr] at this; cases this
  have hs : ∀ g', g' < w.heap.size → ¬ (ρ g' = (3, 0) ∨ ρ g' = (0, 0)) → (w1.setCell ⟨r, 2, none⟩ (.slice (some ⟨g, 0, none⟩) (k.ws.length + 2) cap)).heap[g']? = w.heap[g']? ∧ upd ρ g (3, 0) g' = ρ g' := fun g' h1 h2 => by
    have := hf g' h1 fun e => h2 (.inl e)
    exact ⟨(Below.heap_setCell w1 _ _ _ fun e => h2 (.inr (by rw [show g' = r from e]; exact h.rr))).trans this.1, this.2⟩
  have c := @Rw.carry w _ B ρ (upd ρ g (3, 0)) (fun x => x = (3, 0) ∨ x = (0, 0)) hs
  refine ⟨heap_setCell_same w1 r 2 _ _ _ (hfr.1.trans h.blk), h.rB, hfr.2.trans h.rr, h.mp.step ((Below.heap_setCell w1 _ _ _ hrm).trans hfm.1), h.mB, hfm.2.trans h.mr, c h.rc (by simp), h.ll, fun i v d h1 h2 => c (h.rl i v d h1 h2) (by simp), ?_, fun x v l h1 h2 => ?_, c h.rt (by simp), c h.rT (by simp), (Below.app h.bl h.size (fun b hb => (h.rw_.1.lt b hb).1) hg).setCell h.rB _⟩
  · simp only [List.length_append, List.length_cons, List.length_nil]
    exact ⟨ownsRow_setCell_other ho (fun e => hrg (by cases e; rfl)) _, fun g' hg' => by cases hg'; exact upd_same _ _ _⟩
  · have hwl := h.wvl
    by_cases e : x < k.ws.length
    · rw [List.getElem?_append_left (by omega)] at h1 h2
      exact c (h.rx x v l h1 h2) (by simp)
    · have hlt := (List.getElem?_eq_some_iff.1 h2).1
      simp only [List.length_append, List.length_cons, List.length_nil] at hlt
      rw [List.getElem?_append_right (by omega)] at h1 h2
      rw [hwl] at h1
      have : x - k.ws.length = 0 ∨ x - k.ws.length = 1 := by omega
      rcases this with e | e <;> rw [e] at h1 h2 <;> simp at h1 h2 <;> subst h1 h2 <;> exact ⟨⟨rfl, .inl ⟨rfl, rfl⟩⟩, fun g hg => by cases hg⟩
/-- One more clause to be looked at when y comes to be false. -/
theorem Ck.pushWatch (h : Ck w0 w B r ρ q k tr) {w1 : World} {g cap gW nW capW y at_ : Nat} {v : Value} {l : List Nat} (hc : k.ws[y]? = some l) (hl : q.wv[y]? = some v) (hv : q.vW = .slice (some ⟨gW, 0, none⟩) nW capW) (hnW : nW = k.ws.length) (ho : w1.ownsRow B 3 1 (.slice (some ⟨g, 0, none⟩) (l.length + 1) cap) (l.length + 1) (l.map nv ++ [.int .i64 at_])) (hg : w.grownBy w1 v.ownBlock) (hw : v.ownBlock = some g ∨ g = w.heap.size) :
    Ck w0 (w1.setCell ⟨gW, y, none⟩ (.slice (some ⟨g, 0, none⟩) (l.length + 1) cap)) B r (upd ρ g (7, y)) { q with wv := q.wv.set y (.slice (some ⟨g, 0, none⟩) (l.length + 1) cap) } { k with ws := k.ws.set y (l ++ [at_]) } tr := by
  subst hnW
  have hi := (List.getElem?_eq_some_iff.1 hc).1
  have hrow := h.rx y v l hl hc
  have hf := app_frame (ρ := ρ) hrow.2 hg hw
  have hrt := h.rw_
  rw [hv] at hrt
  have hgW : ρ gW = (3, 0) := hrt.2 gW rfl
  obtain ⟨hBW, hltW⟩ := hrt.1.lt gW rfl
  have hWg : gW ≠ g := fun e => by
    rcases hw with hw | hw
    · have := hrow.2 g hw; rw [← e, hgW] at this; cases this
    · omega
  obtain ⟨n1, n2⟩ := h.ne hgW (by simp) (by simp)
  have hfr := hf r h.lt (by rw [h.rr]; simp)
  have hfm := hf q.m h.mp.lt (by rw [h.mr]; simp)
  have hfW := hf gW hltW (by rw [hgW]; simp)
  have hs : ∀ g', g' < w.heap.size → ¬ (ρ g' = (7, y) ∨ ρ g' = (3, 0)) → (w1.setCell ⟨gW, y, none⟩ (.slice (some ⟨g, 0, none⟩) (l.length + 1) cap)).heap[g']? = w.heap[g']? ∧ upd ρ g (7, y) g' = ρ g' := fun g' h1 h2 => by
    have := hf g' h1 fun e => h2 (.inl e)
    exact ⟨(Below.heap_setCell w1 _ _ _ fun e => h2 (.inr (by rw [show g' = gW from e]; exact hgW))).trans this.1, this.2⟩
  have c := @Rw.carry w _ B ρ (upd ρ g (7, y)) (fun x => x = (7, y) ∨ x = (3, 0)) hs
  have hrt1 : Rw w1 B (upd ρ g (7, y)) (3, 0) 23 1 (.slice (some ⟨gW, 0, none⟩) k.ws.length capW) k.ws.length q.wv := Rw.carry (fun x => x = (7, y)) hf hrt (by simp)
  have hnew := hrt1.set y (.slice (some ⟨g, 0, none⟩) (l.length + 1) cap)
  rw [← hv] at hnew
  refine ⟨(Below.heap_setCell w1 _ _ _ n1).trans (hfr.1.trans h.blk), h.rB, hfr.2.trans h.rr, h.mp.step ((Below.heap_setCell w1 _ _ _ n2).trans hfm.1), h.mB, hfm.2.trans h.mr, c h.rc (by simp), h.ll, fun i v d h1 h2 => c (h.rl i v d h1 h2) (by simp), ?_, fun x2 v2 l2 h1 h2 => ?_, c h.rt (by simp), c h.rT (by simp), (Below.app h.bl h.size (fun b hb => (hrow.1.lt b hb).1) hg).setCell hBW _⟩
  · simp only [List.length_set]
    exact hnew
  · simp only [get_setw k.ws hi] at h2
    split at h2
    · rename_i e
      subst e
      cases h2
      have hix : y < q.wv.length := by rw [h.wvl]; exact hi
      simp only [List.getElem?_set_self hix, Option.some.injEq] at h1
      subst h1
      simp only [List.length_append, List.length_singleton, List.map_append, List.map_cons, List.map_nil]
      exact ⟨ownsRow_setCell_other ho (fun e => hWg (by cases e; rfl)) _, fun g' hg' => by cases hg'; exact upd_same _ _ _⟩
    · rename_i e
      simp only [List.getElem?_set_ne e] at h1
      exact c (h.rx x2 v2 l2 h1 h2) (by simp; exact fun e2 => e e2.symm)
/-- One more clause. -/
theorem Ck.pushClause (h : Ck w0 w B r ρ q k tr) {w1 : World} {g cap gl : Nat} {v : Value} {c : List Nat} (ho : w1.ownsRow B 57 2 (.slice (some ⟨g, 0, none⟩) (k.cs.length + 1) cap) (k.cs.length + 1) (ccells q.lv k.cs ++ [v, .int .i64 2])) (hg : w.grownBy w1 q.vC.ownBlock) (hw : q.vC.ownBlock = some g ∨ g = w.heap.size) (hvl : v.ownBlock = some gl) (hlow : w.ownsRow B 3 1 v c.length (c.map nv)) (hρ : ρ gl = (9, 9)) :
    Ck w0 (w1.setCell ⟨r, 1, none⟩ (.slice (some ⟨g, 0, none⟩) (k.cs.length + 1) cap)) B r (upd (upd ρ g (2, 0)) gl (6, k.cs.length)) { q with vC := .slice (some ⟨g, 0, none⟩) (k.cs.length + 1) cap, lv := q.lv ++ [v] } { k with cs := k.cs ++ [(c, 2)] } tr := by
  have hf := app_frame (ρ := ρ) h.rc.2 hg hw
  have hrg : r ≠ g := fun e => by
    rcases hw with hw | hw
    · have := h.rc.2 g hw; rw [← e, h.rr] at this; cases this
    · have := h.lt; omega
  have hgll := (hlow.lt gl hvl).2
  have hglg : gl ≠ g := fun e => by
    rcases hw with hw | hw
    · have := h.rc.2 g hw; rw [← e, hρ] at this; cases this
    · omega
  have hfr := hf r h.lt (by rw [h.rr]; simp)
  have hfm := hf q.m h.mp.lt (by rw [h.mr]; simp)
  have hfl := hf gl hgll (by rw [hρ]; simp)
  have hrm : q.m ≠ r := fun e => by have := h.mr; rw [e, h.rr] at this; cases this
  have hrl : r ≠ gl := fun e => by have := h.rr; rw [e, hρ] at this; cases this
  have hml : q.m ≠ gl := fun e => by have := h.mr; rw [e, hρ] at this; cases this
  have hs : ∀ g', g' < w.heap.size → ¬ (ρ g' = (2, 0) ∨ ρ g' = (0, 0) ∨ ρ g' = (9, 9)) → (w1.setCell ⟨r, 1, none⟩ (.slice (some ⟨g, 0, none⟩) (k.cs.length + 1) cap)).heap[g']? = w.heap[g']? ∧ upd (upd ρ g (2, 0)) gl (6, k.cs.length) g' = ρ g' := fun g' h1 h2 => by
    have := hf g' h1 fun e => h2 (.inl e)
    refine ⟨(Below.heap_setCell w1 _ _ _ fun e => h2 (.inr (.inl (by rw [show g' = r from e]; exact h.rr)))).trans this.1, (upd_other fun e => h2 (.inr (.inr (by rw [e]; exact hρ)))).trans this.2⟩
  have c' := @Rw.carry w _ B ρ (upd (upd ρ g (2, 0)) gl (6, k.cs.length)) (fun x => x = (2, 0) ∨ x = (0, 0) ∨ x = (9, 9)) hs
  refine ⟨heap_setCell_same w1 r 1 _ _ _ (hfr.1.trans h.blk), h.rB, (upd_other hrl).trans (hfr.2.trans h.rr), h.mp.step ((Below.heap_setCell w1 _ _ _ hrm).trans hfm.1), h.mB, (upd_other hml).trans (hfm.2.trans h.mr), ?_, by simp [h.ll], fun i v2 d h1 h2 => ?_, c' h.rw_ (by simp), fun x v l h1 h2 => c' (h.rx x v l h1 h2) (by simp), c' h.rt (by simp), c' h.rT (by simp), (Below.app h.bl h.size (fun b hb => (h.rc.1.lt b hb).1) hg).setCell h.rB _⟩
  · simp only [List.length_append, List.length_singleton]
    rw [ccells_push q.lv k.cs v (c, 2) h.ll]
    exact ⟨ownsRow_setCell_other ho (fun e => hrg (by cases e; rfl)) _, fun g' hg' => by cases hg'; rw [upd_other (Ne.symm hglg)]; exact upd_same _ _ _⟩
  · have hll := h.ll
    by_cases e : i < k.cs.length
    · rw [List.getElem?_append_left (by omega)] at h1 h2
      exact c' (h.rl i v2 d h1 h2) (by simp)
    · have hlt := (List.getElem?_eq_some_iff.1 h2).1
      simp only [List.length_append, List.length_singleton] at hlt
      have ei : i = k.cs.length := by omega
      subst ei
      rw [← hll] at h1
      simp only [List.getElem?_concat_length, Option.some.injEq] at h1 h2
      subst h1 h2
      refine ⟨?_, fun g' hg' => by rw [hvl] at hg'; cases hg'; exact upd_same _ _ _⟩
      have h3 := hlow.kept hg (.inr (by rw [hvl]; intro e; have := h.rc.2 gl e.symm; rw [hρ] at this; cases this))
      exact ownsRow_setCell_other h3 (by rw [hvl]; intro e; cases e; exact hrl rfl) _
/-- One more number has a place. -/
theorem Ck.pushPlace (h : Ck w0 w B r ρ q k tr) {a : Int} (hp : PutAt q.m w w2) (hm : MP w2 q.m (k.pl ++ [a])) : Ck w0 w2 B r ρ q { k with pl := k.pl ++ [a] } tr := by
  have hs : ∀ g, g < w.heap.size → ¬ (ρ g = (1, 0)) → w2.heap[g]? = w.heap[g]? ∧ ρ g = ρ g := fun g _ h2 => ⟨hp.block g fun e => h2 (by rw [e]; exact h.mr), rfl⟩
  have c := @Rw.carry w _ B ρ ρ (fun x => x = (1, 0)) hs
  exact ⟨(hp.block r fun e => by have := h.rr; rw [e, h.mr] at this; cases this).trans h.blk, h.rB, h.rr, hm, h.mB, h.mr, c h.rc (by simp), h.ll, fun i v d h1 h2 => c (h.rl i v d h1 h2) (by simp), c h.rw_ (by simp), fun x v l h1 h2 => c (h.rx x v l h1 h2) (by simp), c h.rt (by simp), c h.rT (by simp), hp.below h.bl h.mB⟩
end
end Go.Proofs.Ytmkkhpoedlbafaa
