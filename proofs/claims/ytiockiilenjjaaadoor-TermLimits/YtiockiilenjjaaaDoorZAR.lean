/- The collector: lists. -/
import Derived.Test.YtiockiilenjjaaaDoorZAQ
import Derived.Laws.AppendOwn
set_option linter.unusedVariables false
set_option linter.unusedSimpArgs false

/- Numbers of terms and of lists. -/
namespace Go.Proofs.YtiockiilenjjaaaDoor
open Go Go.RowKit
/-- A list's number: the empty one is 0. -/
def isL (LL : List (List Tm)) (l : List Tm) (j : Nat) : Prop := (j = 0 ∧ l = []) ∨ ∃ k, j = k + 1 ∧ LL[k]? = some l
theorem isL.fn {LL : List (List Tm)} {l l' : List Tm} {j : Nat} (h : isL LL l j) (h' : isL LL l' j) : l = l' := by
  rcases h with ⟨rfl, rfl⟩ | ⟨k, rfl, hk⟩
  · rcases h' with ⟨_, rfl⟩ | ⟨k, e, _⟩
    · rfl
    · omega
  · rcases h' with ⟨e, _⟩ | ⟨k', e, hk'⟩
    · omega
    · obtain rfl : k = k' := by omega
      rw [hk] at hk'
      exact Option.some.inj hk'
theorem pre_get {α : Type} {l m : List α} (h : l <+: m) {i : Nat} {x : α} (hx : l[i]? = some x) : m[i]? = some x := by
  obtain ⟨r, rfl⟩ := h
  rw [List.getElem?_append_left (List.getElem?_eq_some_iff.1 hx).1]
  exact hx
theorem isL.mono {LL LL' : List (List Tm)} {l : List Tm} {j : Nat} (h : isL LL l j) (hp : LL <+: LL') : isL LL' l j := by
  rcases h with h | ⟨k, e, hk⟩
  · exact .inl h
  · exact .inr ⟨k, e, pre_get hp hk⟩
theorem lookG_none {κ : Type} [DecidableEq κ] {k : κ} : ∀ {es : List (κ × Value)}, (∀ p ∈ es, p.1 ≠ k) → lookG k es = none
  | [], _ => rfl
  | p :: l, h => by
    rw [lookG, if_neg (fun e => h p List.mem_cons_self e.symm)]
    exact lookG_none fun q hq => h q (List.mem_cons_of_mem _ hq)
theorem lookG_some {κ : Type} [DecidableEq κ] {k : κ} {v : Value} : ∀ {es : List (κ × Value)}, (k, v) ∈ es → (∀ p ∈ es, p.1 = k → p.2 = v) → lookG k es = some v
  | [], h, _ => absurd h List.not_mem_nil
  | p :: l, h, hu => by
    by_cases e : k = p.1
    · rw [lookG, if_pos e, hu p List.mem_cons_self e.symm]
    · rw [lookG, if_neg e]
      refine lookG_some ?_ fun q hq => hu q (List.mem_cons_of_mem _ hq)
      rcases List.mem_cons.1 h with h | h
      · exact absurd (congrArg Prod.fst h) e
      · exact h
theorem lookG_mem {κ : Type} [DecidableEq κ] {k : κ} {v : Value} : ∀ {es : List (κ × Value)}, lookG k es = some v → (k, v) ∈ es
  | [], h => by cases h
  | p :: l, h => by
    unfold lookG at h
    split at h
    · rename_i e
      injection h with h
      rw [← h, e]
      exact List.mem_cons_self
    · exact List.mem_cons_of_mem _ (lookG_mem h)
/-- What the terms and the lists that have numbers are kept by. -/
structure CI (TT : List Tm) (LL : List (List Tm)) (e1 : List ((Int × ByteArray × ByteArray × Int × Int) × Value)) (e2 : List ((Int × Int) × Value)) : Prop where
  bg : ∀ t ∈ TT, BG t
  t1 : e1.length = TT.length
  t2 : ∀ (i : Nat) t, TT[i]? = some t → ∃ j : Nat, isL LL t.l j ∧ e1[i]? = some ((t.op, t.name, t.num, t.sort, (j : Int)), .int .i64 (i : Int))
  tn : ∀ (i i' : Nat) t, TT[i]? = some t → TT[i']? = some t → i = i'
  l1 : e2.length = LL.length
  l2 : ∀ (k : Nat) l, LL[k]? = some l → ∃ (l0 : List Tm) (x : Tm) (j i : Nat), l = l0 ++ [x] ∧ isL LL l0 j ∧ TT[i]? = some x ∧ e2[k]? = some (((j : Int), (i : Int)), .int .i64 ((k : Int) + 1))
  ln : ∀ (k k' : Nat) l, LL[k]? = some l → LL[k']? = some l → k = k'
section
variable {TT : List Tm} {LL : List (List Tm)} {e1 : List ((Int × ByteArray × ByteArray × Int × Int) × Value)} {e2 : List ((Int × Int) × Value)}
theorem CI.new : CI [] [] [] [] := ⟨fun t h => absurd h List.not_mem_nil, rfl, fun i t h => by simp at h, fun i i' t h => by simp at h, rfl, fun k l h => by simp at h, fun k k' l h => by simp at h⟩
theorem CI.inj (h : CI TT LL e1 e2) {l : List Tm} {j j' : Nat} (a : isL LL l j) (b : isL LL l j') : j = j' := by
  rcases a with ⟨rfl, rfl⟩ | ⟨k, rfl, hk⟩
  · rcases b with ⟨rfl, _⟩ | ⟨k, rfl, hk⟩
    · rfl
    · obtain ⟨l0, x, _, _, e, _⟩ := h.l2 k _ hk
      simp at e
  · rcases b with ⟨rfl, rfl⟩ | ⟨k', rfl, hk'⟩
    · obtain ⟨l0, x, _, _, e, _⟩ := h.l2 k _ hk
      simp at e
    · rw [h.ln k k' l hk hk']
/-- A term is asked for. -/
theorem CI.look1 (h : CI TT LL e1 e2) {x : Tm} {j : Nat} (hx : BG x) (hj : isL LL x.l j) : (∃ i : Nat, TT[i]? = some x ∧ lookG (x.op, x.name, x.num, x.sort, (j : Int)) e1 = some (.int .i64 (i : Int))) ∨ (x ∉ TT ∧ lookG (x.op, x.name, x.num, x.sort, (j : Int)) e1 = none) := by
  have hkey : ∀ p ∈ e1, p.1 = (x.op, x.name, x.num, x.sort, (j : Int)) → ∃ i : Nat, TT[i]? = some x ∧ p.2 = .int .i64 (i : Int) := fun p hp e => by
    obtain ⟨i, hi, rfl⟩ := List.getElem_of_mem hp
    have hit : i < TT.length := by rw [← h.t1]; exact hi
    obtain ⟨j', hj', e2⟩ := h.t2 i _ (List.getElem?_eq_getElem hit)
    rw [List.getElem?_eq_getElem hi] at e2
    injection e2 with e2
    rw [e2] at e ⊢
    simp only [Prod.mk.injEq] at e
    obtain ⟨h1, h2, h3, h4, h5⟩ := e
    have h6 : j' = j := by omega
    subst h6
    have h7 := hj'.fn hj
    obtain ⟨_, _, _, _, _, h8, h9, _⟩ := (h.bg _ (List.getElem_mem hit)).parts
    obtain ⟨_, _, _, _, _, h10, h11, _⟩ := hx.parts
    refine ⟨i, ?_, rfl⟩
    rw [List.getElem?_eq_getElem hit]
    generalize TT[i] = y at *
    cases x
    cases y
    simp only at *
    subst h1 h2 h3 h4 h7 h8 h9 h10 h11
    rfl
  by_cases hm : ∃ i : Nat, TT[i]? = some x
  · obtain ⟨i, hi⟩ := hm
    obtain ⟨j', hj', e⟩ := h.t2 i x hi
    rw [h.inj hj' hj] at e
    refine .inl ⟨i, hi, lookG_some (List.mem_of_getElem? e) fun p hp e' => ?_⟩
    obtain ⟨i', hi', e3⟩ := hkey p hp e'
    rw [e3, h.tn i i' x hi hi']
  · refine .inr ⟨fun hx' => hm ?_, lookG_none fun p hp e => ?_⟩
    · obtain ⟨i, hi, rfl⟩ := List.getElem_of_mem hx'
      exact ⟨i, List.getElem?_eq_getElem hi⟩
    · obtain ⟨i, hi, _⟩ := hkey p hp e
      exact hm ⟨i, hi⟩
/-- A list and one more term are asked for. -/
theorem CI.look2 (h : CI TT LL e1 e2) {l : List Tm} {x : Tm} {j i : Nat} (hj : isL LL l j) (hi : TT[i]? = some x) : (∃ k : Nat, LL[k]? = some (l ++ [x]) ∧ lookG ((j : Int), (i : Int)) e2 = some (.int .i64 ((k : Int) + 1))) ∨ ((∀ k : Nat, LL[k]? ≠ some (l ++ [x])) ∧ lookG ((j : Int), (i : Int)) e2 = none) := by
  have hkey : ∀ p ∈ e2, p.1 = ((j : Int), (i : Int)) → ∃ k : Nat, LL[k]? = some (l ++ [x]) ∧ p.2 = .int .i64 ((k : Int) + 1) := fun p hp e => by
    obtain ⟨k, hk, rfl⟩ := List.getElem_of_mem hp
    have hkt : k < LL.length := by rw [← h.l1]; exact hk
    obtain ⟨l0, y, j', i', e1', hj', hi', e3⟩ := h.l2 k _ (List.getElem?_eq_getElem hkt)
    rw [List.getElem?_eq_getElem hk] at e3
    injection e3 with e3
    rw [e3] at e ⊢
    simp only [Prod.mk.injEq] at e
    obtain rfl : j' = j := by omega
    obtain rfl : i' = i := by omega
    rw [hi] at hi'
    injection hi' with hi'
    refine ⟨k, ?_, rfl⟩
    rw [List.getElem?_eq_getElem hkt, e1', hj'.fn hj, hi']
  by_cases hm : ∃ k : Nat, LL[k]? = some (l ++ [x])
  · obtain ⟨k, hk⟩ := hm
    obtain ⟨l0, y, j', i', e1', hj', hi', e3⟩ := h.l2 k _ hk
    obtain ⟨rfl, e4⟩ := List.append_inj' e1' rfl
    injection e4 with e4 _
    subst e4
    rw [h.inj hj' hj, h.tn i' i _ hi' hi] at e3
    refine .inl ⟨k, hk, lookG_some (List.mem_of_getElem? e3) fun p hp e' => ?_⟩
    obtain ⟨k', hk', e5⟩ := hkey p hp e'
    rw [e5, h.ln k k' _ hk hk']
  · refine .inr ⟨fun k hk => hm ⟨k, hk⟩, lookG_none fun p hp e => ?_⟩
    obtain ⟨k, hk, _⟩ := hkey p hp e
    exact hm ⟨k, hk⟩
theorem get_snoc {α : Type} {l : List α} {x y : α} {i : Nat} (h : (l ++ [x])[i]? = some y) : l[i]? = some y ∨ (i = l.length ∧ y = x) := by
  rcases Nat.lt_trichotomy i l.length with hi | hi | hi
  · rw [List.getElem?_append_left hi] at h
    exact .inl h
  · subst hi
    simp at h
    exact .inr ⟨rfl, h.symm⟩
  · rw [List.getElem?_eq_none (by simp; omega)] at h
    cases h
theorem get_last {α : Type} (l : List α) (x : α) : (l ++ [x])[l.length]? = some x := by simp
/-- A term more. -/
theorem CI.add1 (h : CI TT LL e1 e2) {x : Tm} {j : Nat} (hx : BG x) (hj : isL LL x.l j) (hn : x ∉ TT) : CI (TT ++ [x]) LL (e1 ++ [((x.op, x.name, x.num, x.sort, (j : Int)), .int .i64 (TT.length : Int))]) e2 := by
  refine ⟨fun t ht => ?_, by simp [h.t1], fun i t ht => ?_, fun i i' t ht ht' => ?_, h.l1, fun k l hk => ?_, h.ln⟩
  · rcases List.mem_append.1 ht with ht | ht
    · exact h.bg t ht
    · rw [List.mem_singleton.1 ht]; exact hx
  · rcases get_snoc ht with ht | ⟨rfl, rfl⟩
    · obtain ⟨j', h1, h2⟩ := h.t2 i t ht
      exact ⟨j', h1, pre_get (List.prefix_append _ _) h2⟩
    · exact ⟨j, hj, by rw [← h.t1]; exact get_last _ _⟩
  · rcases get_snoc ht with g | ⟨g, e⟩
    · rcases get_snoc ht' with g' | ⟨g', e'⟩
      · exact h.tn i i' t g g'
      · rw [e'] at g
        exact absurd (List.mem_of_getElem? g) hn
    · rcases get_snoc ht' with g' | ⟨g', e'⟩
      · rw [e] at g'
        exact absurd (List.mem_of_getElem? g') hn
      · rw [g, g']
  · obtain ⟨l0, y, j', i', a1, a2, a3, a4⟩ := h.l2 k l hk
    exact ⟨l0, y, j', i', a1, a2, pre_get (List.prefix_append _ _) a3, a4⟩
/-- A list more. -/
theorem CI.add2 (h : CI TT LL e1 e2) {l : List Tm} {x : Tm} {j i : Nat} (hj : isL LL l j) (hi : TT[i]? = some x) (hn : ∀ k : Nat, LL[k]? ≠ some (l ++ [x])) : CI TT (LL ++ [l ++ [x]]) e1 (e2 ++ [(((j : Int), (i : Int)), .int .i64 ((LL.length : Int) + 1))]) := by
  have hp : LL <+: LL ++ [l ++ [x]] := List.prefix_append _ _
  refine ⟨h.bg, h.t1, fun i t ht => ?_, h.tn, by simp [h.l1], fun k m hm => ?_, fun k k' m hm hm' => ?_⟩
  · obtain ⟨j', h1, h2⟩ := h.t2 i t ht
    exact ⟨j', h1.mono hp, h2⟩
  · rcases get_snoc hm with hm | ⟨rfl, rfl⟩
    · obtain ⟨l0, y, j', i', a1, a2, a3, a4⟩ := h.l2 k m hm
      exact ⟨l0, y, j', i', a1, a2.mono hp, a3, pre_get (List.prefix_append _ _) a4⟩
    · exact ⟨l, x, j, i, rfl, hj.mono hp, hi, by rw [← h.l1]; exact get_last _ _⟩
  · rcases get_snoc hm with g | ⟨g, e⟩
    · rcases get_snoc hm' with g' | ⟨g', e'⟩
      · exact h.ln k k' m g g'
      · rw [e'] at g
        exact absurd g (hn k)
    · rcases get_snoc hm' with g' | ⟨g', e'⟩
      · rw [e] at g'
        exact absurd g' (hn k')
      · rw [g, g']
end
/-- What is told of a term, of a list. -/
def NumT (TT : List Tm) (t : Tm) (x : Int) : Prop := (t.ground = true ∧ ∃ i : Nat, x = i ∧ TT[i]? = some t.inst0) ∨ (t.ground = false ∧ x = -1)
def NumL (LL : List (List Tm)) (l : List Tm) (x : Int) : Prop := (l.all Tm.ground = true ∧ ∃ j : Nat, x = j ∧ isL LL (l.map Tm.inst0) j) ∨ (l.all Tm.ground = false ∧ x = -1)
theorem NumL.mono {LL LL' : List (List Tm)} {l : List Tm} {x : Int} (h : NumL LL l x) (hp : LL <+: LL') : NumL LL' l x := by
  rcases h with ⟨h1, j, h2, h3⟩ | h
  · exact .inl ⟨h1, j, h2, h3.mono hp⟩
  · exact .inr h
end Go.Proofs.YtiockiilenjjaaaDoor

/- The collector in memory; join. -/
namespace Go.Proofs.YtiockiilenjjaaaDoor
open Go Go.RowKit
def ptrs (ps : List (Nat × Nat)) : List Value := ps.map fun p => .pointer (some ⟨p.1, p.2, none⟩)
/-- Lists whose numbers are known, by where they lie. -/
def KN (w : World) (B D : Nat) (TT : List Tm) (LL : List (List Tm)) (e3 : List ((Nat × Nat × Int) × Value)) : Prop := ∀ p ∈ e3, ∃ l : List Tm, p.1.2.2 = (l.length : Int) ∧ l ≠ [] ∧ p.1.1 < B ∧ Plain w p.1.1 ∧ (∀ (j : Nat) u, l[j]? = some u → TmAt w B D p.1.1 (p.1.2.1 + j * 7) u) ∧ (∃ x, p.2 = .int .i64 x ∧ NumL LL l x) ∧ ∀ y ∈ gsL l, y ∈ TT
def AR (w : World) (B D : Nat) (ps : List (Nat × Nat)) (ts : List Tm) : Prop := ps.length = ts.length ∧ ∀ (k : Nat) p t, ps[k]? = some p → ts[k]? = some t → ∃ u, TmAt w B D p.1 p.2 u ∧ u.inst0 = t ∧ u.wt ≤ 400000
def isApp (t : Tm) : Bool := t.op == 17
/-- The collector. -/
structure CO (w : World) (B D rc m1 m2 m3 : Nat) (av : Value) (e1 : List ((Int × ByteArray × ByteArray × Int × Int) × Value)) (e2 : List ((Int × Int) × Value)) (e3 : List ((Nat × Nat × Int) × Value)) (ps : List (Nat × Nat)) (AA TT : List Tm) (LL : List (List Tm)) : Prop where
  cc : w.heap[rc]? = some (.cells #[.map (some m1), .map (some m2), .map (some m3), av, .bool false] 156)
  br : B ≤ rc
  b1 : B ≤ m1
  b2 : B ≤ m2
  b3 : B ≤ m3
  n12 : m1 ≠ m2
  n13 : m1 ≠ m3
  n23 : m2 ≠ m3
  g1 : GM kv1 w m1 e1
  g2 : GM kv2 w m2 e2
  g3 : GM kv3 w m3 e3
  ci : CI TT LL e1 e2
  kn : KN w B D TT LL e3
  ow : w.ownsRow B 61 1 av ps.length (ptrs ps)
  ar : AR w B D ps AA
def COx (w : World) (B D rc : Nat) (TT : List Tm) (LL : List (List Tm)) : Prop := ∃ m1 m2 m3 av e1 e2 e3 ps, CO w B D rc m1 m2 m3 av e1 e2 e3 ps (TT.filter isApp) TT LL
section
variable {w w' : World} {B D rc m1 m2 m3 : Nat} {av : Value} {e1 : List ((Int × ByteArray × ByteArray × Int × Int) × Value)} {e2 : List ((Int × Int) × Value)} {e3 : List ((Nat × Nat × Int) × Value)} {ps : List (Nat × Nat)} {AA TT : List Tm} {LL : List (List Tm)}
theorem KN.below (h : KN w B D TT LL e3) (hb : Below B w w') : KN w' B D TT LL e3 := fun p hp => by
  obtain ⟨l, h1, h2, h3, h4, h5, h6⟩ := h p hp
  exact ⟨l, h1, h2, h3, h4.below h3 hb, fun j u hu => (h5 j u hu).more hb (Nat.le_refl _) (Nat.le_refl _), h6⟩
theorem KN.mono {TT' : List Tm} {LL' : List (List Tm)} (h : KN w B D TT LL e3) (hT : TT <+: TT') (hL : LL <+: LL') : KN w B D TT' LL' e3 := fun p hp => by
  obtain ⟨l, h1, h2, h3, h4, h5, ⟨x, h6, h7⟩, h8⟩ := h p hp
  exact ⟨l, h1, h2, h3, h4, h5, ⟨x, h6, h7.mono hL⟩, fun y hy => hT.subset (h8 y hy)⟩
theorem AR.below {ts : List Tm} (h : AR w B D ps ts) (hb : Below B w w') : AR w' B D ps ts := ⟨h.1, fun k p t hp ht => by
  obtain ⟨u, h1, h2⟩ := h.2 k p t hp ht
  exact ⟨u, h1.more hb (Nat.le_refl _) (Nat.le_refl _), h2⟩⟩
theorem own_kept {v : Value} {n : Nat} {xs : List Value} {ty : TypeId} (h : w.ownsRow B ty 1 v n xs) (hk : ∀ (g : Nat) (cs : Array Value), w.heap[g]? = some (Obj.cells cs ty) → w'.heap[g]? = w.heap[g]?) : w'.ownsRow B ty 1 v n xs := by
  refine ⟨h.1, h.2.imp id ?_⟩
  rintro ⟨g, cap, cur, k1, k2, k3, k4⟩
  exact ⟨g, cap, cur, k1, k2, (hk g cur k3).trans k3, k4⟩
theorem CO.lt (h : CO w B D rc m1 m2 m3 av e1 e2 e3 ps AA TT LL) : rc < w.heap.size := (Array.getElem?_eq_some_iff.1 h.cc).1
theorem CO.bw (h : CO w B D rc m1 m2 m3 av e1 e2 e3 ps AA TT LL) : B ≤ w.heap.size := by have := h.lt; have := h.br; omega
theorem CO.grow (h : CO w B D rc m1 m2 m3 av e1 e2 e3 ps AA TT LL) (hb : Below w.heap.size w w') : CO w' B D rc m1 m2 m3 av e1 e2 e3 ps AA TT LL :=
  ⟨(hb.block _ h.lt).trans h.cc, h.br, h.b1, h.b2, h.b3, h.n12, h.n13, h.n23, h.g1.below hb h.g1.lt, h.g2.below hb h.g2.lt, h.g3.below hb h.g3.lt, h.ci, h.kn.below (hb.mono h.bw), own_kept h.ow (fun g cs e => hb.block g (Array.getElem?_eq_some_iff.1 e).1), h.ar.below (hb.mono h.bw)⟩
theorem GM.noCells {κ : Type} {kv : κ → Value} {r : Nat} {es : List (κ × Value)} (h : GM kv w r es) {g : Nat} {cs : Array Value} {ty : TypeId} (hg : w.heap[g]? = some (.cells cs ty)) : g ≠ r := fun e => by
  obtain ⟨a, c, h1, _⟩ := h
  rw [e, h1] at hg
  cases hg
theorem PutAt.bel {r : Nat} (h : PutAt r w w') (hB : B ≤ r) : Below B w w' := ⟨h.os, h.tape, h.output, by rw [h.size]; exact Nat.le_refl _, fun k hk => h.block k (by omega)⟩
/-- Another number for a list. -/
theorem CO.put2 (h : CO w B D rc m1 m2 m3 av e1 e2 e3 ps AA TT LL) (hp : PutAt m2 w w') {e2' : List ((Int × Int) × Value)} {LL' : List (List Tm)} (hg : GM kv2 w' m2 e2') (hc : CI TT LL' e1 e2') (hL : LL <+: LL') : CO w' B D rc m1 m2 m3 av e1 e2' e3 ps AA TT LL' := by
  have hb : Below B w w' := PutAt.bel hp h.b2
  exact ⟨(hp.block rc (h.g2.noCells h.cc)).trans h.cc, h.br, h.b1, h.b2, h.b3, h.n12, h.n13, h.n23, h.g1.same (hp.block m1 h.n12), hg, h.g3.same (hp.block m3 (Ne.symm h.n23)), hc, (h.kn.below hb).mono (List.prefix_refl _) hL, own_kept h.ow (fun g cs e => hp.block g (h.g2.noCells e)), h.ar.below hb⟩
theorem CO.put3 (h : CO w B D rc m1 m2 m3 av e1 e2 e3 ps AA TT LL) (hp : PutAt m3 w w') {e3' : List ((Nat × Nat × Int) × Value)} (hg : GM kv3 w' m3 e3') (hk : KN w B D TT LL e3') : CO w' B D rc m1 m2 m3 av e1 e2 e3' ps AA TT LL := by
  have hb : Below B w w' := PutAt.bel hp h.b3
  exact ⟨(hp.block rc (h.g3.noCells h.cc)).trans h.cc, h.br, h.b1, h.b2, h.b3, h.n12, h.n13, h.n23, h.g1.same (hp.block m1 h.n13), h.g2.same (hp.block m2 h.n23), hg, h.ci, hk.below hb, own_kept h.ow (fun g cs e => hp.block g (h.g3.noCells e)), h.ar.below hb⟩
end
theorem um1 : Tryd.prog.underlying 152 = some (.map 197 3) := by kernel_rfl
theorem um2 : Tryd.prog.underlying 153 = some (.map 216 3) := by kernel_rfl
theorem um3 : Tryd.prog.underlying 154 = some (.map 182 3) := by kernel_rfl
set_option maxRecDepth 100000 in
theorem zI (w : World) : (zeroValue 3).run Tryd.prog w = .ok (.int .i64 0) w := by go_simp
/-- What join answers. -/
def JPost (B D rc : Nat) (TT : List Tm) (LL : List (List Tm)) (l : List Tm) (w : World) (e : Ending) (w' : World) : Prop := ∃ LL' j, e = .returned (.int .i64 ((j : Nat) : Int)) ∧ COx w' B D rc TT LL' ∧ LL <+: LL' ∧ LL'.length ≤ LL.length + 1 ∧ isL LL' l j ∧ Below B w w'
set_option maxRecDepth 1000000 in
set_option maxHeartbeats 16000000 in
theorem join_no {rc : Nat} {w : World} {a b : Int} (h : a = -1 ∨ b = -1) : Calls Tryd.prog 109 #[.pointer (some ⟨rc, 0, none⟩), .int .i64 a, .int .i64 b] w (fun e w' => e = .returned (.int .i64 (-1)) ∧ w' = w) := by
  by_cases ha : a = -1
  · subst ha
    clear h
    go_enter Tryd.func109, Tryd.ntmps109
    go_wp2
    go_ret
    exact ⟨rfl, rfl⟩
  · obtain rfl : b = -1 := by omega
    have h1 : (a == -1) = false := by simp [ha]
    clear h ha
    go_enter Tryd.func109, Tryd.ntmps109
    go_wp2
    go_ret
    exact ⟨rfl, rfl⟩
set_option maxRecDepth 1000000 in
set_option maxHeartbeats 16000000 in
theorem join_any {w : World} {B D rc : Nat} {TT : List Tm} {LL : List (List Tm)} {l : List Tm} {x : Tm} {j i : Nat} (h : COx w B D rc TT LL) (hj : isL LL l j) (hi : TT[i]? = some x) (hL : LL.length ≤ 1000000) : Calls Tryd.prog 109 #[.pointer (some ⟨rc, 0, none⟩), .int .i64 (j : Int), .int .i64 (i : Int)] w (JPost B D rc TT LL (l ++ [x]) w) := by
  obtain ⟨m1, m2, m3, av, e1, e2, e3, ps, h⟩ := h
  obtain ⟨ds, K⟩ := kok2
  have d1 : ((j : Int) == -1) = false := by simp
  have d2 : ((i : Int) == -1) = false := by simp
  obtain ⟨V, eV, hbV, hsV, hcV, hhV⟩ := box_new w #[.int .i64 (j : Int), .int .i64 (i : Int)] 216
  have hV := h.grow hbV
  have hlen : e2.length = LL.length := hV.ci.l1
  have hqlt : w.heap.size < V.heap.size := by omega
  have HSS : Hid (∀ w', Below V.heap.size V w' → (w'.cell? ⟨rc, 1, none⟩ = some (.map (some m2)) ∧ w'.cell? ⟨w.heap.size, 0, none⟩ = some (.int .i64 (j : Int)) ∧ w'.cell? ⟨w.heap.size, 1, none⟩ = some (.int .i64 (i : Int)) ∧ (Instr.lookup 153 (.map (some m2)) (.agg #[.int .i64 (j : Int), .int .i64 (i : Int)]) true).run Tryd.prog w' = .ok (.tuple #[(lookG ((j : Int), (i : Int)) e2).getD (.int .i64 0), .bool (lookG ((j : Int), (i : Int)) e2).isSome]) w')) := fun w' hb => by
    have h' := hV.grow hb
    have hq' := (hb.block _ hqlt).trans hhV
    exact ⟨(blk h'.cc).2.1 1 _ rfl, (blk hq').2.1 0 _ rfl, (blk hq').2.1 1 _ rfl, gm_lookup K (k := ((j : Int), (i : Int))) um2 (zI w') h'.g2 (fun p _ => keq2 w' _ _)⟩
  obtain ⟨s0, s1, s2, s3⟩ := unhide HSS V (Below.refl _ V)
  rcases hV.ci.look2 hj hi with ⟨k, hk, hlk⟩ | ⟨hno, hlk⟩
  · rw [hlk] at HSS s3
    simp only [Option.getD_some, Option.isSome_some] at HSS s3
    have HF := hide (And.intro hV (And.intro hk hbV))
    have hB := h.bw
    clear h hV hbV hsV hcV hhV hlen hqlt hlk hk hj hi hL K
    go_enter Tryd.func109, Tryd.ntmps109
    go_wp2
    clear eV
    go_region_held3 (fun w' => w'.cell? ⟨rc, 1, none⟩ = some (.map (some m2)) ∧ w'.cell? ⟨w.heap.size, 0, none⟩ = some (.int .i64 (j : Int)) ∧ w'.cell? ⟨w.heap.size, 1, none⟩ = some (.int .i64 (i : Int)) ∧ (Instr.lookup 153 (.map (some m2)) (.agg #[.int .i64 (j : Int), .int .i64 (i : Int)]) true).run Tryd.prog w' = .ok (.tuple #[.int .i64 ((k : Int) + 1), .bool true]) w') (first | assumption | exact unhide HSS _ (keep0 _)) (fail)
    go_wp2
    go_ret
    obtain ⟨hV, hk, hbV⟩ := unhide HF
    refine ⟨LL, k + 1, by simp, ⟨m1, m2, m3, av, e1, e2, e3, ps, hV.grow (keep0 V)⟩, List.prefix_refl _, by omega, .inr ⟨k, rfl, hk⟩, (hbV.mono hB).trans ((keep0 V).mono (by have := hbV.size; omega))⟩
  · rw [hlk] at HSS s3
    simp only [Option.getD_none, Option.isSome_none] at HSS s3
    have hB := h.bw
    have hVd := hV.grow (keep0 V)
    have hVdd := hVd.grow (keep0 V.drew)
    have hqd : V.drew.heap[w.heap.size]? = _ := hhV
    have hqdd : V.drew.drew.heap[w.heap.size]? = _ := hhV
    obtain ⟨W9, hrun, hput, hg9⟩ := gm_update (P := Tryd.prog) K (k := ((j : Int), (i : Int))) (v := .int .i64 ((LL.length : Int) + 1)) um2 hVdd.g2 (fun p _ => keq2 V.drew.drew _ _)
    rw [putG_new _ _ _ hlk] at hg9
    have h9 := hVdd.put2 hput hg9 (hVdd.ci.add2 hj hi hno) (List.prefix_append _ _)
    have hx9 := (hput.block w.heap.size (hVdd.g2.noCells hqdd)).trans hqdd
    have hln : (Builtin.len_ #[153] 3 #[.map (some m2)]).run Tryd.prog V.drew = .ok (.int .i64 (LL.length : Int)) V.drew := by rw [← hlen]; exact gm_len um2 hVd.g2
    have HS9 : Hid (W9.cell? ⟨rc, 1, none⟩ = some (.map (some m2)) ∧ W9.cell? ⟨w.heap.size, 0, none⟩ = some (.int .i64 (j : Int)) ∧ W9.cell? ⟨w.heap.size, 1, none⟩ = some (.int .i64 (i : Int))) := ⟨(blk h9.cc).2.1 1 _ rfl, (blk hx9).2.1 0 _ rfl, (blk hx9).2.1 1 _ rfl⟩
    have HSC : Hid (V.drew.drew.cell? ⟨rc, 1, none⟩ = some (.map (some m2)) ∧ V.drew.drew.cell? ⟨w.heap.size, 0, none⟩ = some (.int .i64 (j : Int)) ∧ V.drew.drew.cell? ⟨w.heap.size, 1, none⟩ = some (.int .i64 (i : Int))) := ⟨(blk hVdd.cc).2.1 1 _ rfl, (blk hqdd).2.1 0 _ rfl, (blk hqdd).2.1 1 _ rfl⟩
    have g0 : V.drew.cell? ⟨rc, 1, none⟩ = some (.map (some m2)) := (blk hVd.cc).2.1 1 _ rfl
    have g1 : V.drew.cell? ⟨w.heap.size, 0, none⟩ = some (.int .i64 (j : Int)) := (blk hqd).2.1 0 _ rfl
    have g2 : V.drew.cell? ⟨w.heap.size, 1, none⟩ = some (.int .i64 (i : Int)) := (blk hqd).2.1 1 _ rfl
    have HF := hide (And.intro h9 (And.intro ((hbV.mono hB).trans ((((keep0 V).mono (by have := hbV.size; omega)).trans ((keep0 V.drew).mono (by have := hbV.size; have := (keep0 V).size; omega))).trans (PutAt.bel hput h.b2))) hL))
    obtain ⟨n, hn⟩ : ∃ n, LL.length = n := ⟨_, rfl⟩
    have HN := hide hn
    have hnn : (n : Int) ≤ 1000000 := by omega
    rw [hn] at hln hrun
    simp only [kv2] at hrun
    clear h hV hbV hsV hcV hhV hlen hqlt hlk hj hi hL K hno hVd hVdd hqd hqdd hput hg9 h9 hx9 hn
    go_enter Tryd.func109, Tryd.ntmps109
    go_wp2
    clear eV
    go_region_held3 (fun w' => w'.cell? ⟨rc, 1, none⟩ = some (.map (some m2)) ∧ w'.cell? ⟨w.heap.size, 0, none⟩ = some (.int .i64 (j : Int)) ∧ w'.cell? ⟨w.heap.size, 1, none⟩ = some (.int .i64 (i : Int)) ∧ (Instr.lookup 153 (.map (some m2)) (.agg #[.int .i64 (j : Int), .int .i64 (i : Int)]) true).run Tryd.prog w' = .ok (.tuple #[.int .i64 0, .bool false]) w') (first | assumption | exact unhide HSS _ (keep0 _)) (fail)
    clear s0 s1 s2 s3
    go_wp2
    go_region_held3 (fun w' => w'.cell? ⟨rc, 1, none⟩ = some (.map (some m2)) ∧ w'.cell? ⟨w.heap.size, 0, none⟩ = some (.int .i64 (j : Int)) ∧ w'.cell? ⟨w.heap.size, 1, none⟩ = some (.int .i64 (i : Int))) (first | assumption | exact (unhide HS9) | exact (unhide HSC)) (fail)
    go_wp2
    go_ret
    obtain ⟨h9, hb9, hL⟩ := unhide HF
    exact ⟨_, n + 1, by simp, ⟨m1, m2, m3, av, e1, _, e3, ps, h9⟩, List.prefix_append _ _, by simp, .inr ⟨n, rfl, by rw [← unhide HN]; exact get_last _ _⟩, hb9⟩
end Go.Proofs.YtiockiilenjjaaaDoor

namespace Go.Proofs.YtiockiilenjjaaaDoor
open Go Go.RowKit
def szs (l : List Tm) : Nat := (l.map Tm.size).sum
theorem szs_take {l : List Tm} {i : Nat} (h : i < l.length) : szs (l.take (i + 1)) = szs (l.take i) + l[i].size := by
  unfold szs
  rw [take_more h, List.map_append, List.sum_append]
  simp
theorem szs_le (l : List Tm) (i : Nat) : szs (l.take i) ≤ szs l := by
  unfold szs
  rw [List.map_take]
  exact sum_take_le _ i
def GTermC (D d : Nat) : Prop := ∀ (B rc : Nat) (w : World) (b o : Nat) (t : Tm) (u : Nat) (TT : List Tm) (LL : List (List Tm)), TmAt w B d b o t → COx w B D rc TT LL → u + d ≤ 65536 → LL.length + t.size ≤ 1000000 → TT.length + t.size ≤ 1000000 → t.wt ≤ 400000 →
    Calls Tryd.prog 79 #[.pointer (some ⟨rc, 0, none⟩), .pointer (some ⟨b, o, none⟩), .int .i64 u] w fun e w' => ∃ LL' x, e = .returned (.int .i64 x) ∧ COx w' B D rc (insAll t.gs TT) LL' ∧ LL <+: LL' ∧ LL'.length + 1 ≤ LL.length + t.size ∧ NumT (insAll t.gs TT) t x ∧ Below B w w'
def GListC (D d : Nat) : Prop := ∀ (B rc : Nat) (w : World) (a : Option Addr) (n c : Nat) (l : List Tm) (u : Nat) (TT : List Tm) (LL : List (List Tm)), Row B a n c 7 (fun b o j => ∀ t, l[j]? = some t → TmAt w B d b o t) → n = l.length → COx w B D rc TT LL → u + d ≤ 65536 → LL.length + szs l ≤ 1000000 → TT.length + szs l ≤ 1000000 → lwt l ≤ 400000 →
    Calls Tryd.prog 99 #[.pointer (some ⟨rc, 0, none⟩), .slice a n c, .int .i64 u] w fun e w' => ∃ LL' x, e = .returned (.int .i64 x) ∧ COx w' B D rc (insAll (gsL l) TT) LL' ∧ LL <+: LL' ∧ LL'.length ≤ LL.length + szs l ∧ NumL LL' l x ∧ Below B w w'
theorem CO.set4 {w : World} {B D rc m1 m2 m3 : Nat} {av : Value} {e1 : List ((Int × ByteArray × ByteArray × Int × Int) × Value)} {e2 : List ((Int × Int) × Value)} {e3 : List ((Nat × Nat × Int) × Value)} {ps : List (Nat × Nat)} {AA TT : List Tm} {LL : List (List Tm)} (h : CO w B D rc m1 m2 m3 av e1 e2 e3 ps AA TT LL) : CO (w.setCell ⟨rc, 4, none⟩ (.bool false)) B D rc m1 m2 m3 av e1 e2 e3 ps AA TT LL := by
  have hb : Below B w (w.setCell ⟨rc, 4, none⟩ (.bool false)) := (Below.refl B w).setCell (p := ⟨rc, 4, none⟩) h.br _
  have hk : ∀ k, k ≠ rc → (w.setCell ⟨rc, 4, none⟩ (.bool false)).heap[k]? = w.heap[k]? := fun k hk => Below.heap_setCell w ⟨rc, 4, none⟩ _ k hk
  refine ⟨(set_block h.cc _).trans rfl, h.br, h.b1, h.b2, h.b3, h.n12, h.n13, h.n23, h.g1.same (hk m1 (Ne.symm (h.g1.noCells h.cc))), h.g2.same (hk m2 (Ne.symm (h.g2.noCells h.cc))), h.g3.same (hk m3 (Ne.symm (h.g3.noCells h.cc))), h.ci, h.kn.below hb, own_kept h.ow (fun g cs e => hk g (fun e' => ?_)), h.ar.below hb⟩
  rw [e', h.cc] at e
  injection e with e
  injection e with _ e
  revert e
  decide
/-- A list that lies here, and whose number is known. -/
theorem KN.found {w : World} {B D d : Nat} {TT : List Tm} {LL : List (List Tm)} {e3 : List ((Nat × Nat × Int) × Value)} {b o : Nat} {l : List Tm} {v : Value} (h : KN w B D TT LL e3) (hl : ∀ (j : Nat) u, l[j]? = some u → TmAt w B d b (o + j * 7) u) (hv : lookG (b, o, (l.length : Int)) e3 = some v) : ∃ x, v = .int .i64 x ∧ NumL LL l x ∧ ∀ y ∈ gsL l, y ∈ TT := by
  obtain ⟨m, h1, _, _, _, h5, ⟨x, h6, h7⟩, h8⟩ := h _ (lookG_mem hv)
  simp only at h1 h5 h6
  have hlm : l.length = m.length := by omega
  have e : l = m := List.ext_getElem hlm fun j g1 g2 => (hl j _ (List.getElem?_eq_getElem g1)).det (h5 j _ (List.getElem?_eq_getElem g2))
  subst e
  exact ⟨x, h6, h7, h8⟩
theorem NumL.snoc {LL LL' : List (List Tm)} {TT : List Tm} {l : List Tm} {i : Nat} {x y : Int} (hi : i < l.length) (h : NumL LL (l.take i) x) (k : NumT TT l[i] y) (hn : x = -1 ∨ y = -1) : NumL LL' (l.take (i + 1)) (-1) := by
  refine .inr ⟨?_, rfl⟩
  rw [take_more hi, List.all_append]
  rcases hn with rfl | rfl
  · rcases h with ⟨_, j, h, _⟩ | ⟨h, _⟩
    · omega
    · rw [h]; rfl
  · rcases k with ⟨_, j, h, _⟩ | ⟨h, _⟩
    · omega
    · simp [h]
theorem NumL.more {LL LL2 LL' : List (List Tm)} {TT : List Tm} {l : List Tm} {i : Nat} {x y : Int} (hi : i < l.length) (h : NumL LL (l.take i) x) (k : NumT TT l[i] y) (hx : x ≠ -1) (hy : y ≠ -1) (hp : LL <+: LL2) : ∃ j q : Nat, x = j ∧ y = q ∧ isL LL2 ((l.take i).map Tm.inst0) j ∧ TT[q]? = some l[i].inst0 ∧ ∀ j', isL LL' ((l.take i).map Tm.inst0 ++ [l[i].inst0]) j' → NumL LL' (l.take (i + 1)) (j' : Int) := by
  rcases h with ⟨h1, j, rfl, h2⟩ | ⟨_, h⟩
  · rcases k with ⟨k1, q, rfl, k2⟩ | ⟨_, k⟩
    · refine ⟨j, q, rfl, rfl, h2.mono hp, k2, fun j' hj' => .inl ⟨?_, j', rfl, ?_⟩⟩
      · rw [take_more hi, List.all_append, h1]
        simp [k1]
      · rw [take_more hi, List.map_append]
        exact hj'
    · exact absurd k hy
  · exact absurd h hx
set_option maxRecDepth 1000000 in
set_option maxHeartbeats 16000000 in
theorem glist_of {D d : Nat} (hdD : d ≤ D) (ih : GTermC D d) : GListC D d := by
  intro B rc w a n c l u TT LL hR hn hC hu hL1 hT1' hwt
  have hmax : n ≤ 281474976710656 := hR.2.1
  by_cases h0 : n = 0
  · subst h0
    have hl : l = [] := List.length_eq_zero_iff.1 hn.symm
    subst hl
    have HC := hide hC
    clear hR hn hC ih hL1 hT1'
    go_enter Tryd.func99, Tryd.ntmps99
    go_wp2
    go_ret
    exact ⟨LL, 0, rfl, unhide HC, List.prefix_refl _, by omega, .inl ⟨rfl, 0, rfl, .inl ⟨rfl, rfl⟩⟩, Below.refl _ _⟩
  have hpos : 0 < n := by omega
  have d0 : ((n : Int) == 0) = false := by simp; omega
  obtain ⟨b, off, rfl, hbB, hj⟩ := hR.2.2 h0
  have hjl : ∀ (j : Nat) t, l[j]? = some t → TmAt w B d b (off + j * 7) t := fun j t ht => hj j (by have := (List.getElem?_eq_some_iff.1 ht).1; omega) t ht
  obtain ⟨m1, m2, m3, av, e1, e2, e3, ps, h⟩ := hC
  have hB := h.bw
  obtain ⟨ds, K⟩ := kok3
  have hpl : Plain w b := by
    have hl0 : 0 < l.length := by omega
    have := hjl 0 _ (List.getElem?_eq_getElem hl0)
    cases d with
    | zero => exact this.elim
    | succ d =>
      obtain ⟨_, _, _, _, _, _, _, _, _, _, _, _, _, hp⟩ := this
      exact hp
  have HSS : Hid (∀ w', Below w.heap.size w w' → (Below w.heap.size w w' ∧ w'.cell? ⟨rc, 2, none⟩ = some (.map (some m3)) ∧ (Instr.lookup 154 (.map (some m3)) (.agg #[.pointer (some ⟨b, off, none⟩), .int .i64 (n : Int)]) true).run Tryd.prog w' = .ok (.tuple #[(lookG (b, off, (n : Int)) e3).getD (.int .i64 0), .bool (lookG (b, off, (n : Int)) e3).isSome]) w')) := fun w' hb => by
    have h' := h.grow hb
    refine ⟨hb, (blk h'.cc).2.1 2 _ rfl, gm_lookup K (k := (b, off, (n : Int))) um3 (zI w') h'.g3 (fun p hp => ?_)⟩
    obtain ⟨_, _, _, _, hp4, _⟩ := h'.kn p hp
    exact keq3 (hpl.below (Nat.lt_of_lt_of_le hbB hB) hb) hp4
  obtain ⟨_, s1, s2⟩ := unhide HSS w (Below.refl _ w)
  have hmax2 : n ≤ 9223372036854775807 := by omega
  cases hlk : lookG (b, off, (n : Int)) e3 with
  | some v =>
    obtain ⟨x, rfl, hNx, hgs⟩ := h.kn.found hjl (by rw [← hn]; exact hlk)
    rw [hlk] at HSS s2
    simp only [Option.getD_some, Option.isSome_some] at HSS s2
    have HF := hide (And.intro h (And.intro hNx (And.intro hgs hB)))
    clear hR hn ih hL1 hT1' hj hjl h K hpl hlk hNx hgs hbB hB
    go_enter Tryd.func99, Tryd.ntmps99
    go_wp2
    go_region_held3 (fun w' => Below w.heap.size w w' ∧ w'.cell? ⟨rc, 2, none⟩ = some (.map (some m3)) ∧ (Instr.lookup 154 (.map (some m3)) (.agg #[.pointer (some ⟨b, off, none⟩), .int .i64 (n : Int)]) true).run Tryd.prog w' = .ok (.tuple #[.int .i64 x, .bool true]) w') (first | assumption | exact unhide HSS _ hT1 | exact unhide HSS _ (keep0 _)) ((go_at_call 91; refine (keyOf_any b off n c _ hpos hmax2).mono ?_; rintro e v1 ⟨rfl, hv1⟩; have hT1 : Below w.heap.size w v1 := keepC (by assumption) hv1))
    all_goals
      have HT1 := hide hT1
      clear hT1
      go_wp2
      go_ret
      obtain ⟨h, hNx, hgs, hB⟩ := unhide HF
      refine ⟨LL, x, rfl, ?_, List.prefix_refl _, by omega, hNx, (unhide HT1).mono hB⟩
      rw [insAll_in hgs]
      exact ⟨m1, m2, m3, av, e1, e2, e3, ps, h.grow (unhide HT1)⟩
  | none =>
    rw [hlk] at HSS s2
    simp only [Option.getD_none, Option.isSome_none] at HSS s2
    have HF := hide (And.intro h (And.intro hB (And.intro hL1 (And.intro hT1' (And.intro hjl (And.intro hbB hpl))))))
    have HIH := hide ih
    have HN := hide hn
    have hd2 : decide ((65536 : Int) < (u : Int)) = false := by simp; omega
    clear hR hn ih hL1 hT1' hj hjl h K hpl hlk hB
    go_enter Tryd.func99, Tryd.ntmps99
    go_wp2
    go_region_held3 (fun w' => Below w.heap.size w w' ∧ w'.cell? ⟨rc, 2, none⟩ = some (.map (some m3)) ∧ (Instr.lookup 154 (.map (some m3)) (.agg #[.pointer (some ⟨b, off, none⟩), .int .i64 (n : Int)]) true).run Tryd.prog w' = .ok (.tuple #[.int .i64 0, .bool false]) w') (first | assumption | exact unhide HSS _ hT1 | exact unhide HSS _ (keep0 _)) ((go_at_call 91; refine (keyOf_any b off n c _ hpos hmax2).mono ?_; rintro e v1 ⟨rfl, hv1⟩; have hT1 : Below w.heap.size w v1 := keepC (by assumption) hv1))
    all_goals
      obtain ⟨h, hB, hL1, hT1', hjl, hbB', hpl⟩ := unhide HF
      have h1 := h.grow hT1
      have c4 : v1.cell? ⟨rc, 4, none⟩ = some (.bool false) := (blk h1.cc).2.1 4 _ rfl
      have cf4 := (blk h1.cc).2.2 4
      obtain ⟨W0, eW0⟩ : ∃ W, v1.setCell ⟨rc, 4, none⟩ (.bool false) = W := ⟨_, rfl⟩
      have H0 : Hid (COx W0 B D rc TT LL ∧ Below B w W0) := by
        rw [← eW0]
        exact ⟨⟨m1, m2, m3, av, e1, e2, e3, ps, h1.set4⟩, (hT1.mono hB).setCell (p := ⟨rc, 4, none⟩) h.br _⟩
      clear h hB hL1 hT1' hjl hbB' hpl h1 hT1 s1 s2 HSS
      go_wp2
      clear eW0 c4 cf4
      go_loopw [39, 9] (fun iv nv wr => ∃ (i : Nat) (LL' : List (List Tm)) (x : Int), i ≤ n ∧ iv = .int .i64 (i : Int) ∧ nv = .int .i64 x ∧ COx wr B D rc (insAll (gsL (l.take i)) TT) LL' ∧ LL <+: LL' ∧ LL'.length ≤ LL.length + szs (l.take i) ∧ NumL LL' (l.take i) x ∧ Below B w wr) (fun iv _ _ => (n - (intOf iv).toNat))
      case atStart => exact ⟨0, LL, 0, Nat.zero_le _, rfl, rfl, (unhide H0).1, List.prefix_refl _, by omega, .inl ⟨rfl, 0, rfl, .inl ⟨rfl, rfl⟩⟩, (unhide H0).2⟩
      case round =>
        obtain ⟨i, LL', x, hi, rfl, rfl, hCi, hpi, hli, hNi, hbi⟩ := hrel
        have c4 : wr.cell? ⟨rc, 4, none⟩ = some (.bool false) := by
          obtain ⟨_, _, _, _, _, _, _, _, hc⟩ := hCi
          exact (blk hc.cc).2.1 4 _ rfl
        by_cases hlt : i < n
        · have hil : i < l.length := by have := unhide HN; omega
          have hdi : decide ((i : Int) < (n : Int)) = true := by simp; omega
          have hIi : (i : Int) < (n : Int) := by omega
          have hcap : (i : Int) < 281474976710656 := by omega
          obtain ⟨h, hB, hL1, hT1', hjl, hbB', hpl⟩ := unhide HF
          have hsz := szs_take hil
          have hsl := szs_le l (i + 1)
          have hTl := insAll_len (gsL (l.take i)) TT
          have hgl := gsL_len (l.take i)
          have hTi := (hjl i _ (List.getElem?_eq_getElem hil)).more hbi (Nat.le_refl _) (Nat.le_refl _)
          have HCa := hide (unhide HIH B rc wr b (off + i * 7) l[i] u _ LL' hTi hCi hu (by omega) (by unfold szs at *; omega) (by have := lwt_more hil; have := lwt_take l (i + 1); omega))
          have HP := hide (And.intro hpi (And.intro hli (And.intro hNi (And.intro hbi hsz))))
          clear hCi hpi hli hNi hbi h hB hL1 hT1' hjl hbB' hpl hsz hsl hTl hgl hTi
          go_wp2_with fail
          refine (unhide HCa).mono ?_
          rintro e w7 ⟨LL2, y, rfl, hC7, hp7, hl7, hN7, hb7⟩
          obtain ⟨hpi, hli, hNi, hbi, hsz⟩ := unhide HP
          rw [← insAll_app, ← gsL_take hil] at hC7 hN7
          by_cases hno : x = -1 ∨ y = -1
          · have HF2 := hide (And.intro hC7 (And.intro (hpi.trans hp7) (And.intro (show LL2.length ≤ LL.length + szs (l.take (i + 1)) by omega) (And.intro (NumL.snoc (LL' := LL2) hil hNi hN7 hno) (hbi.trans hb7)))))
            have HJ := hide (join_no (rc := rc) (w := w7) hno)
            clear hC7 hp7 hl7 hN7 hb7 hpi hli hNi hbi hsz hno c4
            go_wp2_with fail
            refine (unhide HJ).mono ?_
            rintro e w8 ⟨rfl, rfl⟩
            go_wp2
            exact ⟨⟨i + 1, LL2, -1, by omega, rfl, rfl, unhide HF2⟩, by simp only [intOf]; omega⟩
          · obtain ⟨j, q, rfl, rfl, hj1, hq1, hnext⟩ := NumL.more (LL' := LL2) hil hNi hN7 (fun e => hno (.inl e)) (fun e => hno (.inr e)) hp7
            have HJ := hide (join_any hC7 hj1 hq1 (by
              obtain ⟨h, hB, hL1, _⟩ := unhide HF
              have := szs_le l (i + 1)
              omega))
            have HF2 := hide (And.intro (hpi.trans hp7) (And.intro (show LL2.length + 1 ≤ LL.length + szs (l.take (i + 1)) by omega) (And.intro hNi (And.intro hN7 (hbi.trans hb7)))))
            clear hC7 hp7 hl7 hN7 hb7 hpi hli hNi hbi hsz hno c4 hj1 hq1 hnext
            go_wp2_with fail
            refine (unhide HJ).mono ?_
            rintro e w8 ⟨LL3, j3, rfl, hC8, hp8, hl8, hj8, hb8⟩
            obtain ⟨hpi, hli, hNi, hN7, hbi⟩ := unhide HF2
            have HF3 := hide (And.intro hC8 (And.intro (hpi.trans hp8) (And.intro (show LL3.length ≤ LL.length + szs (l.take (i + 1)) by omega) (And.intro (show NumL LL3 (l.take (i + 1)) (j3 : Int) by
              obtain ⟨_, _, _, _, _, _, hx⟩ := NumL.more (LL' := LL3) (LL2 := LL') hil hNi hN7 (by omega) (by omega) (List.prefix_refl _)
              exact hx j3 hj8) (hbi.trans hb8)))))
            clear hC8 hp8 hl8 hj8 hb8 hpi hli hNi hN7 hbi
            go_wp2
            exact ⟨⟨i + 1, LL3, j3, by omega, rfl, rfl, unhide HF3⟩, by simp only [intOf]; omega⟩
        · have hin : i = n := by omega
          have hdi : decide ((i : Int) < (n : Int)) = false := by simp; omega
          have htk : l.take i = l := List.take_of_length_le (by have := unhide HN; omega)
          rw [htk] at hCi hli hNi
          obtain ⟨h, hB, hL1, hT1', hjl, hbB', hpl⟩ := unhide HF
          obtain ⟨k1, k2, k3, kv, f1, f2, f3, qs, hc⟩ := hCi
          have hbw : B ≤ wr.heap.size := hc.bw
          obtain ⟨ds, K⟩ := kok3
          have HAft : Hid (∀ M : World, Below wr.heap.size wr M → ∃ W9, (Instr.mapUpdate 154 (.map (some k3)) (.agg #[.pointer (some ⟨b, off, none⟩), .int .i64 (n : Int)]) (.int .i64 x)).run Tryd.prog M = .ok () W9 ∧ W9.cell? ⟨rc, 2, none⟩ = some (.map (some k3)) ∧ COx W9 B D rc (insAll (gsL l) TT) LL' ∧ Below B w W9) := fun M hM => by
            have hcM := hc.grow hM
            have hwM : Below B w M := hbi.trans (hM.mono hbw)
            have hplM : Plain M b := hpl.below hbB' hwM
            obtain ⟨W9, r1, r2, r3⟩ := gm_update (P := Tryd.prog) K (k := (b, off, (n : Int))) (v := .int .i64 x) um3 hcM.g3 (fun p hp => by
              obtain ⟨_, _, _, _, hp4, _⟩ := hcM.kn p hp
              exact keq3 hplM hp4)
            have h9 := hcM.put3 r2 r3 (fun p hp => by
              rcases putG_mem hp with rfl | hp
              · refine ⟨l, by simp only; rw [unhide HN], fun e => by rw [e] at htk; have := unhide HN; rw [e] at this; simp at this; omega, hbB', hplM, fun j t ht => (hjl j t ht).more hwM (Nat.le_refl _) hdD, ⟨x, rfl, hNi⟩, fun y hy => (insAll_mem h.ci.bg (gsL_bg l)).1 y hy⟩
              · exact hcM.kn p hp)
            exact ⟨W9, r1, (blk h9.cc).2.1 2 _ rfl, ⟨k1, k2, k3, kv, f1, f2, _, qs, h9⟩, hwM.trans (PutAt.bel r2 hcM.b3)⟩
          have HSC : Hid (∀ w', Below wr.heap.size wr w' → (Below wr.heap.size wr w' ∧ w'.cell? ⟨rc, 2, none⟩ = some (.map (some k3)))) := fun w' hb => ⟨hb, (blk (hc.grow hb).cc).2.1 2 _ rfl⟩
          obtain ⟨_, s1⟩ := unhide HSC wr (Below.refl _ wr)
          have HF2 := hide (And.intro hpi (And.intro hli hNi))
          clear hpi hli hNi hbi h hB hL1 hT1' hjl hbB' hpl hc hbw K htk hin c4
          go_wp2
          go_region_held3 (fun w' => w'.cell? ⟨rc, 2, none⟩ = some (.map (some k3))) (first | assumption | exact (unhide HS9) | exact (unhide HSC _ (keep0 _)).2 | exact (unhide HSC _ hT1).2) ((go_at_call 91; refine (keyOf_any b off n c _ hpos hmax2).mono ?_; rintro e v2 ⟨rfl, hv1⟩; have hT1 : Below wr.heap.size wr v2 := (keep0 wr).trans hv1; obtain ⟨W9, hrun, hS9, h10⟩ := unhide HAft v2 hT1; have HS9 := hide hS9; have H10 := hide h10; clear hv1 hS9 h10))
          all_goals
            clear hrun
            go_wp2
            go_ret
            obtain ⟨hpi, hli, hNi⟩ := unhide HF2
            exact ⟨LL', x, rfl, (unhide H10).1, hpi, hli, hNi, (unhide H10).2⟩
end Go.Proofs.YtiockiilenjjaaaDoor
