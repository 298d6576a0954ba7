/- avowlaw7: RupGrows. -/
import Derived.Test.YtmkkhpoedlbafaaQV
set_option linter.unusedVariables false
set_option linter.unusedSimpArgs false

/- Slices that are joined: what appends make of slices of ints, and of slices of such. -/
namespace Go.Proofs.Ytmkkhpoedlbafaa
open Go Go.RowKit Go.Sort
theorem inf_sl2 : ∃ i, Try.prog.info? 23 = some i ∧ i.zero = some (.slice none 0 0) ∧ i.size = 1 ∧ i.bytes = 24 := inf_sl
/-- These values stand in a slice. -/
def Rd (w : World) (s : Value) (vs : List Value) : Prop := (vs = [] ∧ ∃ cap, s = .slice none 0 cap) ∨ ∃ (p : Addr) (cap : Nat), s = .slice (some p) vs.length cap ∧ ∀ (j : Nat) u, vs[j]? = some u → w.cell? (p.add j) = some u
theorem Rd.step {w w2 : World} {s : Value} {vs : List Value} (h : Rd w s vs) (hs : ∀ p : Addr, (w.cell? p).isSome = true → w2.cell? p = w.cell? p) : Rd w2 s vs := by
  rcases h with h | ⟨p, cap, rfl, h2⟩
  · exact .inl h
  · exact .inr ⟨p, cap, rfl, fun j u hu => (hs _ (by rw [h2 j u hu]; rfl)).trans (h2 j u hu)⟩
section
variable {w : World} {B n : Nat} {v s : Value} {xs vs : List Value}
theorem app_of (t e : TypeId) (i : TypeInfo) (z : Value) (bytes : Nat) (ht : Try.prog.underlying t = some (.slice e)) (hi : Try.prog.info? e = some i) (hz : i.zero = some z) (h1 : i.size = 1) (h2 : i.bytes = bytes) (hzs : z.cells.size = 1) (hb : bytes ≤ 24) (hown : w.ownsRow B e 1 v n xs) (hs : Rd w s vs) (hone : ∀ u ∈ vs, u.oneCell' = true) (hn : n + vs.length ≤ 1000000000) (hB : B ≤ w.heap.size) (ty : TypeId) :
    ∃ v' w', (Builtin.append_ #[t, t] ty #[v, s]).run Try.prog w = .ok v' w' ∧ w'.ownsRow B e 1 v' (n + vs.length) (xs ++ vs) ∧ w.grownBy w' v.ownBlock := by
  rcases hs with ⟨rfl, cap, rfl⟩ | ⟨p, cap, rfl, hc⟩
  · refine ⟨v, w, ?_, by simpa using hown, ⟨rfl, rfl, rfl, Nat.le_refl _, fun _ _ _ => rfl⟩⟩
    rcases hown.2 with ⟨rfl, rfl⟩ | ⟨g, c, cur, rfl, _, _, hnc, _⟩
    · simp [Builtin.append_, run_underlying ht, sizeOf, typeInfo, zeroValue, hi, hz, Builtin.lenOf, run_firstCells_none]
    · simp [Builtin.append_, run_underlying ht, sizeOf, typeInfo, zeroValue, hi, hz, Builtin.lenOf, run_firstCells_none, hnc, storeCells]
  · obtain ⟨v', w', hr, ho, hg, _⟩ := run_append_own (P := Try.prog) w B t ty e i z 1 bytes ht hi hz h1 h2 hzs (by omega) v n xs hown p vs.length cap vs (by simp) hc hone (by unfold maxLen; omega) (by
        have : (n + vs.length) * bytes ≤ 1000000000 * 24 := Nat.mul_le_mul hn hb
        omega) hB
    exact ⟨v', w', hr, ho, hg⟩
end
theorem app_rows {w : World} {B n : Nat} {v s : Value} {xs vs : List Value} (hown : w.ownsRow B 23 1 v n xs) (hs : Rd w s vs) (hone : ∀ u ∈ vs, u.oneCell' = true) (hn : n + vs.length ≤ 1000000000) (hB : B ≤ w.heap.size) (ty : TypeId) : ∃ v' w', (Builtin.append_ #[22, 22] ty #[v, s]).run Try.prog w = .ok v' w' ∧ w'.ownsRow B 23 1 v' (n + vs.length) (xs ++ vs) ∧ w.grownBy w' v.ownBlock := by
  obtain ⟨i, hi, hz, h1, h2⟩ := inf_sl
  exact app_of 22 23 i _ 24 us_rows hi hz h1 h2 rfl (by omega) hown hs hone hn hB ty
theorem app_nums {w : World} {B n : Nat} {v s : Value} {xs vs : List Value} (hown : w.ownsRow B 3 1 v n xs) (hs : Rd w s vs) (hone : ∀ u ∈ vs, u.oneCell' = true) (hn : n + vs.length ≤ 1000000000) (hB : B ≤ w.heap.size) (ty : TypeId) : ∃ v' w', (Builtin.append_ #[23, 23] ty #[v, s]).run Try.prog w = .ok v' w' ∧ w'.ownsRow B 3 1 v' (n + vs.length) (xs ++ vs) ∧ w.grownBy w' v.ownBlock := by
  obtain ⟨i, hi, hz, h1, h2⟩ := inf_int
  exact app_of 23 3 i _ 8 us_int hi hz h1 h2 rfl (by omega) hown hs hone hn hB ty
/-- The slices of a slice of slices. -/
structure Vl (w : World) (B : Nat) (vs : List Value) (ls : List (List Int)) : Prop where
  len : vs.length = ls.length
  at_ : ∀ (j : Nat) u l, vs[j]? = some u → ls[j]? = some l → Sl w B u l
theorem Sl.one {w : World} {B : Nat} {u : Value} {l : List Int} (h : Sl w B u l) : u.oneCell' = true := by
  obtain ⟨a, cap, rfl, _⟩ := h.1
  rfl
theorem Vl.one {w : World} {B : Nat} {vs : List Value} {ls : List (List Int)} (h : Vl w B vs ls) : ∀ u ∈ vs, u.oneCell' = true := fun u hu => by
  obtain ⟨j, hj, e⟩ := List.mem_iff_getElem.1 hu
  have hj2 : j < ls.length := by have := h.len; omega
  exact (h.at_ j u _ (by rw [List.getElem?_eq_getElem hj, e]) (List.getElem?_eq_getElem hj2)).one
theorem Vl.app {w : World} {B : Nat} {vs us : List Value} {ls ms : List (List Int)} (h : Vl w B vs ls) (k : Vl w B us ms) : Vl w B (vs ++ us) (ls ++ ms) := by
  refine ⟨by simp [h.len, k.len], fun j u l h1 h2 => ?_⟩
  have hl := h.len
  by_cases e : j < vs.length
  · rw [List.getElem?_append_left e] at h1
    rw [List.getElem?_append_left (by omega)] at h2
    exact h.at_ j u l h1 h2
  · rw [List.getElem?_append_right (by omega)] at h1 h2
    rw [← hl] at h2
    exact k.at_ _ u l h1 h2
theorem Vl.below {w w' : World} {B : Nat} {vs : List Value} {ls : List (List Int)} (h : Vl w B vs ls) (hb : Below B w w') : Vl w' B vs ls := ⟨h.len, fun j u l h1 h2 => (h.at_ j u l h1 h2).below hb⟩
theorem Vl.mono {w : World} {B B' : Nat} {vs : List Value} {ls : List (List Int)} (h : Vl w B vs ls) (hB : B ≤ B') : Vl w B' vs ls := ⟨h.len, fun j u l h1 h2 => (h.at_ j u l h1 h2).mono hB⟩
theorem Vl.nil (w : World) (B : Nat) : Vl w B [] [] := ⟨rfl, fun j u l h => by simp at h⟩
theorem Vl.single {w : World} {B : Nat} {u : Value} {l : List Int} (h : Sl w B u l) : Vl w B [u] [l] := ⟨rfl, fun j u' l' h1 h2 => by
  have hj : j = 0 := by
    have := (List.getElem?_eq_some_iff.1 h1).1
    simp at this; omega
  subst hj
  simp at h1 h2
  subst h1 h2
  exact h⟩
theorem Sl2.vals {w : World} {B : Nat} {v : Value} {ls : List (List Int)} (h : Sl2 w B v ls) : ∃ vs, Rd w v vs ∧ Vl w B vs ls := by
  obtain ⟨⟨a, cap, rfl, h1, h2, ha⟩, hc⟩ := h
  by_cases h0 : ls.length = 0
  · have : ls = [] := List.eq_nil_of_length_eq_zero h0
    subst this
    refine ⟨[], ?_, Vl.nil _ _⟩
    cases a with
    | none => exact .inl ⟨rfl, cap, rfl⟩
    | some p => exact .inr ⟨p, cap, rfl, fun j u h => by simp at h⟩
  · obtain ⟨b, off, rfl, hlt⟩ := ha h0
    refine ⟨(List.range ls.length).map fun j => (w.cell? ⟨b, off + j, none⟩).getD undef, .inr ⟨⟨b, off, none⟩, cap, by simp, fun j u hu => ?_⟩, by simp, fun j u l hu hl => ?_⟩
    · have hj : j < ls.length := by have := (List.getElem?_eq_some_iff.1 hu).1; simpa using this
      have h3 := (hc j hj).1
      simp only [adr] at h3
      obtain ⟨x, hx⟩ := Option.isSome_iff_exists.1 h3
      simp [hj, hx] at hu
      have e : (⟨b, off, none⟩ : Addr).add j = ⟨b, off + j, none⟩ := by simp [Addr.add]
      rw [e, hx, hu]
    · have hj : j < ls.length := (List.getElem?_eq_some_iff.1 hl).1
      have h3 := (hc j hj).2
      simp only [cv, adr] at h3
      simp [hj] at hu
      rw [(List.getElem?_eq_some_iff.1 hl).2] at h3
      rw [← hu]
      exact h3
theorem Sl.vals {w : World} {B : Nat} {v : Value} {xs : List Int} (h : Sl w B v xs) : Rd w v (xs.map (Value.int .i64)) := by
  obtain ⟨⟨a, cap, rfl, h1, h2, ha⟩, hc⟩ := h
  by_cases h0 : xs.length = 0
  · have : xs = [] := List.eq_nil_of_length_eq_zero h0
    subst this
    cases a with
    | none => exact .inl ⟨rfl, cap, rfl⟩
    | some p => exact .inr ⟨p, cap, rfl, fun j u h => by simp at h⟩
  · obtain ⟨b, off, rfl, hlt⟩ := ha h0
    refine .inr ⟨⟨b, off, none⟩, cap, by simp, fun j u hu => ?_⟩
    have hj : j < xs.length := by have := (List.getElem?_eq_some_iff.1 hu).1; simpa using this
    have h3 := (hc j hj).1
    simp only [cv, adr] at h3
    have e : (⟨b, off, none⟩ : Addr).add j = ⟨b, off + j, none⟩ := by simp [Addr.add]
    simp [hj] at hu
    rw [e, ← hu]
    cases hx : w.cell? ⟨b, off + j, none⟩ with
    | none => rw [hx] at h3; cases h3
    | some x => rw [hx] at h3; simp at h3; rw [h3]
theorem Sl.rng {w : World} {B : Nat} {v : Value} {xs : List Int} (h : Sl w B v xs) : ∀ x ∈ xs, -9223372036854775808 ≤ x ∧ x ≤ 9223372036854775807 := fun x hx => by
  obtain ⟨j, hj, e⟩ := List.mem_iff_getElem.1 hx
  rw [← e]
  exact (h.2 j hj).2
/-- A row of slices of one's own. -/
theorem Sl2.own {w : World} {B B' : Nat} {v : Value} {vs : List Value} {ls : List (List Int)} (h : w.ownsRow B 23 1 v ls.length vs) (hB : w.heap.size ≤ B') (hx : Vl w B' vs ls) : Sl2 w B' v ls := by
  rcases h.2 with ⟨rfl, h0⟩ | ⟨g, cap, cur, rfl, _, hg, h5, h6, h7, h8⟩
  · have : ls = [] := List.eq_nil_of_length_eq_zero h0
    subst this
    exact ⟨⟨none, 0, rfl, Nat.le_refl _, by omega, fun h => absurd rfl h⟩, fun j hj => absurd hj (Nat.not_lt_zero _)⟩
  · unfold maxLen at h6
    have hlt := lt_of_heap hg
    refine ⟨⟨some ⟨g, 0, none⟩, cap, rfl, h5, by omega, fun _ => ⟨g, 0, rfl, by omega⟩⟩, fun j hj => ?_⟩
    have hj' : j < vs.length := by rw [hx.len]; exact hj
    have hc := h.cellAt j (by omega)
    have e : w.cell? ⟨g, 0 + j, none⟩ = some vs[j] := by rw [Nat.zero_add, hc, List.getElem?_eq_getElem hj']
    refine ⟨by simp only [adr]; rw [e]; rfl, ?_⟩
    simp only [cv, adr]
    rw [e]
    exact hx.at_ j _ _ (List.getElem?_eq_getElem hj') (List.getElem?_eq_getElem hj)
/-- A row of ints of one's own. -/
theorem Sl.own {w : World} {B B' : Nat} {v : Value} {xs : List Int} (h : w.ownsRow B 3 1 v xs.length (xs.map (Value.int .i64))) (hB : w.heap.size ≤ B') (hx : ∀ x ∈ xs, -9223372036854775808 ≤ x ∧ x ≤ 9223372036854775807) : Sl w B' v xs := by
  rcases h.2 with ⟨rfl, h0⟩ | ⟨g, cap, cur, rfl, _, hg, h5, h6, h7, h8⟩
  · have : xs = [] := List.eq_nil_of_length_eq_zero h0
    subst this
    exact Sl.nil _ _
  · unfold maxLen at h6
    have hlt := lt_of_heap hg
    refine ⟨⟨some ⟨g, 0, none⟩, cap, rfl, h5, by omega, fun _ => ⟨g, 0, rfl, by omega⟩⟩, fun j hj => ⟨?_, hx _ (List.getElem_mem hj)⟩⟩
    have hc := h.cellAt j (by omega)
    simp only [cv, adr]
    rw [Nat.zero_add, hc]
    simp [hj]
theorem own_nil (w : World) (B : Nat) (t : TypeId) : w.ownsRow B t 1 (.slice none 0 0) 0 [] := ⟨rfl, .inl ⟨rfl, rfl⟩⟩
theorem below_app {w0 w w' : World} {B : Nat} {v : Value} {t : TypeId} {n : Nat} {xs : List Value} (hb : Below B w0 w) (hg : w.grownBy w' v.ownBlock) (ho : w.ownsRow B t 1 v n xs) (hB : B ≤ w.heap.size) : Below B w0 w' := hb.grown hg hB (fun b e => (ho.lt b e).1)
end Go.Proofs.Ytmkkhpoedlbafaa

namespace Go.Proofs.Ytmkkhpoedlbafaa
open Go Go.RowKit Go.Sort
/-- What light is handed: two slices of slices, and two clauses. -/
theorem pack3 {w1 : World} {B n m cap capl n2 m2 cap2 capl2 : Nat} {a al a2 al2 : Option Addr} {ls ms : List (List Int)} {xs ds : List Int} (hB : B ≤ w1.heap.size) (hL : Sl2 w1 B (.slice al m capl) ls) (hM : Sl2 w1 B (.slice al2 m2 capl2) ms) (hS : Sl w1 B (.slice a n cap) xs) (hD : Sl w1 B (.slice a2 n2 cap2) ds) :
    Sl3 ((w1.alloc (.cells #[.slice a n cap, .slice a2 n2 cap2] 23)).alloc (.cells #[.slice al m capl, .slice al2 m2 capl2, .slice (some ⟨w1.heap.size, 0, none⟩) 2 2] 22)) (w1.heap.size + 2) (.slice (some ⟨w1.heap.size + 1, 0, none⟩) 3 3) [ls, ms, [xs, ds]] := by
  have e : (w1.alloc (.cells #[.slice a n cap, .slice a2 n2 cap2] 23)).alloc (.cells #[.slice al m capl, .slice al2 m2 capl2, .slice (some ⟨w1.heap.size, 0, none⟩) 2 2] 22) = grow w1 #[.cells #[.slice a n cap, .slice a2 n2 cap2] 23, .cells #[.slice al m capl, .slice al2 m2 capl2, .slice (some ⟨w1.heap.size, 0, none⟩) 2 2] 22] := by
    simp only [alloc_eq_grow, grow_grow]
    rfl
  rw [e]
  have g := fun i hi => grow_at w1 #[.cells #[.slice a n cap, .slice a2 n2 cap2] 23, .cells #[.slice al m capl, .slice al2 m2 capl2, .slice (some ⟨w1.heap.size, 0, none⟩) 2 2] 22] i hi
  have hb := below_grow w1 #[.cells #[.slice a n cap, .slice a2 n2 cap2] 23, .cells #[.slice al m capl, .slice al2 m2 capl2, .slice (some ⟨w1.heap.size, 0, none⟩) 2 2] 22]
  generalize grow w1 #[.cells #[.slice a n cap, .slice a2 n2 cap2] 23, .cells #[.slice al m capl, .slice al2 m2 capl2, .slice (some ⟨w1.heap.size, 0, none⟩) 2 2] 22] = W at g hb
  have hL' := (hL.below (hb.mono hB)).mono (show B ≤ w1.heap.size + 2 by omega)
  have hM' := (hM.below (hb.mono hB)).mono (show B ≤ w1.heap.size + 2 by omega)
  have hS' := (hS.below (hb.mono hB)).mono (show B ≤ w1.heap.size + 2 by omega)
  have hD' := (hD.below (hb.mono hB)).mono (show B ≤ w1.heap.size + 2 by omega)
  refine Sl3.at (g := w1.heap.size + 1) (cap := 3) (lls := [ls, ms, [xs, ds]]) (vs := [.slice al m capl, .slice al2 m2 capl2, .slice (some ⟨w1.heap.size, 0, none⟩) 2 2]) (g 1 (by simp)) rfl (by simp) ?_
  intro j v l h1 h2
  have hj : j = 0 ∨ j = 1 ∨ j = 2 := by
    have := (List.getElem?_eq_some_iff.1 h1).1
    simp at this; omega
  rcases hj with rfl | rfl | rfl <;> simp at h1 h2 <;> subst h1 h2
  · exact hL'
  · exact hM'
  · refine Sl2.at (g := w1.heap.size) (cap := 2) (ls := [xs, ds]) (vs := [.slice a n cap, .slice a2 n2 cap2]) (g 0 (by simp)) (by omega) rfl (Nat.le_refl _) (by simp) ?_
    intro j v l h1 h2
    have hj : j = 0 ∨ j = 1 := by
      have := (List.getElem?_eq_some_iff.1 h1).1
      simp at this; omega
    rcases hj with rfl | rfl <;> simp at h1 h2 <;> subst h1 h2
    · exact hS'
    · exact hD'
/-- An append whose run is known, at the list of a plain region's operations. -/
theorem app_run {ops : Array Oper} {rest : List Oper} {o : Oper} {a : Act} {Q : Exit → Act → World → Prop} {w w' : World} {v u v' : Value} (s x : Operand) (t : TypeId) (ho : o.op = .call { callee := .builtin .append, args := #[s, x], argTypes := #[t, t] }) (hs : a.eval s = v) (hx : a.eval x = u) (hw : Region.wanted o (yielded ops a.tmps) = true) (hr : (Builtin.append_ #[t, t] o.type #[v, u]).run Try.prog w = .ok v' w') (h : wpList Try.prog ops Q rest (a.put o.dst v') w') : wpList Try.prog ops Q (o :: rest) a w := by
  unfold wpList
  rw [if_pos hw]
  left
  unfold Oper.wp execOp
  simp only [ho, resolve, invoke, builtin, Sem.run_bind, Sem.run_pure, Result.andThen_ok, List.map_toArray, List.map_cons, List.map_nil, hs, hx, hr]
  exact h
theorem two_bad {x : Int} (h : ¬ LitOk x) : (x == 0) = true ∨ ((x == 0) = false ∧ (x == -9223372036854775808) = true) := by
  unfold LitOk at h
  by_cases e : x = 0
  · exact .inl (by simp [e])
  · refine .inr ⟨by simpa using e, ?_⟩
    have : x = -9223372036854775808 := by omega
    simp [this]
theorem two_good {x : Int} (h : LitOk x) : (x == 0) = false ∧ (x == -9223372036854775808) = false := ⟨by simpa using h.1, by simpa using h.2⟩
/-- Joined slices, as Follows wants them. -/
theorem join_rows {w : World} {B : Nat} {vm vl : Value} {ms ls : List (List Int)} (hB : B ≤ w.heap.size) (hM : Sl2 w B vm ms) (hL : Sl2 w B vl ls) (hT : tot ms + tot ls ≤ 100000000) : ∃ v1 w1 v2 w2, (Builtin.append_ #[22, 22] 22 #[.slice none 0 0, vm]).run Try.prog w = .ok v1 w1 ∧ (Builtin.append_ #[22, 22] 22 #[v1, vl]).run Try.prog w1 = .ok v2 w2 ∧ Sl2 w2 w2.heap.size v2 (ms ++ ls) ∧ Below w.heap.size w w2 := by
  obtain ⟨um, rm, km⟩ := hM.vals
  obtain ⟨ul, _, kl⟩ := hL.vals
  have t1 := tot_len ms
  have t2 := tot_len ls
  have lm := km.len
  have ll := kl.len
  obtain ⟨v1, w1, r1, o1, g1⟩ := app_rows (own_nil w w.heap.size 23) rm km.one (by omega) (Nat.le_refl _) 22
  have b1 : Below w.heap.size w w1 := below_app (Below.refl _ w) g1 (own_nil w w.heap.size 23) (Nat.le_refl _)
  obtain ⟨ul', rl', kl'⟩ := (hL.below (b1.mono hB)).vals
  have ll' := kl'.len
  obtain ⟨v2, w2, r2, o2, g2⟩ := app_rows o1 rl' kl'.one (by omega) b1.size 22
  have b2 : Below w.heap.size w w2 := below_app b1 g2 o1 b1.size
  refine ⟨v1, w1, v2, w2, r1, r2, ?_, b2⟩
  have b12 : Below B w1 w2 := by
    have h := b2.mono hB
    have h' := b1.mono hB
    exact ⟨h.os.trans h'.os.symm, h.tape.trans h'.tape.symm, h.output.trans h'.output.symm, g2.size, fun k hk => (h.block k hk).trans (h'.block k hk).symm⟩
  have hk := ((km.below (b2.mono hB)).mono (Nat.le_trans hB b2.size)).app ((kl'.below b12).mono (Nat.le_trans hB b2.size))
  refine Sl2.own (vs := um ++ ul') (B := w.heap.size) ?_ (Nat.le_refl _) hk
  have e : (ms ++ ls).length = 0 + um.length + ul'.length := by simp; omega
  rw [e]
  simpa using o2
theorem join_nums {w : World} {B : Nat} {vc vd : Value} {xs ds : List Int} (hB : B ≤ w.heap.size) (hS : Sl w B vc xs) (hD : Sl w B vd ds) (hT : xs.length + ds.length ≤ 100000000) : ∃ v1 w1 v2 w2, (Builtin.append_ #[23, 23] 23 #[.slice none 0 0, vc]).run Try.prog w = .ok v1 w1 ∧ (Builtin.append_ #[23, 23] 23 #[v1, vd]).run Try.prog w1 = .ok v2 w2 ∧ Sl w2 w2.heap.size v2 (xs ++ ds) ∧ Below w.heap.size w w2 := by
  have one : ∀ (l : List Int), ∀ u ∈ l.map (Value.int .i64), u.oneCell' = true := fun l u hu => by
    obtain ⟨x, _, rfl⟩ := List.mem_map.1 hu
    rfl
  obtain ⟨v1, w1, r1, o1, g1⟩ := app_nums (own_nil w w.heap.size 3) hS.vals (one xs) (by simp; omega) (Nat.le_refl _) 23
  have b1 : Below w.heap.size w w1 := below_app (Below.refl _ w) g1 (own_nil w w.heap.size 3) (Nat.le_refl _)
  obtain ⟨v2, w2, r2, o2, g2⟩ := app_nums o1 (hD.below (b1.mono hB)).vals (one ds) (by simp; omega) b1.size 23
  have b2 : Below w.heap.size w w2 := below_app b1 g2 o1 b1.size
  refine ⟨v1, w1, v2, w2, r1, r2, ?_, b2⟩
  refine Sl.own (B := w.heap.size) ?_ (Nat.le_refl _) (fun x hx => by
    rcases List.mem_append.1 hx with h | h
    · exact hS.rng x h
    · exact hD.rng x h)
  have e : (xs ++ ds).length = 0 + (xs.map (Value.int .i64)).length + (ds.map (Value.int .i64)).length := by simp
  rw [e, List.map_append]
  simpa using o2
set_option maxRecDepth 100000 in
set_option maxHeartbeats 16000000 in
theorem rupgrows_walk (vl vm v vd : Value) (ls ms : List (List Int)) (xs ds : List Int) (w : World) (hL : Sl2 w w.heap.size vl ls) (hM : Sl2 w w.heap.size vm ms) (hS : Sl w w.heap.size v xs) (hD : Sl w w.heap.size vd ds) (hlen : ∀ d ∈ [ls, ms, [xs, ds]], ∀ c ∈ d, c.length ≤ 17592186044416) :
    Calls Try.prog 6 #[vl, vm, v, vd] w (YesPost w) := by
  obtain ⟨B, hB⟩ : ∃ B, w.heap.size = B := ⟨_, rfl⟩
  have hBw : B ≤ w.heap.size := by omega
  rw [hB] at hL hM hS hD
  obtain ⟨al, capl, rfl, hmaxl, _⟩ := hL.open
  obtain ⟨al2, capl2, rfl, hmaxl2, _⟩ := hM.open
  obtain ⟨a, cap, rfl, hmax, _⟩ := hS.open
  obtain ⟨a2, cap2, rfl, hmax2, hcd⟩ := hD.open
  obtain ⟨nd, hnd⟩ : ∃ nd, ds.length = nd := ⟨_, rfl⟩
  rw [hnd] at hmax2 hD ⊢
  have HAll : Hid (∀ W, Below B w W → Sl2 W B (.slice al ls.length capl) ls ∧ Sl2 W B (.slice al2 ms.length capl2) ms ∧ Sl W B (.slice a xs.length cap) xs ∧ Sl W B (.slice a2 nd cap2) ds) := fun W h => ⟨hL.below h, hM.below h, hS.below h, hD.below h⟩
  obtain ⟨m, hm⟩ : ∃ m, ls.length = m := ⟨_, rfl⟩
  obtain ⟨m2, hm2⟩ : ∃ m2, ms.length = m2 := ⟨_, rfl⟩
  obtain ⟨n, hn⟩ : ∃ n, xs.length = n := ⟨_, rfl⟩
  rw [hm, hm2, hn] at HAll
  rw [hm, hm2, hn]
  rw [hm] at hmaxl
  rw [hm2] at hmaxl2
  rw [hn] at hmax
  have HND := hide hnd
  have HCD := hide hcd
  have HLen := hide hlen
  have HBB := hide hB
  clear hL hM hS hD hlen hB hm hm2 hn hnd hcd
  go_enter Try.func6, Try.ntmps6
  go_wp2_with fail
  refine (known_any w).mono ?_
  rintro e w1 ⟨rfl, hb1⟩
  go_wp2_with fail
  have hB1 : B ≤ w1.heap.size := Nat.le_trans hBw hb1.size
  have hb1' := hb1.mono hBw
  obtain ⟨l1, l2, l3, l4⟩ := unhide HAll w1 hb1'
  have hP := pack3 hB1 l1 l2 l3 l4
  have hbW : Below w1.heap.size w1 ((w1.alloc (.cells #[.slice a n cap, .slice a2 nd cap2] 23)).alloc (.cells #[.slice al m capl, .slice al2 m2 capl2, .slice (some ⟨w1.heap.size, 0, none⟩) 2 2] 22)) := ((Below.refl _ w1).alloc (Nat.le_refl _) _).alloc (by simp) _
  have hBW := hb1'.trans (hbW.mono hB1)
  refine (light_is _ _ _ _ hP (unhide HLen)).mono ?_
  clear hP l1 l2 l3 l4
  rintro e w2 ⟨bl, rfl, rfl, hbl⟩
  clear hbW
  generalize ((w1.alloc (.cells #[.slice a n cap, .slice a2 nd cap2] 23)).alloc (.cells #[.slice al m capl, .slice al2 m2 capl2, .slice (some ⟨w1.heap.size, 0, none⟩) 2 2] 22)) = w2 at *
  have H2 := hide hBW
  have HBl := hide hbl
  clear hBW hbl hb1 hb1' hB1
  cases bl with
  | false =>
    go_wp2
    go_ret
    exact ⟨rfl, by rw [unhide HBB]; exact unhide H2⟩
  | true =>
    have htot : tot ls + tot ms + xs.length + ds.length ≤ 1000 := by
      have := unhide HBl rfl
      simp [totl, tot] at this
      simp [tot]
      omega
    have HTot := hide htot
    have hB2 : B ≤ w2.heap.size := Nat.le_trans hBw (by have := (unhide H2).size; omega)
    go_wp2_with fail
    refine (rFollows_any w2 _ _ ls xs ((unhide HAll w2 (unhide H2)).1.mono hB2) ((unhide HAll w2 (unhide H2)).2.2.1.mono hB2) (by omega)).mono ?_
    rintro e w3 ⟨bf, rfl, hfol, hb3⟩
    have H3 := hide ((unhide H2).trans (hb3.mono hB2))
    have hB3 : B ≤ w3.heap.size := Nat.le_trans hB2 hb3.size
    have HFol := hide hfol
    clear hfol hb3 HBl HLen htot
    cases bf with
    | false =>
      go_wp2
      go_ret
      exact ⟨rfl, by rw [unhide HBB]; exact unhide H3⟩
    | true =>
      have HF := hide ((unhide HFol).1 rfl)
      clear HFol
      go_wp2
      go_loop [9] (fun iv => ∃ i : Nat, i ≤ nd ∧ iv = .int .i64 i ∧ Hid (∀ k (hk : k < ds.length), k < i → LitOk ds[k])) (fun iv => nd - (intOf iv).toNat)
      case atStart => exact ⟨0, Nat.zero_le _, rfl, fun k _ h => absurd h (Nat.not_lt_zero _)⟩
      case round =>
        obtain ⟨i, hi0, rfl, HA⟩ := hrel
        by_cases hi : i < nd
        · have hil : i < ds.length := by rw [unhide HND]; exact hi
          obtain ⟨b, off, rfl, hc0, hbB⟩ := unhide HCD i hil
          have hc := ((unhide H3).cell (p := ⟨b, off + i, none⟩) hbB).trans hc0
          obtain ⟨x, hx⟩ : ∃ x, ds[i] = x := ⟨_, rfl⟩
          rw [hx] at hc
          have p1 : (0 : Int) ≤ (i : Int) := by omega
          have p2 : (i : Int) < (nd : Int) := by omega
          have HX := hide hx
          clear hc0 hx
          by_cases hg : LitOk x
          · have HG := hide hg
            obtain ⟨g1, g2⟩ := two_good hg
            clear hg
            go_wp2
            refine ⟨⟨i + 1, by omega, by simp, fun k hk hki => ?_⟩, by simp [intOf]; omega⟩
            by_cases e : k = i
            · subst e; rw [unhide HX]; exact unhide HG
            · exact unhide HA k hk (by omega)
          · rcases two_bad hg with g1 | ⟨g1, g2⟩
            · clear hg
              go_wp2
              go_ret
              exact ⟨rfl, by rw [unhide HBB]; exact unhide H3⟩
            · clear hg
              go_wp2
              go_ret
              exact ⟨rfl, by rw [unhide HBB]; exact unhide H3⟩
        · have hW : Whole ds := fun x hx => by
            obtain ⟨k, hk, e⟩ := List.mem_iff_getElem.1 hx
            rw [← e]
            exact unhide HA k hk (by have := unhide HND; omega)
          have hf : decide ((i : Int) < (nd : Int)) = false := by simp; omega
          have hle : (nd : Int) ≤ (i : Int) := by omega
          have ht := unhide HTot
          obtain ⟨j1, j2, j3, j4⟩ := unhide HAll w3 (unhide H3)
          obtain ⟨v1, w4, v2, w5, r1, r2, s5, b5⟩ := join_rows hB3 j2 j1 (by omega)
          have hB5 : B ≤ w5.heap.size := Nat.le_trans hB3 b5.size
          have H5 := hide ((unhide H3).trans (b5.mono hB3))
          have HFo : Hid (Calls Try.prog 13 #[v2, .slice a n cap] w5 fun e w' => e = .returned (.bool true) ∧ Below B w w' ∧ B ≤ w'.heap.size) := by
            refine (rFollows_any w5 v2 _ (ms ++ ls) xs s5 ((unhide HAll w5 (unhide H5)).2.2.1.mono hB5) (by rw [tot_app]; omega)).mono ?_
            rintro e w6 ⟨b, rfl, h1, h2⟩
            have : b = true := h1.2 ((unhide HF).more fun d hd => List.mem_append_right _ hd)
            subst this
            exact ⟨rfl, (unhide H5).trans (h2.mono hB5), Nat.le_trans hB5 h2.size⟩
          have HLast : Hid (∀ w6, Below B w w6 → B ≤ w6.heap.size → ∃ v3 w7 v4 w8, (Builtin.append_ #[23, 23] 23 #[.slice none 0 0, .slice a n cap]).run Try.prog w6 = .ok v3 w7 ∧ (Builtin.append_ #[23, 23] 23 #[v3, .slice a2 nd cap2]).run Try.prog w7 = .ok v4 w8 ∧ Calls Try.prog 13 #[.slice al m capl, v4] w8 fun e w' => e = .returned (.bool true) ∧ Below B w w') := by
            intro w6 h6 hB6
            obtain ⟨k1, k2, k3, k4⟩ := unhide HAll w6 h6
            obtain ⟨v3, w7, v4, w8, q1, q2, s8, b8⟩ := join_nums hB6 k3 k4 (by omega)
            have hB8 : B ≤ w8.heap.size := Nat.le_trans hB6 b8.size
            have h8 := h6.trans (b8.mono hB6)
            refine ⟨v3, w7, v4, w8, q1, q2, (rFollows_any w8 _ v4 ls (xs ++ ds) ((unhide HAll w8 h8).1.mono hB8) s8 (by simp; omega)).mono ?_⟩
            rintro e w9 ⟨b, rfl, h1, h2⟩
            have : b = true := h1.2 ((unhide HF).lits hW)
            subst this
            exact ⟨rfl, h8.trans (h2.mono hB8)⟩
          have R1 := hide r1
          have R2 := hide r2
          clear HA hW ht j1 j2 j3 j4 s5 b5 HF HTot HCD r1 r2
          go_wp2_with (first
            | (at_builtin; refine app_run _ _ _ rfl rfl rfl rfl (unhide R1) ?_; clear R1)
            | (at_builtin; refine app_run _ _ _ rfl rfl rfl rfl (unhide R2) ?_; clear R2)
            | (at_builtin; refine app_run _ _ _ rfl rfl rfl rfl (unhide Q1) ?_; clear Q1)
            | (at_builtin; refine app_run _ _ _ rfl rfl rfl rfl (unhide Q2) ?_; clear Q2)
            | (go_at_call 13; refine (unhide HC8).mono ?_; intro e w9 h9; obtain ⟨rfl, h9⟩ := h9; have H9 := hide h9; clear h9)
            | (go_at_call 13; refine (unhide HFo).mono ?_; intro e w6 h6; obtain ⟨rfl, h6, hB6⟩ := h6; obtain ⟨v3, w7, v4, w8, q1, q2, hc8⟩ := unhide HLast w6 h6 hB6; have HC8 := hide hc8; have Q1 := hide q1; have Q2 := hide q2; clear hc8 h6 hB6 q1 q2))
          go_ret
          exact ⟨rfl, by rw [unhide HBB]; exact unhide H9⟩
end Go.Proofs.Ytmkkhpoedlbafaa
