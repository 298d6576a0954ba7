/- Numbers in boxes: a block that holds a number's two cells, while other blocks are made and written. -/
import Derived.Test.YtlcfldkmojpkpaaGreatDoorJ
namespace Go.Proofs.YtlcfldkmojpkpaaGreatDoor
open Go.RowKit

/-- The block R holds the number value v. -/
def Bx (W : World) (R : Nat) (v : Value) : Prop := ∃ n a l c, v = .agg #[.int .i64 n, .slice a l c] ∧ W.heap[R]? = some (.cells #[.int .i64 n, .slice a l c] 26)
theorem Bx.lt {W : World} {R : Nat} {v : Value} (h : Bx W R v) : R < W.heap.size := by
  obtain ⟨_, _, _, _, _, h⟩ := h
  exact (Array.getElem?_eq_some_iff.1 h).1
/-- .. so its cells. -/
theorem Bx.facts {W : World} {R : Nat} {n : Int} {a : Option Addr} {l c : Nat} (h : Bx W R (.agg #[.int .i64 n, .slice a l c])) : W.cell? ⟨R, 0, none⟩ = some (.int .i64 n) ∧ W.cell? ⟨R, 1, none⟩ = some (.slice a l c) ∧ W.frozen? ⟨R, 0, none⟩ = false ∧ W.frozen? ⟨R, 1, none⟩ = false := by
  obtain ⟨n', a', l', c', e, h⟩ := h
  simp only [Value.agg.injEq, Array.mk.injEq, List.cons.injEq, Value.int.injEq, Value.slice.injEq, true_and, and_true] at e
  obtain ⟨rfl, rfl, rfl, rfl⟩ := e
  refine ⟨?_, ?_, ?_, ?_⟩
  · simp [World.cell?, h]
  · simp [World.cell?, h]
  · simp [World.frozen?, h]
  · simp [World.frozen?, h]
theorem Bx.below {W W' : World} {R : Nat} {v : Value} (h : Bx W R v) (hb : Below W.heap.size W W') : Bx W' R v := by
  have hl := h.lt
  obtain ⟨n, a, l, c, e, h⟩ := h
  exact ⟨n, a, l, c, e, (hb.block R hl).trans h⟩
theorem Bx.belowN {W W' : World} {B R : Nat} {v : Value} (h : Bx W R v) (hb : Below B W W') (hl : R < B) : Bx W' R v := by
  obtain ⟨n, a, l, c, e, h⟩ := h
  exact ⟨n, a, l, c, e, (hb.block R hl).trans h⟩
theorem Bx.drew {W : World} {R : Nat} {v : Value} (h : Bx W R v) : Bx W.drew R v := h
theorem Bx.new (W : World) (n : Int) (a : Option Addr) (l c : Nat) : Bx (W.alloc (.cells #[.int .i64 n, .slice a l c] 26)) W.heap.size (.agg #[.int .i64 n, .slice a l c]) := ⟨n, a, l, c, rfl, heap_alloc_new W _⟩
theorem Bx.alloc {W : World} {R : Nat} {v : Value} (h : Bx W R v) (o : Obj) : Bx (W.alloc o) R v := h.below ((Below.refl _ W).alloc (Nat.le_refl _) _)
theorem heap_set {W : World} {R : Nat} {c0 c1 v0 v1 : Value} {T : TypeId} (h : W.heap[R]? = some (.cells #[c0, c1] T)) : ((W.setCell ⟨R, 0, none⟩ v0).setCell ⟨R, 1, none⟩ v1).heap[R]? = some (.cells #[v0, v1] T) := by
  simp [World.setCell, Array.getElem?_modify, h]
theorem Bx.set {W : World} {R : Nat} {v : Value} (h : Bx W R v) (n : Int) (a : Option Addr) (l c : Nat) : Bx ((W.setCell ⟨R, 0, none⟩ (.int .i64 n)).setCell ⟨R, 1, none⟩ (.slice a l c)) R (.agg #[.int .i64 n, .slice a l c]) := by
  obtain ⟨_, _, _, _, _, h⟩ := h
  exact ⟨n, a, l, c, rfl, heap_set h⟩
theorem Bx.other {W : World} {R : Nat} {v : Value} (h : Bx W R v) {p : Addr} (hp : p.block ≠ R) (x : Value) : Bx (W.setCell p x) R v := by
  obtain ⟨n, a, l, c, e, h⟩ := h
  exact ⟨n, a, l, c, e, (Below.heap_setCell _ _ _ _ (fun e => hp e.symm)).trans h⟩
/-- A number is kept while a box is written. -/
theorem IsI.put {W : World} {v u : Value} {z : Int} (h : IsI W v z) {R : Nat} (hR : Bx W R u) (c0 c1 : Value) : IsI ((W.setCell ⟨R, 0, none⟩ c0).setCell ⟨R, 1, none⟩ c1) v z := by
  obtain ⟨n, a, l, c, _, hR⟩ := hR
  rcases h with h | ⟨b, off, cap, xs, e, h1, h2, h3, h4, h5, h6, h7⟩
  · exact .inl h
  · have hbR := h3.ne (IsI.ne_nil h6 h7) (by intro q; simp) hR
    refine .inr ⟨b, off, cap, xs, e, h1, by simpa using h2, fun j hj => ?_, h4, h5, h6, h7⟩
    rw [World.cell?_setCell_other _ _ _ _ (by intro e; injection e with e1; exact hbR e1.symm), World.cell?_setCell_other _ _ _ _ (by intro e; injection e with e1; exact hbR e1.symm)]
    exact h3 j hj
theorem below_put {B : Nat} {w W : World} (h : Below B w W) {R : Nat} (hR : B ≤ R) (c0 c1 : Value) : Below B w ((W.setCell ⟨R, 0, none⟩ c0).setCell ⟨R, 1, none⟩ c1) := (h.setCell (p := ⟨R, 0, none⟩) hR _).setCell (p := ⟨R, 1, none⟩) hR _
/-- A value is one number alone. -/
theorem IsI.inj {W : World} {v : Value} {y z : Int} (h : IsI W v y) (k : IsI W v z) : y = z := by
  rcases h with ⟨rfl, h1, h2⟩ | ⟨b, off, cap, xs, rfl, h1, h2, h3, h4, h5, h6, h7⟩
  · rcases k with ⟨e, _⟩ | ⟨b, off, cap, xs, e, _⟩
    · simpa using e
    · simp at e
  · rcases k with ⟨e, _⟩ | ⟨b', off', cap', xs', e, k1, k2, k3, k4, k5, k6, k7⟩
    · simp at e
    · simp only [Value.agg.injEq, Array.mk.injEq, List.cons.injEq, Value.int.injEq, Value.slice.injEq, Option.some.injEq, Addr.mk.injEq, true_and, and_true] at e
      obtain ⟨e1, ⟨rfl, rfl⟩, e2, rfl⟩ := e
      have hx : xs = xs' := by
        apply List.ext_getElem e2
        intro i a b
        have p := h3 i a
        rw [k3 i b] at p
        simp only [Option.some.injEq, Value.int.injEq, true_and] at p
        rw [List.getElem?_eq_getElem a, List.getElem?_eq_getElem b] at p
        exact p.symm
      subst hx
      rw [h6] at k6
      by_cases hy : y < 0
      · by_cases hz : z < 0
        · omega
        · rw [if_pos hy, if_neg hz] at e1; omega
      · by_cases hz : z < 0
        · rw [if_neg hy, if_pos hz] at e1; omega
        · omega
theorem Bx.inj {W : World} {R : Nat} {v u : Value} (h : Bx W R v) (k : Bx W R u) : v = u := by
  obtain ⟨n, a, l, c, rfl, h⟩ := h
  obtain ⟨n', a', l', c', rfl, k⟩ := k
  rw [h] at k
  simpa using k
/-- There is a measure that tells the size of the number in a box. -/
theorem bx_nat : ∃ f : World → Nat → Nat, ∀ {W : World} {R : Nat} {v : Value} {z : Int}, Bx W R v → IsI W v z → f W R = z.natAbs := by
  refine ⟨fun W R => @dite _ (∃ z : Int, ∃ v, Bx W R v ∧ IsI W v z) (Classical.propDecidable _) (fun h => (Classical.choose h).natAbs) (fun _ => 0), ?_⟩
  intro W R v z hb hi
  have h : ∃ z : Int, ∃ v, Bx W R v ∧ IsI W v z := ⟨z, v, hb, hi⟩
  obtain ⟨u, k1, k2⟩ := Classical.choose_spec h
  obtain rfl := hb.inj k1
  show @dite _ _ (Classical.propDecidable _) _ _ = _
  rw [dif_pos h, hi.inj k2]

end Go.Proofs.YtlcfldkmojpkpaaGreatDoor
