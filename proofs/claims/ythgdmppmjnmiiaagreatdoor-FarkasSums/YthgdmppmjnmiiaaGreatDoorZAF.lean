/- A region that draws its order, walked by a spec an operation: whatever order is picked, each operation finds what those that it waits for have left, and leaves what its own spec says. -/
import Derived.Test.YthgdmppmjnmiiaaGreatDoorZAE
import Derived.Test.YthgdmppmjnmiiaaGreatDoorZAB
import Derived.Test.YthgdmppmjnmiiaaGreatDoorZAD
import Derived.Test.YthgdmppmjnmiiaaGreatDoorZAC
import Derived.Deep.QuietTactic
import Derived.BigQuiet
import Derived.Lib.AppendIntMem
import Derived.Orders
import Derived.Below
import Derived.Tactics
import Derived.OrdersIn
import Derived.RangeFuncCalls
set_option linter.unusedVariables false
set_option linter.unusedSimpArgs false

/- quoLong: the division of the school. -/
namespace Go.Proofs.YthgdmppmjnmiiaaGreatDoor.Nm
open Go.RowKit Go.Shelf
attribute [local go_sem] Oper.semAt_some

/-- What stands in memory while the digits are made. -/
structure QW (yB rB bB oB g1 g2 oC : Nat) (yv rv bv ov : Value) (BS R O : List Int) (W : World) : Prop where
  cy : W.cell? ⟨yB, 0, none⟩ = some yv
  cr : W.cell? ⟨rB, 0, none⟩ = some rv
  cb : W.cell? ⟨bB, 0, none⟩ = some bv
  co : W.cell? ⟨oB, 0, none⟩ = some ov
  aR : At W g1 0 R
  fR : ∀ j, j < R.length → W.frozen? ⟨g1, j, none⟩ = false
  aO : At W oC 0 O
  fO : ∀ j, j < O.length → W.frozen? ⟨oC, j, none⟩ = false
  aB : At W g2 0 BS
theorem At.c0 {w : World} {b : Nat} {xs : List Int} (h : At w b 0 xs) {j : Nat} (hj : j < xs.length) : w.cell? ⟨b, j, none⟩ = some (.int .u32 (xs[j]?.getD 0)) := by
  have := h j hj
  rwa [Nat.zero_add] at this
theorem QW.kept {yB rB bB oB g1 g2 oC : Nat} {yv rv bv ov : Value} {BS R O : List Int} {W W' : World} (h : QW yB rB bB oB g1 g2 oC yv rv bv ov BS R O W) {row : Option Nat} (hg : W.grownBy W' row) (hr : ∀ r, row = some r → ∃ o : Obj, W.heap[r]? = some o ∧ o.isCells = false) : QW yB rB bB oB g1 g2 oC yv rv bv ov BS R O W' :=
  ⟨cell_kept h.cy hg hr, cell_kept h.cr hg hr, cell_kept h.cb hg hr, cell_kept h.co hg hr, fun j hj => cell_kept (h.aR j hj) hg hr, fun j hj => (frozen_kept (h.aR.c0 hj) hg hr).trans (h.fR j hj), fun j hj => cell_kept (h.aO j hj) hg hr, fun j hj => (frozen_kept (h.aO.c0 hj) hg hr).trans (h.fO j hj), fun j hj => cell_kept (h.aB j hj) hg hr⟩
theorem QW.below {yB rB bB oB g1 g2 oC : Nat} {yv rv bv ov : Value} {BS R O : List Int} {W W' : World} (h : QW yB rB bB oB g1 g2 oC yv rv bv ov BS R O W) (hb : Below W.heap.size W W') : QW yB rB bB oB g1 g2 oC yv rv bv ov BS R O W' :=
  ⟨(hb.cell (cell_lt' h.cy)).trans h.cy, (hb.cell (cell_lt' h.cr)).trans h.cr, (hb.cell (cell_lt' h.cb)).trans h.cb, (hb.cell (cell_lt' h.co)).trans h.co, fun j hj => (hb.cell (cell_lt' (h.aR j hj))).trans (h.aR j hj), fun j hj => (hb.frozen (cell_lt' (h.aR.c0 hj))).trans (h.fR j hj), fun j hj => (hb.cell (cell_lt' (h.aO j hj))).trans (h.aO j hj), fun j hj => (hb.frozen (cell_lt' (h.aO.c0 hj))).trans (h.fO j hj), fun j hj => (hb.cell (cell_lt' (h.aB j hj))).trans (h.aB j hj)⟩
theorem QW.out {yB rB bB oB g1 g2 oC i : Nat} {yv rv bv ov : Value} {BS R O : List Int} {W : World} (h : QW yB rB bB oB g1 g2 oC yv rv bv ov BS R O W) (hi : i < O.length) (d : Int) (n1 : yB ≠ oC) (n2 : rB ≠ oC) (n3 : bB ≠ oC) (n4 : oB ≠ oC) (n5 : g1 ≠ oC) (n6 : g2 ≠ oC) : QW yB rB bB oB g1 g2 oC yv rv bv ov BS R (O.set i d) (W.setCell ⟨oC, i, none⟩ (.int .u32 d)) :=
  ⟨(World.cell?_setCell_other _ _ _ _ (by intro e; injection e with e1; exact n1 e1.symm)).trans h.cy, (World.cell?_setCell_other _ _ _ _ (by intro e; injection e with e1; exact n2 e1.symm)).trans h.cr, (World.cell?_setCell_other _ _ _ _ (by intro e; injection e with e1; exact n3 e1.symm)).trans h.cb, (World.cell?_setCell_other _ _ _ _ (by intro e; injection e with e1; exact n4 e1.symm)).trans h.co,
    h.aR.other (p := ⟨oC, i, none⟩) (fun e => n5 e.symm) _, fun j hj => (World.frozen?_setCell _ _ _ _).trans (h.fR j hj), h.aO.setAt hi d, fun j hj => (World.frozen?_setCell _ _ _ _).trans (h.fO j (by simpa using hj)), h.aB.other (p := ⟨oC, i, none⟩) (fun e => n6 e.symm) _⟩

end Go.Proofs.YthgdmppmjnmiiaaGreatDoor.Nm

/- Quo: the quotient of two numbers, and what is left. -/
namespace Go.Proofs.YthgdmppmjnmiiaaGreatDoor.Nm
open Go.RowKit
attribute [local go_sem] eqnil_some eqnil_none nenil_some nenil_none

/-- The boxes of two numbers and the cells of two results. -/
structure Set4 (w W0 : World) (c0 c1 d0 d1 : Value) : Prop where
  bel : Below w.heap.size w W0
  a0 : W0.cell? ⟨w.heap.size, 0, none⟩ = some c0
  a1 : W0.cell? ⟨w.heap.size, 1, none⟩ = some c1
  b0 : W0.cell? ⟨w.heap.size + 1, 0, none⟩ = some d0
  b1 : W0.cell? ⟨w.heap.size + 1, 1, none⟩ = some d1
  r0 : W0.cell? ⟨w.heap.size + 1 + 1, 0, none⟩ = some (.int .i64 0)
  r1 : W0.cell? ⟨w.heap.size + 1 + 1, 1, none⟩ = some (.slice none 0 0)
  s0 : W0.cell? ⟨w.heap.size + 1 + 1 + 1, 0, none⟩ = some (.int .i64 0)
  s1 : W0.cell? ⟨w.heap.size + 1 + 1 + 1, 1, none⟩ = some (.slice none 0 0)
  rf : ∀ o, W0.frozen? ⟨w.heap.size + 1 + 1, o, none⟩ = false
  sf : ∀ o, W0.frozen? ⟨w.heap.size + 1 + 1 + 1, o, none⟩ = false
  rb : W0.heap[w.heap.size + 1 + 1]? = some (.cells #[.int .i64 0, .slice none 0 0] 49)
  sb : W0.heap[w.heap.size + 1 + 1 + 1]? = some (.cells #[.int .i64 0, .slice none 0 0] 49)
  z : w.heap.size + 1 + 1 + 1 < W0.heap.size
theorem Set4.below {w W0 W1 : World} {c0 c1 d0 d1 : Value} (S : Set4 w W0 c0 c1 d0 d1) (h : Below W0.heap.size W0 W1) : Set4 w W1 c0 c1 d0 d1 := by
  have hz := S.z
  have hz0 : w.heap.size < W0.heap.size := by omega
  have hz1 : w.heap.size + 1 < W0.heap.size := by omega
  have hz2 : w.heap.size + 1 + 1 < W0.heap.size := by omega
  exact ⟨S.bel.trans (h.mono (by omega)), (h.cell (p := ⟨w.heap.size, 0, none⟩) hz0).trans S.a0, (h.cell (p := ⟨w.heap.size, 1, none⟩) hz0).trans S.a1, (h.cell (p := ⟨w.heap.size + 1, 0, none⟩) hz1).trans S.b0, (h.cell (p := ⟨w.heap.size + 1, 1, none⟩) hz1).trans S.b1,
    (h.cell (p := ⟨w.heap.size + 1 + 1, 0, none⟩) hz2).trans S.r0, (h.cell (p := ⟨w.heap.size + 1 + 1, 1, none⟩) hz2).trans S.r1, (h.cell (p := ⟨w.heap.size + 1 + 1 + 1, 0, none⟩) hz).trans S.s0, (h.cell (p := ⟨w.heap.size + 1 + 1 + 1, 1, none⟩) hz).trans S.s1,
    fun o => (h.frozen (p := ⟨w.heap.size + 1 + 1, o, none⟩) hz2).trans (S.rf o), fun o => (h.frozen (p := ⟨w.heap.size + 1 + 1 + 1, o, none⟩) hz).trans (S.sf o), (h.block _ hz2).trans S.rb, (h.block _ hz).trans S.sb, Nat.lt_of_lt_of_le hz h.size⟩
end Go.Proofs.YthgdmppmjnmiiaaGreatDoor.Nm

/- Quo of a small number by a great one. -/
namespace Go.Proofs.YthgdmppmjnmiiaaGreatDoor.Nm
open Go.RowKit
attribute [local go_sem] eqnil_some eqnil_none nenil_some nenil_none

end Go.Proofs.YthgdmppmjnmiiaaGreatDoor.Nm

/- Quo of a small number by -1. -/
namespace Go.Proofs.YthgdmppmjnmiiaaGreatDoor.Nm
open Go.RowKit
attribute [local go_sem] eqnil_some eqnil_none nenil_some nenil_none

end Go.Proofs.YthgdmppmjnmiiaaGreatDoor.Nm

/- Quo. -/
namespace Go.Proofs.YthgdmppmjnmiiaaGreatDoor.Nm
open Go.RowKit
attribute [local go_sem] eqnil_some eqnil_none nenil_some nenil_none

end Go.Proofs.YthgdmppmjnmiiaaGreatDoor.Nm

/- Gcd: the greatest common divisor. -/
namespace Go.Proofs.YthgdmppmjnmiiaaGreatDoor.Nm
open Go.RowKit
attribute [local go_sem] eqnil_some eqnil_none nenil_some nenil_none

theorem Set2.bx {w W : World} {na nb : Int} {aa ab : Option Addr} {la ca lb cb : Nat} (h : ((w.alloc (Obj.cells #[.int .i64 na, .slice aa la ca] 49)).alloc (Obj.cells #[.int .i64 nb, .slice ab lb cb] 49)).alloc (Obj.cells #[.int .i64 0, .slice none 0 0] 49) = W) :
    Bx W w.heap.size (.agg #[.int .i64 na, .slice aa la ca]) ∧ Bx W (w.heap.size + 1) (.agg #[.int .i64 nb, .slice ab lb cb]) ∧ Bx W (w.heap.size + 1 + 1) (.agg #[.int .i64 0, .slice none 0 0]) := by
  subst h
  refine ⟨((Bx.new w na aa la ca).alloc _).alloc _, ?_, ?_⟩
  · have := (Bx.new (w.alloc (Obj.cells #[.int .i64 na, .slice aa la ca] 49)) nb ab lb cb).alloc (Obj.cells #[.int .i64 0, .slice none 0 0] 49)
    rwa [World.size_alloc] at this
  · have := Bx.new ((w.alloc (Obj.cells #[.int .i64 na, .slice aa la ca] 49)).alloc (Obj.cells #[.int .i64 nb, .slice ab lb cb] 49)) 0 none 0 0
    rwa [World.size_alloc, World.size_alloc] at this
end Go.Proofs.YthgdmppmjnmiiaaGreatDoor.Nm

/- String of small numbers; avowlaw1.known. -/
namespace Go.Proofs.YthgdmppmjnmiiaaGreatDoor.Nm
open Go.RowKit
attribute [local go_sem] eqnil_some eqnil_none nenil_some nenil_none

/-- The table of the library's powers of ten. -/
def Tab (w : World) : Prop := Lib.TabIs Tryz.prog w "internal/strconv.uint64pow10" .u64 Lib.pow10Tab
theorem Tab.below {w w' : World} (h : Tab w) (hb : Below w.heap.size w w') : Tab w' := Lib.tabBelow_of_tabIs h w' hb
theorem Tab.drew {w : World} (h : Tab w) : Tab w.drew := h.below ((Below.refl _ w).drew)
set_option maxRecDepth 100000 in
set_option maxHeartbeats 800000 in
theorem str_small (z : Int) (w : World) (hT : Tab w) (h0 : -9223372036854775808 ≤ z) (h1 : z ≤ 9223372036854775807) :
    Calls Tryz.prog 30 #[.agg #[.int .i64 z, .slice none 0 0]] w fun e w' => e = .returned (.string ⟨(Lib.itoa z).toArray⟩) ∧ Below w.heap.size w w' := by
  have bX := Bx.new w z none 0 0
  have hbw : Below w.heap.size w (w.alloc (.cells #[.int .i64 z, .slice none 0 0] 49)) := (Below.refl _ w).alloc (Nat.le_refl _) _
  have hT1 := hT.below hbw
  have HF := hide (Tryz.strconv_FormatInt_10 z h0 h1 _ hT1)
  clear hT hT1
  go_enter Tryz.func30, Tryz.ntmps30
  go_wp2_with fail
  refine (unhide HF).mono ?_
  rintro e w1 ⟨rfl, k, os, hw1⟩
  have hb1 := Lib.below_grow (w.alloc (.cells #[.int .i64 z, .slice none 0 0] 49)).heap.size (w.alloc (.cells #[.int .i64 z, .slice none 0 0] 49)) (Nat.le_refl _) k os
  rw [← hw1] at hb1
  clear hw1
  go_wp2
  go_ret
  exact ⟨rfl, hbw.trans (hb1.mono hbw.size)⟩

end Go.Proofs.YthgdmppmjnmiiaaGreatDoor.Nm

namespace Go.Proofs.YthgdmppmjnmiiaaGreatDoor.Nm
open Go Go.RowKit

section
variable {P : Program} {ops : Array Oper} {Q : Exit → Act → World → Prop} {md : Region.Mode}

theorem filter_lt (p q : Nat → Bool) (hqp : ∀ j, q j = true → p j = true) (i : Nat) (hp : p i = true) (hq : q i = false) :
    ∀ l : List Nat, i ∈ l → (l.filter q).length < (l.filter p).length := by
  have hle : ∀ l : List Nat, (l.filter q).length ≤ (l.filter p).length := by
    intro l
    induction l with
    | nil => simp
    | cons x l ih =>
      simp only [List.filter_cons]
      cases hx : q x with
      | true => simp [hqp x hx, ih]
      | false =>
        cases p x with
        | true => simp; omega
        | false => simpa using ih
  intro l
  induction l with
  | nil => intro h; cases h
  | cons x l ih =>
    intro h
    rcases List.mem_cons.1 h with rfl | h
    · simp only [List.filter_cons, hp, hq]
      have := hle l
      simp
      omega
    · have := ih h
      simp only [List.filter_cons]
      cases hx : q x with
      | true => simp [hqp x hx, this]
      | false =>
        cases p x with
        | true => simp; omega
        | false => simpa using this

/-- How many have not come up. -/
def toCome (ops : Array Oper) (listed : Array Bool) : Nat := ((List.range ops.size).filter fun i => !listed.getD i true).length

theorem toCome_lt {listed : Array Bool} {i : Nat} (h : i ∈ Region.ready md ops listed) : toCome ops (listed.setIfInBounds i true) < toCome ops listed := by
  obtain ⟨h0, o, ho, _⟩ := mem_ready.1 h
  have hi : i < ops.size := (Array.getElem?_eq_some_iff.1 ho).1
  refine filter_lt _ _ ?_ i ?_ ?_ _ (List.mem_range.2 hi)
  · intro j hj
    by_cases e : i = j
    · subst e; simp [h0]
    · rw [getD_set_ne true e] at hj; exact hj
  · simp [h0]
  · by_cases hs : i < listed.size
    · simp [hs]
    · simp [Array.getElem?_eq_none (Nat.le_of_not_lt hs)] at h0

theorem ready_nil_of_toCome {listed : Array Bool} (h : toCome ops listed = 0) : Region.ready md ops listed = [] := by
  apply List.eq_nil_iff_forall_not_mem.2
  intro i hi
  have := toCome_lt hi
  omega

/-- An invariant that each operation hands on, in whatever order. -/
theorem wpAny_inv (I : Array Bool → Act → World → Prop)
    (hstep : ∀ listed a w i, I listed a w → i ∈ Region.ready md ops listed → wpOp P ops Q i (fun a' w' => I (listed.setIfInBounds i true) a' w') a w)
    (hend : ∀ listed a w, I listed a w → Region.ready md ops listed = [] → Q .normal a w) :
    ∀ fuel listed a w, toCome ops listed ≤ fuel → I listed a w → wpAny P md ops Q fuel listed a w := by
  intro fuel
  induction fuel with
  | zero => intro listed a w h hI; exact ⟨ready_nil_of_toCome (by omega), hend _ _ _ hI (ready_nil_of_toCome (by omega))⟩
  | succ fuel ih =>
    intro listed a w h hI
    refine ⟨fun hr => hend _ _ _ hI hr, fun i hi => wpOp_mono (fun a' w' h' => ih _ a' w' ?_ h') (hstep _ _ _ _ hI hi)⟩
    have := toCome_lt hi
    omega

/-- The slot that operation i writes. -/
def slotOf (ops : Array Oper) (a : Act) (i : Nat) : Value := a.tmps.getD (((ops[i]?).bind (·.dst)).getD 0) undef

/-- Each operation waits only for such as stand ahead of it, and writes a slot of its own, below N; 'ds': the slots that those ahead of it write. -/
def goodFrom (N : Nat) : Nat → List Nat → List Oper → Bool
  | _, _, [] => true
  | i, ds, o :: l => (o.after.toList.all fun e => decide (e.on < i)) && (match o.dst with | some d => !ds.contains d && decide (d < N) && goodFrom N (i + 1) (d :: ds) l | none => false)

theorem goodFrom_spec {N : Nat} : ∀ (l : List Oper) (i : Nat) (ds : List Nat), goodFrom N i ds l = true →
    ∀ j o, l[j]? = some o → (∀ e ∈ o.after, e.on < i + j) ∧ ∃ d : Nat, o.dst = some d ∧ d ∉ ds ∧ d < N ∧ ∀ k o', k < j → l[k]? = some o' → ∃ d' : Nat, o'.dst = some d' ∧ d' ≠ d
  | [], _, _, _, j, o, h => by simp at h
  | x :: l, i, ds, hg, j, o, h => by
    simp only [goodFrom, Bool.and_eq_true] at hg
    obtain ⟨hon, hd⟩ := hg
    cases hx : x.dst with
    | none => simp [hx] at hd
    | some d =>
      simp only [hx, Bool.and_eq_true, decide_eq_true_eq] at hd
      obtain ⟨⟨hB, hN⟩, hr⟩ := hd
      have hB' : d ∉ ds := by simpa using hB
      cases j with
      | zero =>
        simp at h
        subst h
        refine ⟨fun e he => ?_, d, hx, hB', hN, fun k _ hk => absurd hk (by omega)⟩
        have := List.all_eq_true.1 hon e (by simpa using he)
        simpa using this
      | succ j =>
        have h' : l[j]? = some o := by simpa using h
        obtain ⟨h1, d2, h2, h3, h4, h5⟩ := goodFrom_spec l (i + 1) (d :: ds) hr j o h'
        refine ⟨fun e he => by have := h1 e he; omega, d2, h2, fun hm => h3 (List.mem_cons_of_mem _ hm), h4, fun k o' hk ho' => ?_⟩
        cases k with
        | zero => simp at ho'; subst ho'; exact ⟨d, hx, fun e => h3 (e ▸ List.mem_cons_self)⟩
        | succ k => exact h5 k o' (by omega) (by simpa using ho')

theorem slot_put_same {a : Act} {i : Nat} {o : Oper} {d : Nat} {v : Value} (ho : ops[i]? = some o) (hd : o.dst = some d) (hlt : d < a.tmps.size) :
    slotOf ops (a.put o.dst v) i = v := by
  simp [slotOf, ho, hd, Act.put, hlt]

theorem slot_put_other {a : Act} {i : Nat} {o' : Oper} {d d' : Nat} {v : Value} (ho' : ops[i]? = some o') (hd' : o'.dst = some d') (hne : d ≠ d') :
    slotOf ops (a.put (some d) v) i = slotOf ops a i := by
  simp [slotOf, ho', hd', Act.put, Array.getElem?_setIfInBounds_ne hne]

/-- Those that an operation waits for, whatever the order. -/
def preds (o : Oper) : List Nat := (o.after.toList.filter (Region.binds .any)).map (·.on)
theorem preds_spec {o : Oper} {j : Nat} (h : (preds o).contains j = true) : ∃ e, (e ∈ o.after ∧ Region.binds .any e = true) ∧ e.on = j := by
  have h1 : j ∈ preds o := by simpa using h
  obtain ⟨e, he, rfl⟩ := List.mem_map.1 h1
  obtain ⟨h2, h3⟩ := List.mem_filter.1 he
  exact ⟨e, ⟨by simpa using h2, h3⟩, rfl⟩

/-- **A region that draws, by a spec an operation.** 'kept': slots that the region does not write. -/
theorem region_specs {id : Nat} {l : List Oper} {a0 : Act} {w0 : World} (N : Nat) (kept : List Nat) (Φ : Nat → World → Value → Prop)
    (hm : P.follows .mixedOrders = true) (hg : goodFrom N 0 kept l = true) (hN : a0.tmps.size = N)
    (hmono : ∀ i w w' v, Φ i w v → Below w.heap.size w w' → Φ i w' v)
    (hstep : ∀ i o, l[i]? = some o → ∀ (a : Act) (w : World), Below w0.heap.size w0 w → a.defers = a0.defers → a.tmps.size = N → (∀ k, k ∈ kept → a.tmps[k]? = a0.tmps[k]?) →
      (∀ j, (preds o).contains j = true → Φ j w (slotOf l.toArray a j)) →
      if Region.wanted o (yielded l.toArray a.tmps) then o.wp P a w (fun a' w' => ∃ v, a' = a.put o.dst v ∧ Below w.heap.size w w' ∧ Φ i w' v) Q else Φ i w undef)
    (hend : ∀ (a : Act) (w : World), Below w0.heap.size w0 w → a.defers = a0.defers → a.tmps.size = N → (∀ k, k ∈ kept → a.tmps[k]? = a0.tmps[k]?) → (∀ i, i < l.length → Φ i w (slotOf l.toArray a i)) → Q .normal a w) :
    (Code.region id l.toArray true).wp P Q a0 w0 := by
  refine wp_region_any hm ?_
  let I : Array Bool → Act → World → Prop := fun listed a w => listed.size = l.length ∧ Below w0.heap.size w0 w ∧ a.defers = a0.defers ∧ a.tmps.size = N ∧ (∀ k, k ∈ kept → a.tmps[k]? = a0.tmps[k]?) ∧
    ∀ i, listed.getD i false = true → Φ i w (slotOf l.toArray a i)
  have hspec := goodFrom_spec l 0 kept hg
  refine wpAny_inv (md := .any) I ?_ ?_ _ _ _ _ ?_ ?_
  · rintro listed a w i ⟨hsz, hb, hdf, hn, hbase, hΦ⟩ hr
    obtain ⟨h0, o, ho, hpre⟩ := mem_ready.1 hr
    have hol : l[i]? = some o := by simpa using ho
    obtain ⟨hon, d, hd, hBd, hdN, hbefore⟩ := hspec i o hol
    have hilt : i < l.length := (List.getElem?_eq_some_iff.1 hol).1
    have hs := hstep i o hol a w hb hdf hn hbase (fun j hj => by
      obtain ⟨e, he, rfl⟩ := preds_spec hj
      exact hΦ _ (hpre e he.1 he.2))
    have keep : ∀ w' v, Below w.heap.size w w' → Φ i w' v → I (listed.setIfInBounds i true) (a.put o.dst v) w' := by
      intro w' v hb' hv
      refine ⟨by simpa using hsz, hb.trans (hb'.mono hb.size), ?_, ?_, ?_, ?_⟩
      · rw [hd]; exact hdf
      · rw [hd]; simpa [Act.put] using hn
      · intro k hk
        rw [hd]
        simp only [Act.put]
        rw [Array.getElem?_setIfInBounds_ne (fun (e : d = k) => hBd (e.symm ▸ hk))]
        exact hbase k hk
      · intro j hj
        by_cases e : i = j
        · subst e
          rw [slot_put_same ho hd (by omega)]
          exact hv
        · rw [getD_set_ne false e] at hj
          have hj' := hmono _ _ _ _ (hΦ j hj) hb'
          have hjlt : j < l.length := by
            rcases Nat.lt_or_ge j listed.size with h | h
            · omega
            · simp [Array.getElem?_eq_none h] at hj
          have hoj : l[j]? = some l[j] := List.getElem?_eq_getElem hjlt
          have hoj' : l.toArray[j]? = some l[j] := by simp [hjlt]
          obtain ⟨_, d', hd', _, _, hbef'⟩ := hspec j _ hoj
          have hne : d ≠ d' := by
            rcases Nat.lt_or_gt_of_ne e with h | h
            · obtain ⟨d2, h2, h3⟩ := hbef' i o h hol
              rw [hd] at h2
              have h4 : d = d2 := Option.some.inj h2
              omega
            · obtain ⟨d2, h2, h3⟩ := hbefore j _ h hoj
              rw [hd'] at h2
              have h4 : d' = d2 := Option.some.inj h2
              omega
          rw [hd, slot_put_other hoj' hd' hne]
          exact hj'
    unfold wpOp
    simp only [ho]
    split
    · rename_i hw
      simp only [hw, if_true] at hs
      refine .inl (Oper.wp_mono ?_ hs)
      rintro a' w' ⟨v, rfl, hb', hv⟩
      exact keep w' v hb' hv
    · rename_i hw
      simp only [hw] at hs
      exact keep w undef (Below.refl _ _) hs
  · rintro listed a w ⟨hsz, hb, hdf, hn, hbase, hΦ⟩ hr
    refine hend a w hb hdf hn hbase ?_
    have : ∀ i, i < l.length → listed.getD i false = true := by
      intro i
      induction i using Nat.strongRecOn with
      | ind i ih =>
        intro hi
        cases hl : listed.getD i true with
        | true =>
          have : i < listed.size := by omega
          simpa [this] using hl
        | false =>
          exfalso
          have hoi : l[i]? = some l[i] := List.getElem?_eq_getElem hi
          have : i ∈ Region.ready .any l.toArray listed := by
            refine mem_ready.2 ⟨hl, l[i], by simp [hi], fun e he _ => ?_⟩
            obtain ⟨hon, _⟩ := hspec i _ hoi
            have := hon e he
            exact ih e.on (by omega) (by omega)
          rw [hr] at this
          cases this
    intro i hi
    exact hΦ i (this i hi)
  · unfold toCome
    exact Nat.le_trans (List.length_filter_le _ _) (by simp)
  · refine ⟨by simp, ⟨rfl, rfl, rfl, Nat.le_refl _, fun _ _ => rfl⟩, rfl, hN, fun _ _ => rfl, ?_⟩
    intro i hi
    exfalso
    rcases Nat.lt_or_ge i l.length with h | h
    · simp [h] at hi
    · simp [h] at hi

/-- Of each operation of a list, with its number. -/
def Each (C : Nat → Oper → Prop) : Nat → List Oper → Prop
  | _, [] => True
  | i, o :: l => C i o ∧ Each C (i + 1) l
theorem Each.at {C : Nat → Oper → Prop} : ∀ (l : List Oper) (k : Nat), Each C k l → ∀ i o, l[i]? = some o → C (k + i) o
  | [], _, _, i, o, h => by simp at h
  | x :: l, k, hE, i, o, h => by
    cases i with
    | zero => simp at h; subst h; exact hE.1
    | succ i =>
      have := Each.at l (k + 1) hE.2 i o (by simpa using h)
      rwa [show k + 1 + i = k + (i + 1) by omega] at this

/-! ### The operations, one by one -/
section
variable {o : Oper} {a : Act} {w : World} {K : Act → World → Prop} {dst : Option Tmp} {ty : TypeId} {pos : String} {af : Array Edge} {gd : Option (Nat × Bool)}

theorem op_move {x : Operand} (h : K (a.put dst (a.eval x)) w) : Oper.wp P ⟨dst, .move x, ty, pos, af, gd⟩ a w K Q := h
theorem op_assign {x : Operand} (h : K (a.put dst (a.eval x)) w) : Oper.wp P ⟨dst, .assign x, ty, pos, af, gd⟩ a w K Q := h
theorem op_load {t : TypeId} {x : Operand} {p v : Value} (hx : a.eval x = p) (hr : (Instr.loadAt t p).run P w = .ok v w) (h : K (a.put dst v) w) : Oper.wp P ⟨dst, .load t x, ty, pos, af, gd⟩ a w K Q := by
  unfold Oper.wp
  simp [execOp, hx, hr, Oper.upon, h]
end

end
end Go.Proofs.YthgdmppmjnmiiaaGreatDoor.Nm

/- The operations of a region over numbers, one by one: what each leaves in its slot. -/
namespace Go.Proofs.YthgdmppmjnmiiaaGreatDoor.Nm
open Go Go.RowKit

/-- What is said of a slot; it stands when memory grows. -/
structure Sp where
  ok : World → Value → Prop
  mono : ∀ w w' v, ok w v → Below w.heap.size w w' → ok w' v
def Sp.any : Sp := ⟨fun _ _ => True, fun _ _ _ h _ => h⟩
def Sp.int (n : Int) : Sp := ⟨fun _ v => v = .int .i64 n, fun _ _ _ h _ => h⟩
def Sp.bool (b : Bool) : Sp := ⟨fun _ v => v = .bool b, fun _ _ _ h _ => h⟩
def Sp.val (u : Value) : Sp := ⟨fun _ v => v = u, fun _ _ _ h _ => h⟩

/-- All regions of a code. -/
def regionsOf : Code → List (Nat × List Oper)
  | .region id ops _ => [(id, ops.toList)]
  | .seq a b => regionsOf a ++ regionsOf b
  | .cond _ a b => regionsOf a ++ regionsOf b
  | .block _ c => regionsOf c
  | .loop c => regionsOf c
  | .scope c => regionsOf c
  | .rangeFunc _ _ a b => regionsOf a ++ regionsOf b
  | _ => []
def regionOf (f : Func) (k : Nat) : List Oper := ((f.body.map regionsOf).getD []).findSome? (fun p => if p.1 == k then some p.2 else none) |>.getD []

/-- The world holds a number in a box. -/
def BI (w : World) (r : Nat) (z : Int) : Prop := ∃ v, Bx w r v ∧ IsI w v z
theorem BI.below {w w' : World} {r : Nat} {z : Int} (h : BI w r z) (hb : Below w.heap.size w w') : BI w' r z := let ⟨v, h1, h2⟩ := h; ⟨v, h1.below hb, h2.below hb⟩

section
variable {Q : Exit → Act → World → Prop} {a a0 : Act} {w w0 : World} {dst : Option Tmp} {ty : TypeId} {pos : String} {af : Array Edge} {gd : Option (Nat × Bool)}

/-- A call of this function enters it. -/
structure Enters (P : Program) (f : FuncId) : Prop where
  run : ∀ (xs : Array Value) (w : World), (callFunc f xs).run P w = .ok (.enter f xs) w
theorem op_call {P : Program} {K : Act → World → Prop} {f : FuncId} {args : Array Operand} {tys : Array TypeId}
    (hf : Enters P f)
    (hc : Calls P f (args.map a.eval) w fun e w' => ∃ v, e = .returned v ∧ K (a.put dst v) w') :
    Oper.wp P ⟨dst, .call ⟨.value (.func f), args, tys⟩, ty, pos, af, gd⟩ a w K Q := by
  unfold Oper.wp
  simp [go_sem]
  rw [hf.run]
  refine Calls.mono hc ?_
  rintro e w' ⟨v, rfl, h⟩
  exact h
theorem args2 {s t : Nat} : (#[Operand.tmp s, .tmp t]).map a.eval = #[a.tmps.getD s undef, a.tmps.getD t undef] := by simp only [List.map_toArray, List.map_cons, List.map_nil, Act.eval]
variable {tys : Array TypeId} {s t : Nat} {y z : Int} {j k : Nat}
/-- An operation that is wanted. -/
theorem st_want {P : Program} {ops : Array Oper} {o : Oper} {X : Act → World → Prop} {Y : Prop} (hw : Region.wanted o (yielded ops a.tmps) = true) (h : o.wp P a w X Q) : if Region.wanted o (yielded ops a.tmps) then o.wp P a w X Q else Y := by
  rw [if_pos hw]; exact h
end

end Go.Proofs.YthgdmppmjnmiiaaGreatDoor.Nm

/- A region that draws its order, walked by pure specs of its slots and an invariant on the world by stages; and the same within a round of a loop over an iterator. -/
namespace Go.Proofs.YthgdmppmjnmiiaaGreatDoor.Nm
open Go Go.RowKit

section
variable {P : Program} {Q : Exit → Act → World → Prop}

/-- Each operation waits only for such as stand ahead of it, and writes, if any, a slot of its own, below N. -/
def fitFrom (N : Nat) : Nat → List Nat → List Oper → Bool
  | _, _, [] => true
  | i, ds, o :: l => (o.after.toList.all fun e => decide (e.on < i)) && (match o.dst with | some d => !ds.contains d && decide (d < N) && fitFrom N (i + 1) (d :: ds) l | none => fitFrom N (i + 1) ds l)

theorem fitFrom_spec {N : Nat} : ∀ (l : List Oper) (i : Nat) (ds : List Nat), fitFrom N i ds l = true →
    ∀ j o, l[j]? = some o → (∀ e ∈ o.after, e.on < i + j) ∧ ∀ d : Nat, o.dst = some d → d ∉ ds ∧ d < N ∧ ∀ k o', k < j → l[k]? = some o' → o'.dst ≠ some d
  | [], _, _, _, j, o, h => by simp at h
  | x :: l, i, ds, hg, j, o, h => by
    simp only [fitFrom, Bool.and_eq_true] at hg
    obtain ⟨hon, hd⟩ := hg
    cases hx : x.dst with
    | none =>
      simp only [hx] at hd
      cases j with
      | zero =>
        simp at h
        subst h
        refine ⟨fun e he => ?_, fun d hd' => by rw [hx] at hd'; cases hd'⟩
        have := List.all_eq_true.1 hon e (by simpa using he)
        simpa using this
      | succ j =>
        have h' : l[j]? = some o := by simpa using h
        obtain ⟨h1, h2⟩ := fitFrom_spec l (i + 1) ds hd j o h'
        refine ⟨fun e he => by have := h1 e he; omega, fun d hd' => ?_⟩
        obtain ⟨h3, h4, h5⟩ := h2 d hd'
        refine ⟨h3, h4, fun k o' hk ho' => ?_⟩
        cases k with
        | zero => simp at ho'; subst ho'; rw [hx]; simp
        | succ k => exact h5 k o' (by omega) (by simpa using ho')
    | some d0 =>
      simp only [hx, Bool.and_eq_true, decide_eq_true_eq] at hd
      obtain ⟨⟨hB, hN⟩, hr⟩ := hd
      have hB' : d0 ∉ ds := by simpa using hB
      cases j with
      | zero =>
        simp at h
        subst h
        refine ⟨fun e he => ?_, fun d hd' => ?_⟩
        · have := List.all_eq_true.1 hon e (by simpa using he)
          simpa using this
        · rw [hx] at hd'
          have e0 : d0 = d := Option.some.inj hd'
          subst e0
          exact ⟨hB', hN, fun k _ hk => absurd hk (by omega)⟩
      | succ j =>
        have h' : l[j]? = some o := by simpa using h
        obtain ⟨h1, h2⟩ := fitFrom_spec l (i + 1) (d0 :: ds) hr j o h'
        refine ⟨fun e he => by have := h1 e he; omega, fun d hd' => ?_⟩
        obtain ⟨h3, h4, h5⟩ := h2 d hd'
        refine ⟨fun hm => h3 (List.mem_cons_of_mem _ hm), h4, fun k o' hk ho' => ?_⟩
        cases k with
        | zero =>
          simp at ho'; subst ho'; rw [hx]
          intro e
          have e0 : d0 = d := Option.some.inj e
          exact h3 (e0 ▸ List.mem_cons_self)
        | succ k => exact h5 k o' (by omega) (by simpa using ho')

/-- Whatever order is picked: specs of the slots, and an invariant of what has come up, the frame and the world. -/
theorem steps_any {l : List Oper} {a0 : Act} {w0 : World} (N : Nat) (kept : List Nat) (Φ : Nat → Value → Prop) (J : Array Bool → Act → World → Prop)
    (hg : fitFrom N 0 kept l = true) (hN : a0.tmps.size = N) (h0 : J (Array.replicate l.length false) a0 w0)
    (hstep : ∀ i o, l[i]? = some o → ∀ (listed : Array Bool) (a : Act) (w : World), listed.size = l.length → listed.getD i true = false →
      (∀ j o', l[j]? = some o' → listed.getD j false = true → ∀ k, (preds o').contains k = true → listed.getD k false = true) →
      a.defers = a0.defers → a.tmps.size = N → (∀ k, k ∈ kept → a.tmps[k]? = a0.tmps[k]?) →
      (∀ j, (preds o).contains j = true → listed.getD j false = true ∧ Φ j (slotOf l.toArray a j)) → J listed a w →
      if Region.wanted o (yielded l.toArray a.tmps) then o.wp P a w (fun a' w' => ∃ v, a' = a.put o.dst v ∧ (o.dst.isSome = true → Φ i v) ∧ J (listed.setIfInBounds i true) a' w') Q
      else (o.dst.isSome = true → Φ i undef) ∧ J (listed.setIfInBounds i true) (a.put o.dst undef) w)
    (hsome : ∀ i o, l[i]? = some o → o.dst = none → ∀ v, Φ i v)
    (hend : ∀ (listed : Array Bool) (a : Act) (w : World), listed.size = l.length → (∀ i, i < l.length → listed.getD i false = true) → a.defers = a0.defers → a.tmps.size = N → (∀ k, k ∈ kept → a.tmps[k]? = a0.tmps[k]?) → (∀ i, i < l.length → Φ i (slotOf l.toArray a i)) → J listed a w → Q .normal a w) :
    wpAny P .any l.toArray Q l.toArray.size (Array.replicate l.toArray.size false) a0 w0 := by
  let I : Array Bool → Act → World → Prop := fun listed a w => listed.size = l.length ∧ (∀ j o', l[j]? = some o' → listed.getD j false = true → ∀ k, (preds o').contains k = true → listed.getD k false = true) ∧
    a.defers = a0.defers ∧ a.tmps.size = N ∧ (∀ k, k ∈ kept → a.tmps[k]? = a0.tmps[k]?) ∧ (∀ i, listed.getD i false = true → Φ i (slotOf l.toArray a i)) ∧ J listed a w
  have hspec := fitFrom_spec l 0 kept hg
  refine wpAny_inv (md := .any) I ?_ ?_ _ _ _ _ ?_ ?_
  · rintro listed a w i ⟨hsz, hdown, hdf, hn, hbase, hΦ, hJ⟩ hr
    obtain ⟨hun, o, ho, hpre⟩ := mem_ready.1 hr
    have hol : l[i]? = some o := by simpa using ho
    have hilt : i < l.length := (List.getElem?_eq_some_iff.1 hol).1
    have hpre' : ∀ j, (preds o).contains j = true → listed.getD j false = true := fun j hj => by
      obtain ⟨e, he, rfl⟩ := preds_spec hj
      exact hpre e he.1 he.2
    have hs := hstep i o hol listed a w hsz hun hdown hdf hn hbase (fun j hj => ⟨hpre' j hj, hΦ j (hpre' j hj)⟩) hJ
    have hdown' : ∀ j o', l[j]? = some o' → (listed.setIfInBounds i true).getD j false = true → ∀ k, (preds o').contains k = true → (listed.setIfInBounds i true).getD k false = true := by
      intro j o' ho' hj k hk
      by_cases e : i = j
      · subst e
        rw [hol] at ho'
        cases ho'
        exact getD_set_true (hpre' k hk)
      · rw [getD_set_ne false e] at hj
        exact getD_set_true (hdown j o' ho' hj k hk)
    have keep : ∀ w' v, (o.dst.isSome = true → Φ i v) → J (listed.setIfInBounds i true) (a.put o.dst v) w' → I (listed.setIfInBounds i true) (a.put o.dst v) w' := by
      intro w' v hv hJ'
      refine ⟨by simpa using hsz, hdown', ?_, ?_, ?_, ?_, hJ'⟩
      · cases hd : o.dst <;> simpa [Act.put] using hdf
      · cases hd : o.dst <;> simpa [Act.put] using hn
      · intro k hk
        cases hd : o.dst with
        | none => exact hbase k hk
        | some d =>
          simp only [Act.put]
          rw [Array.getElem?_setIfInBounds_ne (fun (e : d = k) => ((hspec i o hol).2 d hd).1 (e.symm ▸ hk))]
          exact hbase k hk
      · intro j hj
        by_cases e : i = j
        · subst e
          cases hd : o.dst with
          | none => exact hsome i o hol hd _
          | some d =>
            rw [← hd, slot_put_same ho hd (by have := ((hspec i o hol).2 d hd).2.1; omega)]
            exact hv (by simp [hd])
        · rw [getD_set_ne false e] at hj
          have hj' := hΦ j hj
          have hjlt : j < l.length := by
            rcases Nat.lt_or_ge j listed.size with h | h
            · omega
            · simp [Array.getElem?_eq_none h] at hj
          have hoj : l[j]? = some l[j] := List.getElem?_eq_getElem hjlt
          have hoj' : l.toArray[j]? = some l[j] := by simp [hjlt]
          cases hd : o.dst with
          | none => exact hj'
          | some d =>
            cases hd' : (l[j]).dst with
            | none => exact hsome j _ hoj hd' _
            | some d' =>
              have hne : d ≠ d' := by
                intro ee
                subst ee
                rcases Nat.lt_or_gt_of_ne e with h | h
                · exact ((hspec j _ hoj).2 d hd').2.2 i o h hol hd
                · exact ((hspec i _ hol).2 d hd).2.2 j _ h hoj hd'
              rw [slot_put_other hoj' hd' hne]
              exact hj'
    unfold wpOp
    simp only [ho]
    split
    · rename_i hw
      simp only [hw, if_true] at hs
      refine .inl (Oper.wp_mono ?_ hs)
      rintro a' w' ⟨v, rfl, hv, hJ'⟩
      exact keep w' v hv hJ'
    · rename_i hw
      simp only [hw] at hs
      exact keep w undef hs.1 hs.2
  · rintro listed a w ⟨hsz, hdown, hdf, hn, hbase, hΦ, hJ⟩ hr
    have hall : ∀ i, i < l.length → listed.getD i false = true := by
      intro i
      induction i using Nat.strongRecOn with
      | ind i ih =>
        intro hi
        cases hl : listed.getD i true with
        | true =>
          have : i < listed.size := by omega
          simpa [this] using hl
        | false =>
          exfalso
          have hoi : l[i]? = some l[i] := List.getElem?_eq_getElem hi
          have : i ∈ Region.ready .any l.toArray listed := by
            refine mem_ready.2 ⟨hl, l[i], by simp [hi], fun e he _ => ?_⟩
            have := (hspec i _ hoi).1 e he
            exact ih e.on (by omega) (by omega)
          rw [hr] at this
          cases this
    exact hend listed a w hsz hall hdf hn hbase (fun i hi => hΦ i (hall i hi)) hJ
  · unfold toCome
    exact Nat.le_trans (List.length_filter_le _ _) (by simp)
  · have hf : ∀ i, (Array.replicate l.toArray.size false).getD i false = true → False := by
      intro i hi
      rcases Nat.lt_or_ge i l.length with h | h
      · simp [h] at hi
      · simp [h] at hi
    exact ⟨by simp, fun j _ _ hj => (hf j hj).elim, rfl, hN, fun _ _ => rfl, fun i hi => (hf i hi).elim, by simpa using h0⟩

/-- Nothing but the normal end. -/
def only (R : Act → World → Prop) : Exit → Act → World → Prop
  | .normal, a, w => R a w
  | _, _, _ => False

theorem Oper.wpIn_round {o : Oper} {a : Act} {w : World} {K K' : Act → World → Prop} {R : Act → World → Prop} {lp n : Nat} (hd : ∀ c, o.op ≠ .defer c) (hk : ∀ a w, K a w → K' a w)
    (h : o.wp P a w K (only R)) : o.wpIn (Fence.wide.inRound lp) n P a w K' Q := by
  refine ⟨fun _ _ => trivial, ?_⟩
  rw [Oper.semAt_eq _ _ _ hd]
  unfold Oper.wp at h
  generalize (execOp a.eval o).run P w = r at *
  cases r with
  | ok x w' =>
    cases x <;> simp only [Oper.upon] at h <;> simp only [Oper.uponIn]
    case value v => exact hk _ _ h
    case skip => exact hk _ _ h
    case defer d => exact hk _ _ h
    case enter f args =>
      refine ⟨fun hh => by simp [Fence.inRound, Fence.wide] at hh, CallsIn.inRound lp (callsIn_wide.2 (Calls.mono h fun e w'' he => ?_))⟩
      cases e with
      | returned v => exact hk _ _ he
      | panicked c => exact he.elim
      | outgrown => obtain ⟨_, _, hh⟩ := he; exact hh.elim
    case row row args =>
      refine ⟨fun hh => by simp [Fence.inRound, Fence.wide] at hh, fun c cs _ => ?_⟩
      obtain ⟨v, w'', h1, h2⟩ := h c cs
      exact ⟨v, w'', hk _ _ h1, stepsIn_wide.2 h2⟩
  | halt x w' => cases x <;> simp only [Oper.upon] at h <;> exact h.elim

theorem wpAnyIn_round {ops : Array Oper} {R : Act → World → Prop} {lp n : Nat} (hd : ∀ (i : Nat) (o : Oper), ops[i]? = some o → ∀ c, o.op ≠ .defer c) (hq : ∀ a w, R a w → Q .normal a w) :
    ∀ fuel listed a w, wpAny P .any ops (only R) fuel listed a w → wpAnyIn (Fence.wide.inRound lp) n P .any ops Q fuel listed a w
  | 0, _, _, _, h => ⟨h.1, hq _ _ h.2⟩
  | fuel + 1, listed, a, w, h => by
    refine ⟨fun h0 => hq _ _ (h.1 h0), fun i hi => ?_⟩
    have h1 := h.2 i hi
    unfold wpOp at h1
    unfold wpOpIn
    split
    · rename_i ho; simp only [ho] at h1; exact wpAnyIn_round hd hq fuel _ _ _ h1
    · rename_i o ho
      simp only [ho] at h1
      split
      · rename_i hw
        simp only [hw, if_true] at h1
        rcases h1 with h1 | ⟨_, _, _, h1⟩
        · exact Oper.wpIn_round (hd i o ho) (fun a' w' h' => wpAnyIn_round hd hq fuel _ a' w' h') h1
        · exact h1.elim
      · rename_i hw
        simp only [hw] at h1
        exact ⟨fun _ _ => trivial, wpAnyIn_round hd hq fuel _ _ _ h1⟩

def noDefer : List Oper → Bool
  | [] => true
  | o :: l => (match o.op with | .defer _ => false | _ => true) && noDefer l
theorem noDefer_spec : ∀ (l : List Oper), noDefer l = true → ∀ (i : Nat) (o : Oper), l[i]? = some o → ∀ c, o.op ≠ .defer c
  | [], _, i, o, h => by simp at h
  | x :: l, hn, i, o, h => by
    simp only [noDefer, Bool.and_eq_true] at hn
    cases i with
    | zero => simp at h; subst h; intro c e; rw [e] at hn; simp at hn
    | succ i => exact noDefer_spec l hn.2 i o (by simpa using h)

/-- A region that draws, within a round. -/
theorem region_round {id : Nat} {l : List Oper} {a : Act} {w : World} {R : Act → World → Prop} {lp n : Nat} (hm : P.follows .mixedOrders = true) (hd : noDefer l = true) (hq : ∀ a w, R a w → Q .normal a w)
    (h : wpAny P .any l.toArray (only R) l.toArray.size (Array.replicate l.toArray.size false) a { w with drawn := w.drawn + 1 }) :
    (Code.region id l.toArray true).wpIn (Fence.wide.inRound lp) n P Q a w :=
  wpIn_region_any hm (wpAnyIn_round (fun i o ho => noDefer_spec l hd i o (by simpa using ho)) hq _ _ _ _ h)

end
end Go.Proofs.YthgdmppmjnmiiaaGreatDoor.Nm

/- A region 'x = f(.. x ..)' that draws its order: all operations but the last two run in one stage; the last but one makes the new value, the last one stores it. -/
namespace Go.Proofs.YthgdmppmjnmiiaaGreatDoor.Nm
open Go Go.RowKit

section
variable {P : Program} {Q : Exit → Act → World → Prop}

/-- Those that come ahead of some of a list, in so many steps. -/
def ancs (l : List Oper) : Nat → List Nat → List Nat
  | 0, s => s
  | k + 1, s => ancs l k (s ++ s.flatMap fun i => ((l[i]?).map preds).getD [])
theorem ancs_listed {l : List Oper} {listed : Array Bool} (hdown : ∀ j o', l[j]? = some o' → listed.getD j false = true → ∀ k, (preds o').contains k = true → listed.getD k false = true) :
    ∀ (k : Nat) (s : List Nat), (∀ i ∈ s, listed.getD i false = true) → ∀ i ∈ ancs l k s, listed.getD i false = true
  | 0, _, h => h
  | k + 1, s, h => ancs_listed hdown k _ (fun i hi => by
      rcases List.mem_append.1 hi with hi | hi
      · exact h i hi
      · obtain ⟨j, hj, hij⟩ := List.mem_flatMap.1 hi
        cases ho : l[j]? with
        | none => simp [ho] at hij
        | some o => simp [ho] at hij; exact hdown j o ho (h j hj) i (by simpa using hij))

/-- The region's form: every operation below c comes ahead of c, c ahead of the last one, c + 1; no guards. -/
def collB (l : List Oper) (c : Nat) : Bool :=
  decide (l.length = c + 2) && (l.all fun o => o.guard.isNone) && ((List.range c).all fun i => (ancs l c [c]).contains i) && ((l[c + 1]?).map fun o => (preds o).contains c && o.dst.isNone).getD false && ((l.take (c + 1)).all fun o => o.dst.isSome)

theorem coll_any {l : List Oper} {a0 : Act} {w0 : World} (c N : Nat) (kept : List Nat) (Φ : Nat → Value → Prop) (A : World → Prop) (B C : Value → World → Prop)
    (hg : fitFrom N 0 kept l = true) (hB : collB l c = true) (hN : a0.tmps.size = N) (h0 : A w0)
    (hpre : ∀ i, i < c → ∀ (a : Act) (w : World), (∀ k, k ∈ kept → a.tmps[k]? = a0.tmps[k]?) → (∀ j, (preds (l.getD i default)).contains j = true → Φ j (slotOf l.toArray a j)) → A w →
      (l.getD i default).wp P a w (fun a' w' => ∃ v, a' = a.put (l.getD i default).dst v ∧ Φ i v ∧ A w') Q)
    (hmake : ∀ (a : Act) (w : World), (∀ k, k ∈ kept → a.tmps[k]? = a0.tmps[k]?) → (∀ j, (preds (l.getD c default)).contains j = true → Φ j (slotOf l.toArray a j)) → A w →
      (l.getD c default).wp P a w (fun a' w' => ∃ v, a' = a.put (l.getD c default).dst v ∧ Φ c v ∧ B v w') Q)
    (hstore : ∀ (a : Act) (w : World), (∀ k, k ∈ kept → a.tmps[k]? = a0.tmps[k]?) → Φ c (slotOf l.toArray a c) → B (slotOf l.toArray a c) w →
      (l.getD (c + 1) default).wp P a w (fun a' w' => a' = a ∧ C (slotOf l.toArray a c) w') Q)
    (hend : ∀ (a : Act) (w : World), a.defers = a0.defers → a.tmps.size = N → (∀ k, k ∈ kept → a.tmps[k]? = a0.tmps[k]?) → (∀ i, i < c + 1 → Φ i (slotOf l.toArray a i)) → C (slotOf l.toArray a c) w → Q .normal a w) :
    wpAny P .any l.toArray Q l.toArray.size (Array.replicate l.toArray.size false) a0 w0 := by
  simp only [collB, Bool.and_eq_true, decide_eq_true_eq] at hB
  obtain ⟨⟨⟨⟨hlen, hguard⟩, hanc⟩, hlast⟩, hdst⟩ := hB
  have hg0 : ∀ (i : Nat) (o : Oper), l[i]? = some o → o.guard = none := fun i o ho => by
    have := List.all_eq_true.1 hguard o (List.mem_of_getElem? ho)
    simpa using this
  have hlast' : ∃ o, l[c + 1]? = some o ∧ (preds o).contains c = true ∧ o.dst = none := by
    cases h : l[c + 1]? with
    | none => simp [h] at hlast
    | some o => simp [h] at hlast; exact ⟨o, rfl, by simpa using hlast.1, hlast.2⟩
  obtain ⟨ol, hol, hpl, hdl⟩ := hlast'
  have hds : ∀ (i : Nat) (o : Oper), i < c + 1 → l[i]? = some o → ∃ d, o.dst = some d := fun i o hi ho => by
    have h1 : (l.take (c + 1))[i]? = some o := by rw [List.getElem?_take, if_pos hi]; exact ho
    have := List.all_eq_true.1 hdst o (List.mem_of_getElem? h1)
    exact Option.isSome_iff_exists.1 (by simpa using this)
  have hspec := fitFrom_spec l 0 kept hg
  have hgd : ∀ (i : Nat) (o : Oper), l[i]? = some o → l.getD i default = o := fun i o ho => by simp [List.getD_eq_getElem?_getD, ho]
  -- the slot of c behind the other operations
  have hslot : ∀ (i : Nat) (o : Oper) (a : Act) (v : Value), i ≠ c → l[i]? = some o → slotOf l.toArray (a.put o.dst v) c = slotOf l.toArray a c := fun i o a v hic ho => by
    have hcl : c < l.length := by omega
    have hoc : l[c]? = some l[c] := List.getElem?_eq_getElem hcl
    obtain ⟨dc, hdc⟩ := hds c _ (by omega) hoc
    cases hd : o.dst with
    | none => rfl
    | some d =>
      have hoc' : l.toArray[c]? = some l[c] := by simp [hcl]
      refine slot_put_other hoc' hdc ?_
      intro e
      subst e
      rcases Nat.lt_or_gt_of_ne hic with h | h
      · exact ((hspec c _ hoc).2 d hdc).2.2 i o h ho hd
      · exact ((hspec i _ ho).2 d hd).2.2 c _ h hoc hdc
  let J : Array Bool → Act → World → Prop := fun listed a w => if listed.getD (c + 1) false = true then C (slotOf l.toArray a c) w else if listed.getD c false = true then B (slotOf l.toArray a c) w else A w
  refine steps_any N kept (fun i v => i < c + 1 → Φ i v) J hg hN ?_ ?_ ?_ ?_
  · show if _ then _ else _
    rw [if_neg (by simp [hlen]), if_neg (by simp [hlen])]
    exact h0
  · intro i o ho listed a w hsz hun hdown hdf hn hk hp hJ
    have hil : i < l.length := (List.getElem?_eq_some_iff.1 ho).1
    have hunf : listed.getD i false = false := by
      have : i < listed.size := by omega
      simpa [this] using hun
    have hw : Region.wanted o (yielded l.toArray a.tmps) = true := by simp [Region.wanted, hg0 i o ho]
    rw [if_pos hw]
    have hdc : ∀ (j : Nat) (o' : Oper), l[j]? = some o' → (∀ k, (preds o').contains k = true → k < j) := fun j o' ho' k hk => by
      obtain ⟨e, he, rfl⟩ := preds_spec hk
      have := (hspec j o' ho').1 e he.1
      omega
    have hs1 : listed.getD c false = true → ∀ j, j < c → listed.getD j false = true := fun hc j hj => by
      have h1 := ancs_listed hdown c [c] (by simpa using hc) j
      exact h1 (by have := List.all_eq_true.1 hanc j (List.mem_range.2 hj); simpa using this)
    have hs2 : listed.getD (c + 1) false = true → listed.getD c false = true := fun h => hdown (c + 1) ol hol h c hpl
    rcases Nat.lt_trichotomy i c with hic | hic | hic
    · have hcf : listed.getD c false = false := by
        cases h : listed.getD c false with
        | false => rfl
        | true => have := hs1 h i hic; rw [hunf] at this; exact this.symm ▸ rfl
      have hcf2 : listed.getD (c + 1) false = false := by
        cases h : listed.getD (c + 1) false with
        | false => rfl
        | true => have := hs2 h; rw [hcf] at this; exact this.symm ▸ rfl
      have hA : A w := by
        have := hJ
        simp only [J, hcf, hcf2] at this
        simpa using this
      have h1 := hpre i hic a w hk (by rw [hgd i o ho]; exact fun j hj => (hp j hj).2 (by have := hdc i o ho j hj; omega)) hA
      rw [hgd i o ho] at h1
      refine Oper.wp_mono ?_ h1
      rintro a' w' ⟨v, rfl, hv, hA'⟩
      refine ⟨v, rfl, fun _ _ => hv, ?_⟩
      show if _ then _ else _
      rw [getD_set_ne false (by omega : i ≠ c + 1), getD_set_ne false (by omega : i ≠ c), hcf, hcf2]
      simpa using hA'
    · subst hic
      have hcf2 : listed.getD (i + 1) false = false := by
        cases h : listed.getD (i + 1) false with
        | false => rfl
        | true => have := hs2 h; rw [hunf] at this; exact this.symm ▸ rfl
      have hA : A w := by
        have := hJ
        simp only [J, hunf, hcf2] at this
        simpa using this
      have h1 := hmake a w hk (by rw [hgd i o ho]; exact fun j hj => (hp j hj).2 (by have := hdc i o ho j hj; omega)) hA
      rw [hgd i o ho] at h1
      refine Oper.wp_mono ?_ h1
      rintro a' w' ⟨v, rfl, hv, hB'⟩
      refine ⟨v, rfl, fun _ _ => hv, ?_⟩
      obtain ⟨d, hd⟩ := hds i o (by omega) ho
      show if _ then _ else _
      rw [getD_set_ne false (by omega : i ≠ i + 1), hcf2]
      have : (listed.setIfInBounds i true).getD i false = true := by
        have : i < listed.size := by omega
        simp [this]
      rw [this, slot_put_same (by simpa using ho) hd (by have := ((hspec i o ho).2 d hd).2.1; omega)]
      simpa using hB'
    · have hie : i = c + 1 := by omega
      subst hie
      rw [hol] at ho
      cases ho
      have hcl : listed.getD c false = true := (hp c hpl).1
      have hB' : B (slotOf l.toArray a c) w := by
        have := hJ
        simp only [J, hunf, hcl] at this
        simpa using this
      have h1 := hstore a w hk ((hp c hpl).2 (by omega)) hB'
      rw [hgd _ _ hol] at h1
      refine Oper.wp_mono ?_ h1
      rintro a' w' ⟨rfl, hC⟩
      refine ⟨undef, by rw [hdl]; rfl, fun h => by rw [hdl] at h; simp at h, ?_⟩
      show if _ then _ else _
      have : (listed.setIfInBounds (c + 1) true).getD (c + 1) false = true := by
        have : c + 1 < listed.size := by omega
        simp [this]
      rw [this]
      simpa using hC
  · intro i o ho hd v hi
    obtain ⟨d, hd'⟩ := hds i o hi ho
    rw [hd] at hd'
    cases hd'
  · intro listed a w hsz hall hdf hn hk hΦ hJ
    refine hend a w hdf hn hk (fun i hi => hΦ i (by omega) hi) ?_
    have := hJ
    simp only [J, hall (c + 1) (by omega)] at this
    simpa using this

end
end Go.Proofs.YthgdmppmjnmiiaaGreatDoor.Nm
