/- The small functions of package lex: kinds of runes, bytes that are no rune's, refusals. -/
import Derived.Orders
import Derived.Below
import Derived.Tactics
import Derived.OrdersIn
import Derived.RangeFuncCalls
import Derived.Lib.Walk
import Derived.Lib.ItoaMem
import Derived.Lib.AppendIntMem
import Derived.BigCall
import Derived.BigGuard
import Derived.CellFam
import Derived.Lib.ItoaNum
import Derived.RangeFuncBox
import Derived.Lib.AppendStr
import Derived.Deep.QuietTactic
import Derived.BigQuiet
import Derived.Test.YtljhpbjngbbjbaaDoorProg
import Derived.MapKept
import Derived.ProofKit
import Derived.WalkKit
import Derived.Deep.MidRow
import Derived.Lib.DecodeN
import Derived.Laws.RangeAny
import Derived.Lib.Strings
import Derived.Shelf.Strings.Prefix
import Derived.Shelf.Unicode.DecodeAny
import Derived.Handy
import Derived.Lib.OthersKept
set_option linter.unusedVariables false
set_option linter.unusedSimpArgs false

/- The laws of regions (walked by a spec an operation), and the steps of straight code: what hangs on no program. -/
namespace Go.Proofs.YtljhpbjngbbjbaaDoor
open Go Go.RowKit

section
variable {P : Program} {ops : Array Oper} {Q : Exit → Act → World → Prop} {md : Region.Mode}

theorem filter_lt (p q : Nat → Bool) (hqp : ∀ j, q j = true → p j = true) (i : Nat) (hp : p i = true) (hq : q i = false) :
    ∀ l : List Nat, i ∈ l → (l.filter q).length < (l.filter p).length := by
  have hle : ∀ l : List Nat, (l.filter q).length ≤ (l.filter p).length := by
    intro l
    induction l with
    | nil => simp
    | cons x l ih =>
      simp only [List.filter_cons]
      cases hx : q x with
      | true => simp [hqp x hx, ih]
      | false =>
        cases p x with
        | true => simp; omega
        | false => simpa using ih
  intro l
  induction l with
  | nil => intro h; cases h
  | cons x l ih =>
    intro h
    rcases List.mem_cons.1 h with rfl | h
    · simp only [List.filter_cons, hp, hq]
      have := hle l
      simp
      omega
    · have := ih h
      simp only [List.filter_cons]
      cases hx : q x with
      | true => simp [hqp x hx, this]
      | false =>
        cases p x with
        | true => simp; omega
        | false => simpa using this

/-- How many have not come up. -/
def toCome (ops : Array Oper) (listed : Array Bool) : Nat := ((List.range ops.size).filter fun i => !listed.getD i true).length

theorem toCome_lt {listed : Array Bool} {i : Nat} (h : i ∈ Region.ready md ops listed) : toCome ops (listed.setIfInBounds i true) < toCome ops listed := by
  obtain ⟨h0, o, ho, _⟩ := mem_ready.1 h
  have hi : i < ops.size := (Array.getElem?_eq_some_iff.1 ho).1
  refine filter_lt _ _ ?_ i ?_ ?_ _ (List.mem_range.2 hi)
  · intro j hj
    by_cases e : i = j
    · subst e; simp [h0]
    · rw [getD_set_ne true e] at hj; exact hj
  · simp [h0]
  · by_cases hs : i < listed.size
    · simp [hs]
    · simp [Array.getElem?_eq_none (Nat.le_of_not_lt hs)] at h0

theorem ready_nil_of_toCome {listed : Array Bool} (h : toCome ops listed = 0) : Region.ready md ops listed = [] := by
  apply List.eq_nil_iff_forall_not_mem.2
  intro i hi
  have := toCome_lt hi
  omega

/-- An invariant that each operation hands on, in whatever order. -/
theorem wpAny_inv (I : Array Bool → Act → World → Prop)
    (hstep : ∀ listed a w i, I listed a w → i ∈ Region.ready md ops listed → wpOp P ops Q i (fun a' w' => I (listed.setIfInBounds i true) a' w') a w)
    (hend : ∀ listed a w, I listed a w → Region.ready md ops listed = [] → Q .normal a w) :
    ∀ fuel listed a w, toCome ops listed ≤ fuel → I listed a w → wpAny P md ops Q fuel listed a w := by
  intro fuel
  induction fuel with
  | zero => intro listed a w h hI; exact ⟨ready_nil_of_toCome (by omega), hend _ _ _ hI (ready_nil_of_toCome (by omega))⟩
  | succ fuel ih =>
    intro listed a w h hI
    refine ⟨fun hr => hend _ _ _ hI hr, fun i hi => wpOp_mono (fun a' w' h' => ih _ a' w' ?_ h') (hstep _ _ _ _ hI hi)⟩
    have := toCome_lt hi
    omega

/-- The slot that operation i writes. -/
def slotOf (ops : Array Oper) (a : Act) (i : Nat) : Value := a.tmps.getD (((ops[i]?).bind (·.dst)).getD 0) undef

theorem slot_put_same {a : Act} {i : Nat} {o : Oper} {d : Nat} {v : Value} (ho : ops[i]? = some o) (hd : o.dst = some d) (hlt : d < a.tmps.size) :
    slotOf ops (a.put o.dst v) i = v := by
  simp [slotOf, ho, hd, Act.put, hlt]

theorem slot_put_other {a : Act} {i : Nat} {o' : Oper} {d d' : Nat} {v : Value} (ho' : ops[i]? = some o') (hd' : o'.dst = some d') (hne : d ≠ d') :
    slotOf ops (a.put (some d) v) i = slotOf ops a i := by
  simp [slotOf, ho', hd', Act.put, Array.getElem?_setIfInBounds_ne hne]

/-- Those that an operation waits for, whatever the order. -/
def preds (o : Oper) : List Nat := (o.after.toList.filter (Region.binds .any)).map (·.on)
theorem preds_spec {o : Oper} {j : Nat} (h : (preds o).contains j = true) : ∃ e, (e ∈ o.after ∧ Region.binds .any e = true) ∧ e.on = j := by
  have h1 : j ∈ preds o := by simpa using h
  obtain ⟨e, he, rfl⟩ := List.mem_map.1 h1
  obtain ⟨h2, h3⟩ := List.mem_filter.1 he
  exact ⟨e, ⟨by simpa using h2, h3⟩, rfl⟩

section
variable {o : Oper} {a : Act} {w : World} {K : Act → World → Prop} {dst : Option Tmp} {ty : TypeId} {pos : String} {af : Array Edge} {gd : Option (Nat × Bool)}

theorem op_move {x : Operand} (h : K (a.put dst (a.eval x)) w) : Oper.wp P ⟨dst, .move x, ty, pos, af, gd⟩ a w K Q := h
theorem op_load {t : TypeId} {x : Operand} {p v : Value} (hx : a.eval x = p) (hr : (Instr.loadAt t p).run P w = .ok v w) (h : K (a.put dst v) w) : Oper.wp P ⟨dst, .load t x, ty, pos, af, gd⟩ a w K Q := by
  unfold Oper.wp
  simp [execOp, hx, hr, Oper.upon, h]
end

end
end Go.Proofs.YtljhpbjngbbjbaaDoor

namespace Go.Proofs.YtljhpbjngbbjbaaDoor
open Go Go.RowKit

section
variable {Q : Exit → Act → World → Prop} {a a0 : Act} {w w0 : World} {dst : Option Tmp} {ty : TypeId} {pos : String} {af : Array Edge} {gd : Option (Nat × Bool)}

variable {tys : Array TypeId} {s t : Nat} {y z : Int} {j k : Nat}
/-- An operation that is wanted. -/
theorem st_want {P : Program} {ops : Array Oper} {o : Oper} {X : Act → World → Prop} {Y : Prop} (hw : Region.wanted o (yielded ops a.tmps) = true) (h : o.wp P a w X Q) : if Region.wanted o (yielded ops a.tmps) then o.wp P a w X Q else Y := by
  rw [if_pos hw]; exact h
end

end Go.Proofs.YtljhpbjngbbjbaaDoor

namespace Go.Proofs.YtljhpbjngbbjbaaDoor
open Go Go.RowKit

section
variable {P : Program} {Q : Exit → Act → World → Prop}

end
end Go.Proofs.YtljhpbjngbbjbaaDoor

namespace Go.Proofs.YtljhpbjngbbjbaaDoor
open Go Go.RowKit

end Go.Proofs.YtljhpbjngbbjbaaDoor

namespace Go.Proofs.YtljhpbjngbbjbaaDoor
open Go Go.RowKit

theorem op_fieldAddr {P : Program} {Q : Exit → Act → World → Prop} {K : Act → World → Prop} {a : Act} {w : World} {dst : Option Tmp} {ty : TypeId} {pos : String} {af : Array Edge} {gd : Option (Nat × Bool)} {x : Operand} {vx v : Value} {t : TypeId} {f : Nat}
    (hx : a.eval x = vx) (hr : (Instr.fieldAt t vx f).run P w = .ok v w) (h : K (a.put dst v) w) : Oper.wp P ⟨dst, .fieldAddr t x f, ty, pos, af, gd⟩ a w K Q := by
  unfold Oper.wp
  simp [execOp, hx, hr, Oper.upon, h]

end Go.Proofs.YtljhpbjngbbjbaaDoor

namespace Go.Proofs.YtljhpbjngbbjbaaDoor.T4

end Go.Proofs.YtljhpbjngbbjbaaDoor.T4

namespace Go.Proofs.YtljhpbjngbbjbaaDoor.T4
open Go.RowKit
end Go.Proofs.YtljhpbjngbbjbaaDoor.T4

namespace Go.Proofs.YtljhpbjngbbjbaaDoor
open Go Go.RowKit

section
variable {P : Program} {Q : Exit → Act → World → Prop}
/-- Each operation waits only for such as stand ahead of it, and writes, if any, a slot of its own, below N. -/
def fitF (N : Nat) : Nat → List Nat → List Oper → Bool
  | _, _, [] => true
  | i, ds, o :: l => (o.after.toList.all fun e => !Region.binds .any e || decide (e.on < i)) && (match o.dst with | some d => !ds.contains d && decide (d < N) && fitF N (i + 1) (d :: ds) l | none => fitF N (i + 1) ds l)

theorem fitF_spec {N : Nat} : ∀ (l : List Oper) (i : Nat) (ds : List Nat), fitF N i ds l = true →
    ∀ j o, l[j]? = some o → (∀ e ∈ o.after, Region.binds .any e = true → e.on < i + j) ∧ ∀ d : Nat, o.dst = some d → d ∉ ds ∧ d < N ∧ ∀ k o', k < j → l[k]? = some o' → o'.dst ≠ some d
  | [], _, _, _, j, o, h => by simp at h
  | x :: l, i, ds, hg, j, o, h => by
    simp only [fitF, Bool.and_eq_true] at hg
    obtain ⟨hon, hd⟩ := hg
    cases hx : x.dst with
    | none =>
      simp only [hx] at hd
      cases j with
      | zero =>
        simp at h
        subst h
        refine ⟨fun e he hb => ?_, fun d hd' => by rw [hx] at hd'; cases hd'⟩
        have := List.all_eq_true.1 hon e (by simpa using he)
        simpa [hb] using this
      | succ j =>
        have h' : l[j]? = some o := by simpa using h
        obtain ⟨h1, h2⟩ := fitF_spec l (i + 1) ds hd j o h'
        refine ⟨fun e he hb => by have := h1 e he hb; omega, fun d hd' => ?_⟩
        obtain ⟨h3, h4, h5⟩ := h2 d hd'
        refine ⟨h3, h4, fun k o' hk ho' => ?_⟩
        cases k with
        | zero => simp at ho'; subst ho'; rw [hx]; simp
        | succ k => exact h5 k o' (by omega) (by simpa using ho')
    | some d0 =>
      simp only [hx, Bool.and_eq_true, decide_eq_true_eq] at hd
      obtain ⟨⟨hB, hN⟩, hr⟩ := hd
      have hB' : d0 ∉ ds := by simpa using hB
      cases j with
      | zero =>
        simp at h
        subst h
        refine ⟨fun e he hb => ?_, fun d hd' => ?_⟩
        · have := List.all_eq_true.1 hon e (by simpa using he)
          simpa [hb] using this
        · rw [hx] at hd'
          have e0 : d0 = d := Option.some.inj hd'
          subst e0
          exact ⟨hB', hN, fun k _ hk => absurd hk (by omega)⟩
      | succ j =>
        have h' : l[j]? = some o := by simpa using h
        obtain ⟨h1, h2⟩ := fitF_spec l (i + 1) (d0 :: ds) hr j o h'
        refine ⟨fun e he hb => by have := h1 e he hb; omega, fun d hd' => ?_⟩
        obtain ⟨h3, h4, h5⟩ := h2 d hd'
        refine ⟨fun hm => h3 (List.mem_cons_of_mem _ hm), h4, fun k o' hk ho' => ?_⟩
        cases k with
        | zero =>
          simp at ho'; subst ho'; rw [hx]
          intro e
          have e0 : d0 = d := Option.some.inj e
          exact h3 (e0 ▸ List.mem_cons_self)
        | succ k => exact h5 k o' (by omega) (by simpa using ho')

/-- Whatever order is picked: specs of the slots, and an invariant of what has come up, the frame and the world. -/
theorem stepsF {l : List Oper} {a0 : Act} {w0 : World} (N : Nat) (kept : List Nat) (Φ : Nat → Value → Prop) (J : Array Bool → Act → World → Prop)
    (hg : fitF N 0 kept l = true) (hN : a0.tmps.size = N) (h0 : J (Array.replicate l.length false) a0 w0)
    (hstep : ∀ i o, l[i]? = some o → ∀ (listed : Array Bool) (a : Act) (w : World), listed.size = l.length → listed.getD i true = false →
      (∀ j o', l[j]? = some o' → listed.getD j false = true → ∀ k, (preds o').contains k = true → listed.getD k false = true) →
      a.defers = a0.defers → a.tmps.size = N → (∀ k, k ∈ kept → a.tmps[k]? = a0.tmps[k]?) →
      (∀ j, (preds o).contains j = true → listed.getD j false = true ∧ Φ j (slotOf l.toArray a j)) → J listed a w →
      if Region.wanted o (yielded l.toArray a.tmps) then o.wp P a w (fun a' w' => ∃ v, a' = a.put o.dst v ∧ (o.dst.isSome = true → Φ i v) ∧ J (listed.setIfInBounds i true) a' w') Q
      else (o.dst.isSome = true → Φ i undef) ∧ J (listed.setIfInBounds i true) (a.put o.dst undef) w)
    (hsome : ∀ i o, l[i]? = some o → o.dst = none → ∀ v, Φ i v)
    (hend : ∀ (listed : Array Bool) (a : Act) (w : World), listed.size = l.length → (∀ i, i < l.length → listed.getD i false = true) → a.defers = a0.defers → a.tmps.size = N → (∀ k, k ∈ kept → a.tmps[k]? = a0.tmps[k]?) → (∀ i, i < l.length → Φ i (slotOf l.toArray a i)) → J listed a w → Q .normal a w) :
    wpAny P .any l.toArray Q l.toArray.size (Array.replicate l.toArray.size false) a0 w0 := by
  let I : Array Bool → Act → World → Prop := fun listed a w => listed.size = l.length ∧ (∀ j o', l[j]? = some o' → listed.getD j false = true → ∀ k, (preds o').contains k = true → listed.getD k false = true) ∧
    a.defers = a0.defers ∧ a.tmps.size = N ∧ (∀ k, k ∈ kept → a.tmps[k]? = a0.tmps[k]?) ∧ (∀ i, listed.getD i false = true → Φ i (slotOf l.toArray a i)) ∧ J listed a w
  have hspec := fitF_spec l 0 kept hg
  refine wpAny_inv (md := .any) I ?_ ?_ _ _ _ _ ?_ ?_
  · rintro listed a w i ⟨hsz, hdown, hdf, hn, hbase, hΦ, hJ⟩ hr
    obtain ⟨hun, o, ho, hpre⟩ := mem_ready.1 hr
    have hol : l[i]? = some o := by simpa using ho
    have hilt : i < l.length := (List.getElem?_eq_some_iff.1 hol).1
    have hpre' : ∀ j, (preds o).contains j = true → listed.getD j false = true := fun j hj => by
      obtain ⟨e, he, rfl⟩ := preds_spec hj
      exact hpre e he.1 he.2
    have hs := hstep i o hol listed a w hsz hun hdown hdf hn hbase (fun j hj => ⟨hpre' j hj, hΦ j (hpre' j hj)⟩) hJ
    have hdown' : ∀ j o', l[j]? = some o' → (listed.setIfInBounds i true).getD j false = true → ∀ k, (preds o').contains k = true → (listed.setIfInBounds i true).getD k false = true := by
      intro j o' ho' hj k hk
      by_cases e : i = j
      · subst e
        rw [hol] at ho'
        cases ho'
        exact getD_set_true (hpre' k hk)
      · rw [getD_set_ne false e] at hj
        exact getD_set_true (hdown j o' ho' hj k hk)
    have keep : ∀ w' v, (o.dst.isSome = true → Φ i v) → J (listed.setIfInBounds i true) (a.put o.dst v) w' → I (listed.setIfInBounds i true) (a.put o.dst v) w' := by
      intro w' v hv hJ'
      refine ⟨by simpa using hsz, hdown', ?_, ?_, ?_, ?_, hJ'⟩
      · cases hd : o.dst <;> simpa [Act.put] using hdf
      · cases hd : o.dst <;> simpa [Act.put] using hn
      · intro k hk
        cases hd : o.dst with
        | none => exact hbase k hk
        | some d =>
          simp only [Act.put]
          rw [Array.getElem?_setIfInBounds_ne (fun (e : d = k) => ((hspec i o hol).2 d hd).1 (e.symm ▸ hk))]
          exact hbase k hk
      · intro j hj
        by_cases e : i = j
        · subst e
          cases hd : o.dst with
          | none => exact hsome i o hol hd _
          | some d =>
            rw [← hd, slot_put_same ho hd (by have := ((hspec i o hol).2 d hd).2.1; omega)]
            exact hv (by simp [hd])
        · rw [getD_set_ne false e] at hj
          have hj' := hΦ j hj
          have hjlt : j < l.length := by
            rcases Nat.lt_or_ge j listed.size with h | h
            · omega
            · simp [Array.getElem?_eq_none h] at hj
          have hoj : l[j]? = some l[j] := List.getElem?_eq_getElem hjlt
          have hoj' : l.toArray[j]? = some l[j] := by simp [hjlt]
          cases hd : o.dst with
          | none => exact hj'
          | some d =>
            cases hd' : (l[j]).dst with
            | none => exact hsome j _ hoj hd' _
            | some d' =>
              have hne : d ≠ d' := by
                intro ee
                subst ee
                rcases Nat.lt_or_gt_of_ne e with h | h
                · exact ((hspec j _ hoj).2 d hd').2.2 i o h hol hd
                · exact ((hspec i _ hol).2 d hd).2.2 j _ h hoj hd'
              rw [slot_put_other hoj' hd' hne]
              exact hj'
    unfold wpOp
    simp only [ho]
    split
    · rename_i hw
      simp only [hw, if_true] at hs
      refine .inl (Oper.wp_mono ?_ hs)
      rintro a' w' ⟨v, rfl, hv, hJ'⟩
      exact keep w' v hv hJ'
    · rename_i hw
      simp only [hw] at hs
      exact keep w undef hs.1 hs.2
  · rintro listed a w ⟨hsz, hdown, hdf, hn, hbase, hΦ, hJ⟩ hr
    have hall : ∀ i, i < l.length → listed.getD i false = true := by
      intro i
      induction i using Nat.strongRecOn with
      | ind i ih =>
        intro hi
        cases hl : listed.getD i true with
        | true =>
          have : i < listed.size := by omega
          simpa [this] using hl
        | false =>
          exfalso
          have hoi : l[i]? = some l[i] := List.getElem?_eq_getElem hi
          have : i ∈ Region.ready .any l.toArray listed := by
            refine mem_ready.2 ⟨hl, l[i], by simp [hi], fun e he hb => ?_⟩
            have := (hspec i _ hoi).1 e he hb
            exact ih e.on (by omega) (by omega)
          rw [hr] at this
          cases this
    exact hend listed a w hsz hall hdf hn hbase (fun i hi => hΦ i (hall i hi)) hJ
  · unfold toCome
    exact Nat.le_trans (List.length_filter_le _ _) (by simp)
  · have hf : ∀ i, (Array.replicate l.toArray.size false).getD i false = true → False := by
      intro i hi
      rcases Nat.lt_or_ge i l.length with h | h
      · simp [h] at hi
      · simp [h] at hi
    exact ⟨by simp, fun j _ _ hj => (hf j hj).elim, rfl, hN, fun _ _ => rfl, fun i hi => (hf i hi).elim, by simpa using h0⟩
end

end Go.Proofs.YtljhpbjngbbjbaaDoor

namespace Go.Proofs.YtljhpbjngbbjbaaDoor
open Go Go.RowKit

/-- w' is w but for one block. -/
structure PutAt (r : Nat) (w w' : World) : Prop where
  os : w'.os = w.os
  tape : w'.tape = w.tape
  output : w'.output = w.output
  size : w'.heap.size = w.heap.size
  block : ∀ k, k ≠ r → w'.heap[k]? = w.heap[k]?
theorem PutAt.below {r B : Nat} {w0 w w' : World} (h : PutAt r w w') (hb : Below B w0 w) (hr : B ≤ r) : Below B w0 w' :=
  ⟨h.os.trans hb.os, h.tape.trans hb.tape, h.output.trans hb.output, by rw [h.size]; exact hb.size, fun k hk => (h.block k (by omega)).trans (hb.block k hk)⟩

/-- The kinds of boxes, by types. -/
structure Kinds where
  K : TypeId → World → Nat → Prop
  loc : ∀ t w w' r, w'.heap[r]? = w.heap[r]? → K t w r → K t w' r
  lt : ∀ t w r, K t w r → r < w.heap.size
  inj : ∀ t t' w r, K t w r → K t' w r → t = t'
  Z : World → Nat → Prop
/-- What is said of a slot: it stands when memory grows, and when a box is filled. -/
structure Sx (κ : Kinds) where
  ok : World → Value → Prop
  mono : ∀ w w' v, ok w v → Below w.heap.size w w' → ok w' v
  put : ∀ t w w' v r, ok w v → κ.K t w r → κ.Z w r → PutAt r w w' → κ.K t w' r → ok w' v
def Sx.any (κ : Kinds) : Sx κ := ⟨fun _ _ => True, fun _ _ _ h _ => h, fun _ _ _ _ _ h _ _ _ _ => h⟩
end Go.Proofs.YtljhpbjngbbjbaaDoor

namespace Go.Proofs.YtljhpbjngbbjbaaDoor
open Go Go.RowKit

end Go.Proofs.YtljhpbjngbbjbaaDoor

namespace Go.Proofs.YtljhpbjngbbjbaaDoor
open Go Go.RowKit

theorem getD_of {a : Act} {k : Nat} {v : Value} (h : a.tmps[k]? = some v) : a.tmps.getD k undef = v := by simp [Array.getD_eq_getD_getElem?, h]
section
variable {Q : Exit → Act → World → Prop} {a : Act} {w : World} {ty : TypeId} {pos : String} {af : Array Edge} {gd : Option (Nat × Bool)} {dst : Option Tmp} {K : Act → World → Prop}
end

end Go.Proofs.YtljhpbjngbbjbaaDoor

namespace Go.Proofs.YtljhpbjngbbjbaaDoor
open Go Go.RowKit

theorem nq {n m : Nat} (h : Nat.beq n m = false) : n ≠ m := Nat.ne_of_beq_eq_false h
section
variable {κ : Kinds} {Q : Exit → Act → World → Prop} {a : Act} {w : World} {ty : TypeId} {pos : String} {af : Array Edge} {gd : Option (Nat × Bool)} {dst : Option Tmp} {Y : Prop} {ops : Array Oper} {S : Sx κ} {G : World → Value → Prop}
end
end Go.Proofs.YtljhpbjngbbjbaaDoor

/- Maps by names: what hangs on no program. -/
namespace Go.Proofs.YtljhpbjngbbjbaaDoor
open Go Go.RowKit
/-- A map by names holds these, in this order. -/
def NM (w : World) (r : Nat) (es : List (ByteArray × Value)) : Prop := ∃ (a : Array MapEntry) (c : Nat), w.heap[r]? = some (.map a c) ∧ a.toList.map (fun e => (e.key, e.val)) = es.map (fun p => (Value.string p.1, p.2))
def look (k : ByteArray) : List (ByteArray × Value) → Option Value
  | [] => none
  | p :: l => if k = p.1 then some p.2 else look k l
def put (k : ByteArray) (v : Value) : List (ByteArray × Value) → List (ByteArray × Value)
  | [] => [(k, v)]
  | p :: l => if k = p.1 then (k, v) :: l else p :: put k v l
theorem find_nm {k : ByteArray} : ∀ (es : List (ByteArray × Value)) (l : List MapEntry) (i : Nat), l.map (fun e => (e.key, e.val)) = es.map (fun p => (Value.string p.1, p.2)) →
    (look k es = none ∧ Instr.findNow .string (.string k) l i = some none ∧ ∀ v, put k v es = es ++ [(k, v)]) ∨
    ∃ j v0, look k es = some v0 ∧ Instr.findNow .string (.string k) l i = some (some (i + j, v0)) ∧ (∃ h : j < l.length, l[j].key = .string k) ∧ ∀ v, (l.modify j fun e => { e with key := .string k, val := v }).map (fun e => (e.key, e.val)) = (put k v es).map (fun p => (Value.string p.1, p.2))
  | [], l, i, h => by
    have : l = [] := by simpa using h
    subst this
    exact .inl ⟨rfl, rfl, fun _ => rfl⟩
  | p :: es, [], i, h => by simp at h
  | p :: es, e :: l, i, h => by
    simp only [List.map_cons, List.cons.injEq, Prod.mk.injEq] at h
    obtain ⟨⟨h1, h2⟩, h3⟩ := h
    by_cases hk : k = p.1
    · refine .inr ⟨0, p.2, by simp [look, hk], ?_, ⟨by simp, by simp [h1, hk]⟩, fun v => ?_⟩
      · simp [Instr.findNow, h1, Instr.sameNow, hk, h2, (MapKept.bytes_beq p.1 p.1).2 rfl]
      · simp [put, hk, h3]
    · have hb : (k == p.1) = false := by
        cases hc : (k == p.1) with
        | false => rfl
        | true => exact absurd ((MapKept.bytes_beq _ _).1 hc) hk
      have hs : Instr.findNow .string (.string k) (e :: l) i = Instr.findNow .string (.string k) l (i + 1) := by
        simp [Instr.findNow, h1, Instr.sameNow, hb]
      rcases find_nm (k := k) es l (i + 1) h3 with ⟨a1, a2, a3⟩ | ⟨j, v0, a1, a2, ⟨a3, a4⟩, a5⟩
      · exact .inl ⟨by simp [look, hk, a1], hs.trans a2, fun v => by simp [put, hk, a3 v]⟩
      · refine .inr ⟨j + 1, v0, by simp [look, hk, a1], by rw [hs, a2]; congr 3; omega, ⟨by simp; omega, by simpa using a4⟩, fun v => ?_⟩
        have := a5 v
        simp only [List.modify_succ_cons, List.map_cons, put, if_neg hk, this, h1, h2]
section
variable {P : Program} {mt kt et : TypeId}
theorem nm_lookup {w : World} {r : Nat} {es : List (ByteArray × Value)} {k : ByteArray} {z : Value} (um : P.underlying mt = some (.map kt et)) (uk : P.underlying kt = some .string) (hz : (zeroValue et).run P w = .ok z w) (h : NM w r es) :
    (Instr.lookup mt (.map (some r)) (.string k) true).run P w = .ok (.tuple #[(look k es).getD z, .bool (look k es).isSome]) w ∧ (Instr.lookup mt (.map (some r)) (.string k) false).run P w = .ok ((look k es).getD z) w := by
  obtain ⟨a, c, h1, h2⟩ := h
  have ik : MapKept.IsKey .string (.string k) := trivial
  rcases find_nm (k := k) es a.toList 0 h2 with ⟨a1, a2, _⟩ | ⟨j, v0, a1, a2, _, _⟩
  · rw [a1]
    constructor <;> simp [Instr.lookup, run_underlying um, MapKept.run_getObj_map h1, MapKept.run_checkKey uk ik, MapKept.run_findKey uk a2, hz, Result.andThen]
  · rw [a1]
    constructor <;> simp [Instr.lookup, run_underlying um, MapKept.run_getObj_map h1, MapKept.run_checkKey uk ik, MapKept.run_findKey uk a2, Result.andThen]
theorem put_obj {w : World} {r : Nat} (o : Obj) (hlt : r < w.heap.size) : PutAt r w { w with heap := w.heap.setIfInBounds r o } ∧ ({ w with heap := w.heap.setIfInBounds r o } : World).heap[r]? = some o :=
  ⟨⟨rfl, rfl, rfl, by simp, fun k hk => by simp [Array.getElem?_setIfInBounds_ne (Ne.symm hk)]⟩, by simp [hlt]⟩
theorem nm_update {w : World} {r : Nat} {es : List (ByteArray × Value)} {k : ByteArray} {v : Value} (um : P.underlying mt = some (.map kt et)) (uk : P.underlying kt = some .string) (h : NM w r es) :
    ∃ w', (Instr.mapUpdate mt (.map (some r)) (.string k) v).run P w = .ok () w' ∧ PutAt r w w' ∧ NM w' r (put k v es) := by
  obtain ⟨a, c, h1, h2⟩ := h
  have ik : MapKept.IsKey .string (.string k) := trivial
  have hlt := (Array.getElem?_eq_some_iff.1 h1).1
  rcases find_nm (k := k) es a.toList 0 h2 with ⟨a1, a2, a3⟩ | ⟨j, v0, a1, a2, ⟨a3, a4⟩, a5⟩
  · obtain ⟨hp, ho⟩ := put_obj (w := w) (.map (a.push ⟨.string k, v, c⟩) (c + 1)) hlt
    exact ⟨_, by simp only [Instr.mapUpdate, Sem.run_bind, run_underlying um, MapKept.run_getObj_map h1, MapKept.run_checkKey uk ik, MapKept.run_findKey uk a2, MapKept.run_setObj_map _ h1, Result.andThen], hp, _, _, ho, by rw [a3 v]; simp [h2]⟩
  · obtain ⟨hp, ho⟩ := put_obj (w := w) (.map (a.modify (0 + j) fun e => { e with key := .string k, val := v }) c) hlt
    have hj : (((a[0 + j]?).map (·.key)).getD (.string k)) = .string k := by
      have : j < a.size := by simpa using a3
      simp only [Nat.zero_add]
      rw [Array.getElem?_eq_getElem this]
      simpa using a4
    have hst : (Instr.keyThatStays (.string k) (.string k)).run P w = .ok (.string k) w := by
      simp [Instr.keyThatStays, MapKept.sameBits_self ik]
    refine ⟨_, ?_, hp, _, _, ho, ?_⟩
    · simp only [Instr.mapUpdate, Sem.run_bind, run_underlying um, MapKept.run_getObj_map h1, MapKept.run_checkKey uk ik, MapKept.run_findKey uk a2, hj, hst, MapKept.run_setObj_map _ h1, Result.andThen]
    · simpa using a5 v
theorem nm_len {w : World} {r : Nat} {es : List (ByteArray × Value)} {ty : TypeId} (um : P.underlying mt = some (.map kt et)) (h : NM w r es) : (Builtin.len_ #[mt] ty #[.map (some r)]).run P w = .ok (.int .i64 es.length) w := by
  obtain ⟨a, c, h1, h2⟩ := h
  have : a.size = es.length := by
    have := congrArg List.length h2
    simpa using this
  simp [Builtin.len_, run_underlying um, MapKept.run_getObj_map h1, this, goInt]
end
theorem NM.new (w : World) : NM (w.alloc (.map #[] 0)) w.heap.size [] := ⟨#[], 0, (MapKept.heap_alloc w _).1, rfl⟩
theorem NM.lt {w : World} {r : Nat} {es : List (ByteArray × Value)} (h : NM w r es) : r < w.heap.size := by
  obtain ⟨_, _, h, _⟩ := h
  exact (Array.getElem?_eq_some_iff.1 h).1
theorem NM.same {w w' : World} {r : Nat} {es : List (ByteArray × Value)} (h : NM w r es) (hb : w'.heap[r]? = w.heap[r]?) : NM w' r es := by
  obtain ⟨a, c, h1, h2⟩ := h
  exact ⟨a, c, hb.trans h1, h2⟩
theorem NM.below {w w' : World} {r B : Nat} {es : List (ByteArray × Value)} (h : NM w r es) (hb : Below B w w') (hB : r < B) : NM w' r es := h.same (hb.block r hB)
end Go.Proofs.YtljhpbjngbbjbaaDoor

/- Package parse as plain Lean: what a row of tokens is read as. -/
namespace Go.Proofs.YtljhpbjngbbjbaaDoor
-- A token: its kind, its text, its place: (Int × ByteArray × Int) stands for it (gen.py writes it out)
/-- An expression: its operator, name, number, truth, operands, place. -/
structure Ex where
  op : Int
  name : ByteArray
  num : ByteArray
  b : Bool
  l : List Ex
  at' : Int
-- (Except (Int × Int) (α × Nat)): what was read and the place behind it, or an error and its place (gen.py writes it out).
/-- The three rules that count as one deeper. -/
def Ru : Type := Nat
def Ru.rE : Ru := (0 : Nat)
def Ru.rI : Ru := (1 : Nat)
def Ru.rU : Ru := (2 : Nat)
section
variable (ts : List (Int × ByteArray × Int))
def nx (p : Nat) : (Int × ByteArray × Int) := ts.getD p (0, ⟨#[]⟩, 0)
def txt (p : Nat) : ByteArray := (nx ts p).2.1
def madeR (op : Int) (l : List Ex) (i : Int) : Ex := .mk op ⟨#[]⟩ ⟨#[]⟩ false l i
def namedR (op : Int) (s : ByteArray) (l : List Ex) (i : Int) : Ex := .mk op s ⟨#[]⟩ false l i
variable (g : Ru → Nat → Nat → (Except (Int × Int) (Ex × Nat))) (d : Nat)
end
end Go.Proofs.YtljhpbjngbbjbaaDoor

/- Package parse as plain Lean: programs. -/
namespace Go.Proofs.YtljhpbjngbbjbaaDoor
/-- A type: its kind, its name, what holds of it, its place. -/
structure Ty where
  kind : Int
  name : ByteArray
  r : List Ex
  at' : Int
/-- A parameter: its name, its type, its place. -/
structure Pm where
  name : ByteArray
  t : Ty
  at' : Int
/-- A declaration. -/
structure De where
  cell : Bool
  name : ByteArray
  num : ByteArray
  again : Bool
  ps : List Pm
  eff : Int
  t : Ty
  req : List Ex
  res : ByteArray
  ens : List Ex
  mea : List Ex
  body : Ex
  at' : Int
def zEx : Ex := .mk 0 ⟨#[]⟩ ⟨#[]⟩ false [] 0
def zTy : Ty := .mk 0 ⟨#[]⟩ [] 0
section
variable (ts : List (Int × ByteArray × Int))
def cellN (below : Bool) (n : ByteArray) : ByteArray := if below ∧ n ≠ ⟨#[48]⟩ then ⟨#[45]⟩ ++ n else n
end
end Go.Proofs.YtljhpbjngbbjbaaDoor

/- Package scope as plain Lean: what its Resolve makes of declarations. -/
namespace Go.Proofs.YtljhpbjngbbjbaaDoor
/-- An expression with its number. -/
structure Er where
  op : Int
  name : ByteArray
  num : ByteArray
  b : Bool
  l : List Er
  i : Int
  at' : Int
structure Tr where
  kind : Int
  name : ByteArray
  r : List Er
  at' : Int
structure Pr where
  name : ByteArray
  t : Tr
  at' : Int
structure Dz where
  cell : Bool
  name : ByteArray
  num : ByteArray
  again : Bool
  ps : List Pr
  eff : Int
  t : Tr
  req : List Er
  res : ByteArray
  ens : List Er
  mea : List Er
  body : Er
  at' : Int
def Er.setI (t : Er) (i : Int) : Er := ⟨t.op, t.name, t.num, t.b, t.l, i, t.at'⟩
def Er.setL (t : Er) (l : List Er) : Er := ⟨t.op, t.name, t.num, t.b, l, t.i, t.at'⟩
def Tr.setR (t : Tr) (l : List Er) : Tr := ⟨t.kind, t.name, l, t.at'⟩
def Pr.setR (t : Pr) (l : List Er) : Pr := ⟨t.name, t.t.setR l, t.at'⟩
/-- A tree that was read, so high at most, with no numbers yet. -/
def er : Nat → Ex → Er
  | 0, t => ⟨t.op, t.name, t.num, t.b, [], 0, t.at'⟩
  | h + 1, t => ⟨t.op, t.name, t.num, t.b, t.l.map (er h), 0, t.at'⟩
def tr (h : Nat) (t : Ty) : Tr := ⟨t.kind, t.name, t.r.map (er h), t.at'⟩
def pr (h : Nat) (p : Pm) : Pr := ⟨p.name, tr h p.t, p.at'⟩
def dr (h : Nat) (d : De) : Dz := ⟨d.cell, d.name, d.num, d.again, d.ps.map (pr h), d.eff, tr h d.t, d.req.map (er h), d.res, d.ens.map (er h), d.mea.map (er h), er (h + 1) d.body, d.at'⟩
/-- So high at most. -/
def hiE : Nat → Ex → Bool
  | 0, _ => false
  | h + 1, t => t.l.all (hiE h)
def hiD (h : Nat) (d : De) : Bool := d.ps.all (fun p => p.t.r.all (hiE h)) && d.t.r.all (hiE h) && d.req.all (hiE h) && d.ens.all (hiE h) && d.mea.all (hiE h) && d.body.l.all (hiE h)
/-- So many expressions. -/
def sumN (l : List Nat) : Nat := l.foldr (· + ·) 0
def coE : Nat → Ex → Nat
  | 0, _ => 1
  | h + 1, t => 1 + sumN (t.l.map (coE h))
def coL (h : Nat) (l : List Ex) : Nat := sumN (l.map (coE h))
def coP (h : Nat) (l : List Pm) : Nat := l.length + sumN (l.map fun p => coL h p.t.r)
def coD (h : Nat) (d : De) : Nat := coP h d.ps + coL h d.t.r + coL h d.req + coL h d.ens + coL h d.mea + coL h d.body.l
def lkI (k : ByteArray) : List (ByteArray × Int) → Option Int
  | [] => none
  | p :: l => if k = p.1 then some p.2 else lkI k l
def ptI (k : ByteArray) (v : Int) : List (ByteArray × Int) → List (ByteArray × Int)
  | [] => [(k, v)]
  | p :: l => if k = p.1 then (k, v) :: l else p :: ptI k v l
/-- What is known on the way: the names that may be named, the binders, how many binders there are, whether an old may stand, the first error. -/
structure RZ where
  cells : List (ByteArray × Int)
  defs : List (ByteArray × Int)
  bind : List (ByteArray × Int)
  depth : Int
  ens : Bool
  wr : Option (Int × Int)
def RZ.ref (z : RZ) (a n : Int) : RZ := match z.wr with
  | none => ⟨z.cells, z.defs, z.bind, z.depth, z.ens, some (a, n)⟩
  | some _ => z
def RZ.bnd (z : RZ) (s : ByteArray) : Int := (lkI s z.bind).getD 0
def RZ.setB (z : RZ) (d : Int) (s : ByteArray) (v : Int) : RZ := ⟨z.cells, z.defs, ptI s v z.bind, d, z.ens, z.wr⟩
def RZ.setE (z : RZ) (e : Bool) : RZ := ⟨z.cells, z.defs, z.bind, z.depth, e, z.wr⟩
def thr {α : Type} (f : RZ → α → α × RZ) : RZ → List α → List α × RZ
  | z, [] => ([], z)
  | z, t :: l => match f z t with
    | (u, y) => match thr f y l with
      | (us, y2) => (u :: us, y2)
def undS (f : RZ → List Er → List Er × RZ) (s : ByteArray) (z : RZ) (l : List Er) : List Er × RZ :=
  match f (z.setB (z.depth + 1) s (z.depth + 1)) l with
  | (u, y) => (u, y.setB (y.depth - 1) s (z.bnd s))
def numS (m : List (ByteArray × Int)) (z : RZ) (t : Er) : Er × RZ := match lkI t.name m with
  | some k => (t.setI k, z)
  | none => (t.setI 0, z.ref t.at' 170)
def varS (z : RZ) (t : Er) : Er × RZ := if z.bnd t.name = 0 then (t, z.ref t.at' 170) else (t.setI (z.depth - z.bnd t.name), z)
def opsS (f : RZ → Er → Er × RZ) (z : RZ) (t : Er) : Er × RZ := match thr f z t.l with
  | (u, y) => (t.setL u, y)
def binS (f : RZ → Er → Er × RZ) (z : RZ) (t : Er) : Er × RZ := match thr f z (t.l.take 1) with
  | (u, y) => match undS (thr f) t.name y (t.l.drop 1) with
    | (v, y2) => (t.setL (u ++ v), y2)
def rxE : Nat → RZ → Er → Er × RZ
  | 0, z, t => (t, z)
  | h + 1, z, t =>
    if t.op = 4 then varS z t
    else if t.op = 5 then numS z.cells z t
    else if t.op = 6 then numS z.cells (if z.ens then z else z.ref t.at' 172) t
    else if t.op = 25 then (match numS z.cells z t with | (u, y) => opsS (rxE h) y u)
    else if t.op = 21 then (match numS z.defs z t with | (u, y) => opsS (rxE h) y u)
    else if t.op = 23 ∨ t.op = 27 then binS (rxE h) z t
    else opsS (rxE h) z t
def rxP (h : Nat) (z : RZ) (p : Pr) : Pr × RZ :=
  match undS (thr (rxE h)) p.t.name (if 0 < z.bnd p.name then z.ref p.at' 171 else z) p.t.r with
  | (u, y) => (p.setR u, y.setB (y.depth + 1) p.name (y.depth + 1))
def RZ.fresh (z : RZ) : RZ := ⟨z.cells, z.defs, [], 0, z.ens, z.wr⟩
def rxF (h : Nat) (z : RZ) (d : Dz) : Dz × RZ :=
  match thr (rxP h) z.fresh d.ps with
  | (ps, z1) => match thr (rxE h) z1 d.req with
    | (req, z2) => match undS (thr (rxE h)) d.t.name z2 d.t.r with
      | (r, z3) => match undS (thr (rxE h)) d.res (z3.setE true) d.ens with
        | (ens, z4) => match thr (rxE h) (z4.setE false) d.mea with
          | (mea, z5) => match rxE (h + 1) z5 d.body with
            | (body, z6) => (⟨d.cell, d.name, d.num, d.again, ps, d.eff, d.t.setR r, req, d.res, ens, mea, body, d.at'⟩, z6)
def RZ.setC (z : RZ) (s : ByteArray) (v : Int) : RZ := ⟨ptI s v z.cells, z.defs, z.bind, z.depth, z.ens, z.wr⟩
def RZ.setD (z : RZ) (s : ByteArray) (v : Int) : RZ := ⟨z.cells, ptI s v z.defs, z.bind, z.depth, z.ens, z.wr⟩
def RZ.has (z : RZ) (s : ByteArray) : Bool := (lkI s z.cells).isSome || (lkI s z.defs).isSome
def rxC (h : Nat) (z : RZ) (d : Dz) : Dz × RZ :=
  if d.cell then (d, z.setC d.name z.cells.length)
  else match rxF h (if d.again then z.setD d.name z.defs.length else z) d with
    | (u, y) => (u, y.setD d.name z.defs.length)
def rxD (h : Nat) (z : RZ) (d : Dz) : Dz × RZ := rxC h (if z.has d.name then z.ref d.at' 171 else z) d
def rxZ : RZ := ⟨[], [], [], 0, false, none⟩
/-- Names, found: the declarations with their numbers, or the first error. -/
def rxR (h : Nat) (l : List De) : Except (Int × Int) (List Dz) :=
  match thr (rxD h) rxZ (l.map (dr h)) with
  | (u, y) => match y.wr with
    | some e => .error e
    | none => .ok u
theorem thr_go {α : Type} {f : RZ → α → α × RZ} {l : List α} {z z1 : RZ} {u rest : List α} {t : α} (h : thr f z l = (u ++ (thr f z1 (t :: rest)).1, (thr f z1 (t :: rest)).2)) : thr f z l = ((u ++ [(f z1 t).1]) ++ (thr f (f z1 t).2 rest).1, (thr f (f z1 t).2 rest).2) := by
  have e : ∀ (z : RZ) (t : α) (l : List α), thr f z (t :: l) = ((f z t).1 :: (thr f (f z t).2 l).1, (thr f (f z t).2 l).2) := fun _ _ _ => rfl
  rw [h, e]
  simp
end Go.Proofs.YtljhpbjngbbjbaaDoor

/- Expressions that lie in blocks of their own, and what turns where they are written into. -/
namespace Go.Proofs.YtljhpbjngbbjbaaDoor
open Go Go.RowKit
/-- Below block H all stands but some cells. -/
structure Fr (H : Nat) (S : Nat → Nat → Prop) (w w' : World) : Prop where
  os : w'.os = w.os
  tape : w'.tape = w.tape
  output : w'.output = w.output
  size : w.heap.size ≤ w'.heap.size
  block : ∀ k, k < H → (∀ j, ¬ S k j) → w'.heap[k]? = w.heap[k]?
  cell : ∀ k j, k < H → ¬ S k j → w'.cell? ⟨k, j, none⟩ = w.cell? ⟨k, j, none⟩
  froz : ∀ k j, k < H → w'.frozen? ⟨k, j, none⟩ = w.frozen? ⟨k, j, none⟩
theorem Fr.refl (H : Nat) (S : Nat → Nat → Prop) (w : World) : Fr H S w w := ⟨rfl, rfl, rfl, Nat.le_refl _, fun _ _ _ => rfl, fun _ _ _ _ => rfl, fun _ _ _ => rfl⟩
theorem Fr.trans {H : Nat} {S : Nat → Nat → Prop} {a b c : World} (h : Fr H S a b) (k : Fr H S b c) : Fr H S a c :=
  ⟨k.os.trans h.os, k.tape.trans h.tape, k.output.trans h.output, Nat.le_trans h.size k.size, fun j hj hs => (k.block j hj hs).trans (h.block j hj hs), fun j i hj hs => (k.cell j i hj hs).trans (h.cell j i hj hs), fun j i hj => (k.froz j i hj).trans (h.froz j i hj)⟩
theorem Fr.mono {H : Nat} {S S' : Nat → Nat → Prop} {a b : World} (h : Fr H S a b) (hs : ∀ k j, S k j → S' k j) : Fr H S' a b :=
  ⟨h.os, h.tape, h.output, h.size, fun k hk hn => h.block k hk fun j hj => hn j (hs k j hj), fun k j hk hn => h.cell k j hk fun hj => hn (hs k j hj), h.froz⟩
theorem cell_blk {w w' : World} {k : Nat} (h : w'.heap[k]? = w.heap[k]?) (j : Nat) : w'.cell? ⟨k, j, none⟩ = w.cell? ⟨k, j, none⟩ := World.cell?_of_block (w := w) (a := ⟨k, j, none⟩) h
theorem froz_blk {w w' : World} {k : Nat} (h : w'.heap[k]? = w.heap[k]?) (j : Nat) : w'.frozen? ⟨k, j, none⟩ = w.frozen? ⟨k, j, none⟩ := World.frozen?_of_block (w := w) (a := ⟨k, j, none⟩) h
theorem Fr.of {H : Nat} (S : Nat → Nat → Prop) {a b : World} (h : Below H a b) : Fr H S a b :=
  ⟨h.os, h.tape, h.output, h.size, fun k hk _ => h.block k hk, fun k j hk _ => cell_blk (h.block k hk) j, fun k j hk => froz_blk (h.block k hk) j⟩
theorem Fr.below {H : Nat} {a b : World} (h : Fr H (fun _ _ => False) a b) : Below H a b := ⟨h.os, h.tape, h.output, h.size, fun k hk => h.block k hk fun _ h => h⟩
theorem Fr.low {H B : Nat} {S : Nat → Nat → Prop} {a b : World} (h : Fr H S a b) (hB : B ≤ H) (hs : ∀ k j, S k j → B ≤ k) : Below B a b := ⟨h.os, h.tape, h.output, h.size, fun k hk => h.block k (by omega) fun j hj => by have := hs k j hj; omega⟩
theorem cell_ne {w : World} {q o k j : Nat} {v : Value} (h : k ≠ q ∨ j ≠ o) : (w.setCell ⟨q, o, none⟩ v).cell? ⟨k, j, none⟩ = w.cell? ⟨k, j, none⟩ :=
  World.cell?_setCell_other _ _ _ _ (by intro e; injection e with e1 e2; rcases h with h | h <;> omega)
theorem Fr.set {H : Nat} {S : Nat → Nat → Prop} {a b : World} (h : Fr H S a b) {q o : Nat} (v : Value) (hs : q < H → S q o) : Fr H S a (b.setCell ⟨q, o, none⟩ v) :=
  ⟨h.os, h.tape, h.output, by simpa using h.size, fun k hk hn => by
    by_cases e : k = q
    · subst e; exact absurd (hs hk) (hn o)
    · exact (Below.heap_setCell b ⟨q, o, none⟩ v k e).trans (h.block k hk hn), fun k j hk hn => by
    by_cases e : k = q ∧ j = o
    · obtain ⟨rfl, rfl⟩ := e; exact absurd (hs hk) hn
    · exact (cell_ne (by omega)).trans (h.cell k j hk hn), fun k j hk => by
    rw [World.frozen?_setCell]; exact h.froz k j hk⟩
theorem Fr.alloc {H : Nat} {S : Nat → Nat → Prop} {a b : World} (h : Fr H S a b) (hb : H ≤ b.heap.size) (o : Obj) : Fr H S a (b.alloc o) := h.trans (Fr.of S ((Below.refl H b).alloc hb o))
theorem Fr.put {H r : Nat} {S : Nat → Nat → Prop} {a b c : World} (h : Fr H S a b) (hp : PutAt r b c) (hr : H ≤ r) : Fr H S a c := h.trans (Fr.of S ⟨hp.os, hp.tape, hp.output, by rw [hp.size]; exact Nat.le_refl _, fun k hk => hp.block k (by omega)⟩)
/-- Blocks of an interval, and some cells of one block. -/
def Foot (lo hi q o n : Nat) (k j : Nat) : Prop := (lo ≤ k ∧ k < hi) ∨ (k = q ∧ o ≤ j ∧ j < o + n)
/-- Expressions that stand one behind the other in a block, with what hangs on them in blocks of an interval, one behind the other. -/
def OLp (p : Nat → Nat → Nat → Nat → Er → Prop) (q : Nat) : Nat → Nat → Nat → List Er → Prop
  | lo, hi, _, [] => lo = hi
  | lo, hi, o, t :: l => ∃ m, lo ≤ m ∧ p lo m q o t ∧ OLp p q m hi (o + 7) l
/-- Such a row as a slice. -/
def OSp (p : Nat → Nat → Nat → Nat → Er → Prop) (lo hi : Nat) (a : Option Addr) (n c : Nat) (l : List Er) : Prop :=
  n = l.length ∧ n ≤ c ∧ n ≤ 1000000 ∧ lo ≤ hi ∧ (l ≠ [] → ∃ q o, a = some ⟨q, o, none⟩ ∧ lo ≤ q ∧ q < hi ∧ OLp p q (q + 1) hi o l) ∧ (l = [] → a = none ∧ c = 0)
def nodeC (t : Er) (a : Option Addr) (n c : Nat) : List Value := [.int .i64 t.op, .string t.name, .string t.num, .bool t.b, .slice a n c, .int .i64 t.i, .int .i64 t.at']
def OE (w : World) : Nat → Nat → Nat → Nat → Nat → Er → Prop
  | 0, _, _, _, _, _ => False
  | h + 1, lo, hi, b, o, t => ∃ a n c, w.rangeAt b o (nodeC t a n c) ∧ w.frozen? ⟨b, o + 5, none⟩ = false ∧ OSp (OE w h) lo hi a n c t.l
theorem OLp.le {p : Nat → Nat → Nat → Nat → Er → Prop} {q : Nat} : ∀ (l : List Er) (lo hi o : Nat), OLp p q lo hi o l → lo ≤ hi
  | [], _, _, _, h => Nat.le_of_eq h
  | _ :: l, _, _, _, ⟨_, h1, _, h3⟩ => Nat.le_trans h1 (OLp.le l _ _ _ h3)
theorem OE.le {w : World} : ∀ {h lo hi b o : Nat} {t : Er}, OE w h lo hi b o t → lo ≤ hi
  | 0, _, _, _, _, _, h => h.elim
  | _ + 1, _, _, _, _, _, ⟨_, _, _, _, _, h⟩ => h.2.2.2.1
theorem OLp.split {p : Nat → Nat → Nat → Nat → Er → Prop} {q : Nat} : ∀ (u l : List Er) (lo hi o : Nat), OLp p q lo hi o (u ++ l) ↔ ∃ m, OLp p q lo m o u ∧ OLp p q m hi (o + 7 * u.length) l
  | [], l, lo, hi, o => ⟨fun h => ⟨lo, rfl, by simpa using h⟩, fun ⟨m, h1, h2⟩ => by
      obtain rfl : lo = m := h1
      simpa using h2⟩
  | t :: u, l, lo, hi, o => by
    have e : o + 7 * (t :: u).length = o + 7 + 7 * u.length := by simp; omega
    rw [e]
    constructor
    · rintro ⟨k, h1, h2, h3⟩
      obtain ⟨m, h4, h5⟩ := (OLp.split u l k hi (o + 7)).1 h3
      exact ⟨m, ⟨k, h1, h2, h4⟩, h5⟩
    · rintro ⟨m, ⟨k, h1, h2, h4⟩, h5⟩
      exact ⟨k, h1, h2, (OLp.split u l k hi (o + 7)).2 ⟨m, h4, h5⟩⟩
theorem OLp.imp {p p' : Nat → Nat → Nat → Nat → Er → Prop} {q : Nat} : ∀ (l : List Er) (lo hi o : Nat), OLp p q lo hi o l → (∀ lo' hi' o' t, lo ≤ lo' → hi' ≤ hi → o ≤ o' → o' + 7 ≤ o + 7 * l.length → p lo' hi' q o' t → p' lo' hi' q o' t) → OLp p' q lo hi o l
  | [], _, _, _, h, _ => h
  | t :: l, lo, hi, o, ⟨m, h1, h2, h3⟩, k => ⟨m, h1, k _ _ _ _ (Nat.le_refl _) (OLp.le l _ _ _ h3) (Nat.le_refl _) (by simp; omega) h2, OLp.imp l _ _ _ h3 fun lo' hi' o' t g1 g2 g3 g4 => k lo' hi' o' t (by omega) g2 (by omega) (by simp; omega)⟩
/-- What is written elsewhere leaves such a tree alone. -/
theorem OE.keep {w w' : World} : ∀ {h lo hi b o : Nat} {t : Er}, OE w h lo hi b o t → (∀ j, o ≤ j → j < o + 7 → w'.cell? ⟨b, j, none⟩ = w.cell? ⟨b, j, none⟩ ∧ w'.frozen? ⟨b, j, none⟩ = w.frozen? ⟨b, j, none⟩) → (∀ k, lo ≤ k → k < hi → w'.heap[k]? = w.heap[k]?) → OE w' h lo hi b o t
  | 0, _, _, _, _, _, h, _, _ => h.elim
  | h + 1, lo, hi, b, o, t, ⟨a, n, c, h1, h2, h3, h4, h5, h6, h7, h8⟩, hc, hb => by
    refine ⟨a, n, c, fun j v hv => ?_, ((hc (o + 5) (by omega) (by omega)).2).trans h2, h3, h4, h5, h6, fun hl => ?_, h8⟩
    · have hj : j < 7 := (List.getElem?_eq_some_iff.1 hv).1
      exact ((hc (o + j) (by omega) (by omega)).1).trans (h1 j v hv)
    · obtain ⟨q, o', e, g1, g2, g3⟩ := h7 hl
      refine ⟨q, o', e, g1, g2, OLp.imp _ _ _ _ g3 fun lo' hi' o'' t' k1 k2 k3 k4 k5 => ?_⟩
      exact OE.keep k5 (fun j _ _ => ⟨cell_blk (hb q g1 g2) j, froz_blk (hb q g1 g2) j⟩) fun k k6 k7 => hb k (by omega) (by omega)
/-- What is done elsewhere. -/
theorem OE.fr {w w' : World} {h lo hi b o H : Nat} {t : Er} {S : Nat → Nat → Prop} (hx : OE w h lo hi b o t) (hf : Fr H S w w') (hb : b < H) (hh : hi ≤ H) (h1 : ∀ j, o ≤ j → j < o + 7 → ¬ S b j) (h2 : ∀ k j, lo ≤ k → k < hi → ¬ S k j) : OE w' h lo hi b o t :=
  hx.keep (fun j k1 k2 => ⟨hf.cell b j hb (h1 j k1 k2), hf.froz b j hb⟩) fun k k1 k2 => hf.block k (by omega) fun j => h2 k j k1 k2
theorem OLp.fr {w w' : World} {h lo hi q o H : Nat} {l : List Er} {S : Nat → Nat → Prop} (hx : OLp (OE w h) q lo hi o l) (hf : Fr H S w w') (hb : q < H) (hh : hi ≤ H) (h1 : ∀ j, o ≤ j → j < o + 7 * l.length → ¬ S q j) (h2 : ∀ k j, lo ≤ k → k < hi → ¬ S k j) : OLp (OE w' h) q lo hi o l :=
  OLp.imp l _ _ _ hx fun lo' hi' o' t g1 g2 g3 g4 g5 => g5.fr hf hb (by omega) (fun j k1 k2 => h1 j (by omega) (by omega)) fun k j k1 k2 => h2 k j (by omega) (by omega)
theorem OSp.fr {w w' : World} {h lo hi n c H : Nat} {a : Option Addr} {l : List Er} {S : Nat → Nat → Prop} (hx : OSp (OE w h) lo hi a n c l) (hf : Fr H S w w') (hh : hi ≤ H) (h2 : ∀ k j, lo ≤ k → k < hi → ¬ S k j) : OSp (OE w' h) lo hi a n c l := by
  obtain ⟨h3, h4, h5, h6, h7, h8⟩ := hx
  refine ⟨h3, h4, h5, h6, fun hl => ?_, h8⟩
  obtain ⟨q, o, e, g1, g2, g3⟩ := h7 hl
  exact ⟨q, o, e, g1, g2, g3.fr hf (by omega) hh (fun j _ _ => h2 q j g1 g2) fun k j k1 k2 => h2 k j (by omega) k2⟩
/-- An expression's number is written. -/
theorem OE.setI {w : World} {h lo hi b o : Nat} {t : Er} (hx : OE w h lo hi b o t) (hb : b < lo ∨ hi ≤ b) (i : Int) : OE (w.setCell ⟨b, o + 5, none⟩ (.int .i64 i)) h lo hi b o (t.setI i) := by
  cases h with
  | zero => exact hx.elim
  | succ h =>
    obtain ⟨a, n, c, h1, h2, h3⟩ := hx
    refine ⟨a, n, c, fun j v hv => ?_, by rw [World.frozen?_setCell]; exact h2, ?_⟩
    · have hj : j < 7 := (List.getElem?_eq_some_iff.1 hv).1
      by_cases e : j = 5
      · subst e
        obtain rfl : Value.int .i64 i = v := by simpa [nodeC, Er.setI] using hv
        exact World.cell?_setCell_same _ _ _ (h1 5 _ rfl)
      · refine (cell_ne (.inr (by omega))).trans (h1 j v ?_)
        rcases j with _ | _ | _ | _ | _ | _ | _ | j
        all_goals first | exact hv | omega
    · have hf : Fr (max hi (b + 1)) (fun k j => k = b) w (w.setCell ⟨b, o + 5, none⟩ (.int .i64 i)) := (Fr.refl _ _ w).set _ fun _ => rfl
      exact h3.fr hf (by omega) fun k j k1 k2 e => by omega
theorem OE.cells {w : World} {h lo hi b o : Nat} {t : Er} (hx : OE w (h + 1) lo hi b o t) : ∃ a n c, w.cell? ⟨b, o, none⟩ = some (.int .i64 t.op) ∧ w.cell? ⟨b, o + 1, none⟩ = some (.string t.name) ∧ w.cell? ⟨b, o + 4, none⟩ = some (.slice a n c) ∧ w.cell? ⟨b, o + 5, none⟩ = some (.int .i64 t.i) ∧ w.cell? ⟨b, o + 6, none⟩ = some (.int .i64 t.at') ∧ w.frozen? ⟨b, o + 5, none⟩ = false ∧ OSp (OE w h) lo hi a n c t.l := by
  obtain ⟨a, n, c, h1, h2, h3⟩ := hx
  exact ⟨a, n, c, h1 0 _ rfl, h1 1 _ rfl, h1 4 _ rfl, h1 5 _ rfl, h1 6 _ rfl, h2, h3⟩
theorem OE.has {w : World} {h lo hi b o : Nat} {t : Er} (hx : OE w h lo hi b o t) : b < w.heap.size := by
  cases h with
  | zero => exact hx.elim
  | succ h =>
    obtain ⟨a, n, c, h1, -⟩ := hx.cells
    unfold World.cell? at h1
    split at h1
    · rename_i e
      exact (Array.getElem?_eq_some_iff.1 e).1
    · cases h1
end Go.Proofs.YtljhpbjngbbjbaaDoor

/- Tokens of a text, as plain Lean over bytes: what stands at a place (rd), and all of it (lx); facts on runes at a place. No program in this text. -/
namespace Go.Proofs.YtljhpbjngbbjbaaDoor

def By (s : ByteArray) (i : Nat) : Nat := (s.get! i).toNat
def rn (s : ByteArray) (i : Nat) : Nat := (Utf8.decode s i).1
def wd (s : ByteArray) (i : Nat) : Nat := (Utf8.decode s i).2
def isBl (c : Nat) : Bool := c == 32 || c == 9 || c == 10 || c == 13
def isLe (c : Nat) : Bool := (decide (65 ≤ c) && decide (c ≤ 90)) || (decide (97 ≤ c) && decide (c ≤ 122)) || c == 95 || decide (128 ≤ c)
def isDi (c : Nat) : Bool := decide (48 ≤ c) && decide (c ≤ 57)
def noR (s : ByteArray) (i : Nat) : Bool := rn s i == 65533 && wd s i == 1
def inName (s : ByteArray) (i : Nat) : Bool := !noR s i && (isLe (rn s i) || isDi (rn s i))
def nameEnd (s : ByteArray) : Nat → Nat → Nat
  | 0, i => i
  | f + 1, i => if i < s.size then (if inName s i then nameEnd s f (i + wd s i) else i) else i
def digEnd (s : ByteArray) : Nat → Nat → Nat
  | 0, i => i
  | f + 1, i => if i < s.size then (if isDi (rn s i) then digEnd s f (i + 1) else i) else i
/-- A comment from within: (j, 0): ended, j behind it; (j, 1): a byte that is no rune's at j; (0, 2): not ended. -/
def cmt (s : ByteArray) : Nat → Nat → Bool → Nat × Nat
  | 0, _, _ => (0, 2)
  | f + 1, i, star => if i < s.size then (if noR s i then (i, 1) else if star && rn s i == 41 then (i + 1, 0) else cmt s f (i + wd s i) (rn s i == 42)) else (0, 2)
def fits (s : ByteArray) : Nat → List Nat → Bool
  | _, [] => true
  | i, c :: l => decide (i < s.size) && By s i == c && fits s (i + 1) l
def signL : List (List Nat) := [[61, 61, 62], [58, 61], [60, 61], [62, 61], [60, 62], [38, 38], [124, 124], [45, 62], [59, 59], [58], [59], [44], [46], [40], [41], [123], [125], [124], [61], [60], [62], [43], [45], [42], [33]]
def sgn (s : ByteArray) (i : Nat) : Nat := ((signL.find? fun l => fits s i l).map List.length).getD 0
def wordL : List (List UInt8) := [[108, 101, 116], [114, 101, 99], [114, 101, 102], [105, 115], [105, 110], [105, 102], [116, 104, 101, 110], [101, 108, 115, 101], [116, 114, 121], [119, 105, 116, 104], [114, 97, 105, 115, 101], [97, 115, 115, 101, 114, 116], [111, 108, 100], [114, 101, 113, 117, 105, 114, 101, 115], [101, 110, 115, 117, 114, 101, 115], [100, 101, 99, 114, 101, 97, 115, 101, 115], [105, 110, 116], [98, 111, 111, 108], [117, 110, 105, 116], [116, 114, 117, 101], [102, 97, 108, 115, 101], [110, 111, 116], [80, 117, 114, 101], [83, 116, 97, 116, 101], [69, 120, 110], [65, 108, 108], [68, 105, 118]]
def isWd (s : ByteArray) : Bool := wordL.any fun l => s.data.toList == l
def rdName (s : ByteArray) (i : Nat) : Int × Nat × Option (Nat × Nat) :=
  if 40 < nameEnd s (s.size - i) i - i then (0, 0, some (i, 141))
  else if isWd (s.extract i (nameEnd s (s.size - i) i)) then (2, nameEnd s (s.size - i) i, none) else (1, nameEnd s (s.size - i) i, none)
def rdNum (s : ByteArray) (i : Nat) : Int × Nat × Option (Nat × Nat) :=
  if (By s i == 48 && decide (1 < digEnd s (s.size - i) i - i)) = true then (0, 0, some (i, 140))
  else if 400 < digEnd s (s.size - i) i - i then (0, 0, some (i, 141)) else (3, digEnd s (s.size - i) i, none)
def rdCmt (s : ByteArray) (i : Nat) : Int × Nat × Option (Nat × Nat) :=
  if (cmt s (s.size - (i + 2)) (i + 2) false).2 = 0 then (-1, (cmt s (s.size - (i + 2)) (i + 2) false).1, none)
  else if (cmt s (s.size - (i + 2)) (i + 2) false).2 = 1 then (0, 0, some ((cmt s (s.size - (i + 2)) (i + 2) false).1, 140)) else (0, 0, some (i, 140))
def rdSign (s : ByteArray) (i : Nat) : Int × Nat × Option (Nat × Nat) :=
  if sgn s i = 0 then (0, 0, some (i, 140)) else (4, i + sgn s i, none)
/-- What stands at place i: its kind (-1: it stands between tokens), its end; or an error, with its place. -/
def rd (s : ByteArray) (i : Nat) : Int × Nat × Option (Nat × Nat) :=
  if noR s i then (0, 0, some (i, 140))
  else if isBl (rn s i) then (-1, i + 1, none)
  else if isLe (rn s i) then rdName s i
  else if isDi (rn s i) then rdNum s i
  else if fits s i [40, 42] then rdCmt s i
  else rdSign s i
/-- The tokens from a place on: kind, place, end; and the first error. -/
def lx (s : ByteArray) : Nat → Nat → List (Int × Nat × Nat) × Option (Nat × Nat)
  | 0, _ => ([], none)
  | f + 1, i => if i < s.size then
      (match (rd s i).2.2 with
       | some e => ([], some e)
       | none => (if (rd s i).1 = -1 then (lx s f (rd s i).2.1).1 else ((rd s i).1, i, (rd s i).2.1) :: (lx s f (rd s i).2.1).1, (lx s f (rd s i).2.1).2))
    else ([], none)

end Go.Proofs.YtljhpbjngbbjbaaDoor

/- Runes at a place of a text: widths, ASCII, bytes that are no rune's, a text's rest, prefixes. No program in this text. -/
namespace Go.Proofs.YtljhpbjngbbjbaaDoor
open Go.Lib

theorem get_lt (s : ByteArray) (k : Nat) (h : k < s.size) : s.get! k = s[k]'h := by
  cases s with
  | mk d => exact getElem!_pos d k h
theorem get_ge (s : ByteArray) (k : Nat) (h : ¬ k < s.size) : s.get! k = 0 := by
  cases s with
  | mk d => exact getElem!_neg d k h
theorem dec_eq (s : ByteArray) (i : Nat) : Utf8.decode s i = decodeN (s.size - i) (By s i) (By s (i + 1)) (By s (i + 2)) (By s (i + 3)) := decode_at s i
theorem wd_pos (s : ByteArray) (i : Nat) : 1 ≤ wd s i := by
  unfold wd
  rw [dec_eq]
  unfold decodeN
  repeat' split
  all_goals simp
theorem wd_le (s : ByteArray) (i : Nat) (h : i < s.size) : i + wd s i ≤ s.size := by
  unfold wd
  rw [dec_eq]
  unfold decodeN
  repeat' split
  all_goals (simp only; omega)
theorem rn_ascii (s : ByteArray) (i : Nat) (h : By s i < 128) : rn s i = By s i ∧ wd s i = 1 := by
  unfold rn wd
  rw [dec_eq]
  unfold decodeN
  rw [if_pos h]
  exact ⟨rfl, rfl⟩
set_option maxHeartbeats 2000000 in
theorem rn_high (s : ByteArray) (i : Nat) (h : ¬ By s i < 128) : 128 ≤ rn s i := by
  unfold rn
  rw [dec_eq]
  unfold decodeN
  rw [if_neg h]
  repeat' split
  all_goals first | (simp only; omega) | omega
/-- Where the rune is below 80 hexadecimal it is the byte. -/
theorem rn_low (s : ByteArray) (i : Nat) (h : rn s i < 128) : By s i = rn s i ∧ wd s i = 1 := by
  by_cases hb : By s i < 128
  · exact ⟨(rn_ascii s i hb).1.symm, (rn_ascii s i hb).2⟩
  · exact absurd (rn_high s i hb) (by omega)
theorem noR_ascii (s : ByteArray) (i : Nat) (h : By s i < 128) : noR s i = false := by
  have := rn_ascii s i h
  unfold noR
  rw [this.1]
  simp
  omega
/-! ### a text's rest -/
theorem rest_size (s : ByteArray) (a : Nat) : (s.extract a s.size).size = s.size - a := by simp
theorem rest_get (s : ByteArray) (a k : Nat) : (s.extract a s.size).get! k = s.get! (a + k) := by
  by_cases h : a + k < s.size
  · rw [get_lt _ _ h, get_lt _ _ (by rw [rest_size]; omega)]
    exact ByteArray.getElem_extract ..
  · rw [get_ge _ _ h, get_ge _ _ (by rw [rest_size]; omega)]
theorem rest_By (s : ByteArray) (a k : Nat) : By (s.extract a s.size) k = By s (a + k) := by
  unfold By
  rw [rest_get]
theorem rest_dec (s : ByteArray) (a k : Nat) : Utf8.decode (s.extract a s.size) k = Utf8.decode s (a + k) := by
  rw [dec_eq, dec_eq, rest_size, rest_By, rest_By, rest_By, rest_By]
  have : s.size - a - k = s.size - (a + k) := by omega
  rw [this]
  rfl
/-! ### prefixes -/
theorem fits_drop (s : ByteArray) : ∀ (l : List UInt8) i, l.isPrefixOf (s.data.toList.drop i) = fits s i (l.map UInt8.toNat) := by
  intro l
  induction l with
  | nil => intro i; rfl
  | cons c l ih =>
    intro i
    by_cases h : i < s.size
    · have h' : i < s.data.toList.length := by simpa using h
      rw [List.drop_eq_getElem_cons h', List.isPrefixOf, ih]
      have e : s.data.toList[i] = s.get! i := by
        rw [get_lt s i h]
        cases s with
        | mk d => simp [ByteArray.getElem_eq_getElem_data]
      rw [e]
      have e2 : (c == s.get! i) = (By s i == c.toNat) := by
        unfold By
        rw [Bool.eq_iff_iff]
        simp only [beq_iff_eq]
        exact ⟨fun h => by rw [h], fun h => (UInt8.toNat_inj.1 h).symm⟩
      show (c == s.get! i && fits s (i + 1) (l.map UInt8.toNat)) = (decide (i < s.size) && By s i == c.toNat && fits s (i + 1) (l.map UInt8.toNat))
      rw [e2]
      simp [h]
    · rw [List.drop_eq_nil_of_le (by simpa using h)]
      show false = (decide (i < s.size) && By s i == c.toNat && fits s (i + 1) (l.map UInt8.toNat))
      simp [h]
theorem hasPrefix_all (s : ByteArray) (p : ByteArray) : Lib.hasPrefix s.data.toList p.data.toList = fits s 0 (p.data.toList.map UInt8.toNat) := by
  unfold Lib.hasPrefix
  rw [← fits_drop, List.drop_zero]
end Go.Proofs.YtljhpbjngbbjbaaDoor

/- The contracts of the library functions that lex and its document call, at this program: each one application of a theorem of the kit. -/
namespace Go.Proofs
open Go.Shelf Go.RowKit Go.Lib
def Tryd.lays197_ren : Go.Shelf.Ren := ⟨fun | 197 => 64 | 260 => 68 | n => n, fun | 9 => 9 | 21 => 21 | 3 => 3 | 4 => 4 | 5 => 5 | 105 => 136 | 119 => 139 | 0 => 0 | 46 => 140 | 139 => 143 | 138 => 142 | n => n, fun | 3 => 1 | 4 => 2 | n => n⟩
theorem Tryd.lays197 : Go.Proofs.Lays.n197 Tryd.prog Tryd.lays197_ren := {
  mixed := by kernel_rfl
  f197 := Tryd.func64.trans (congrArg some (by kernel_rfl))
  f260 := Tryd.func68.trans (congrArg some (by kernel_rfl))
  t0 := Tryd.underlying0
  a0 := Tryd.isAgg0
  z0 := Tryd.sizeOf0
  v0 := Tryd.zeroValue0
  t3 := Tryd.underlying3
  a3 := Tryd.isAgg3
  z3 := Tryd.sizeOf3
  v3 := Tryd.zeroValue3
  t4 := Tryd.underlying4
  a4 := Tryd.isAgg4
  z4 := Tryd.sizeOf4
  v4 := Tryd.zeroValue4
  t5 := Tryd.underlying5
  a5 := Tryd.isAgg5
  z5 := Tryd.sizeOf5
  v5 := Tryd.zeroValue5
  t9 := Tryd.underlying9
  a9 := Tryd.isAgg9
  z9 := Tryd.sizeOf9
  v9 := Tryd.zeroValue9
  t21 := Tryd.underlying21
  a21 := Tryd.isAgg21
  z21 := Tryd.sizeOf21
  v21 := Tryd.zeroValue21
  t46 := Tryd.underlying140
  a46 := Tryd.isAgg140
  z46 := Tryd.sizeOf140
  v46 := Tryd.zeroValue140
  t105 := Tryd.underlying136
  a105 := Tryd.isAgg136
  z105 := Tryd.sizeOf136
  v105 := Tryd.zeroValue136
  t119 := Tryd.underlying139
  a119 := Tryd.isAgg139
  z119 := Tryd.sizeOf139
  t138 := Tryd.underlying142
  a138 := Tryd.isAgg142
  z138 := Tryd.sizeOf142
  v138 := Tryd.zeroValue142
  t139 := Tryd.underlying143
  a139 := Tryd.isAgg143
  z139 := Tryd.sizeOf143
  v139 := Tryd.zeroValue143
  g3 := by kernel_rfl
  g4 := by kernel_rfl }
theorem Tryd.utf8_DecodeRuneInString (s : ByteArray) (w : World) (hT : Lib.Utf8Tabs 1 2 w) :
    Calls Tryd.prog 64 #[.string s] w fun e w' => e = .returned (.tuple #[.int .i32 (Lib.decodeGo s).1, .int .i64 (Lib.decodeGo s).2]) ∧ Below w.heap.size w w' := Any.utf8_DecodeRuneInString Tryd.lays197 s w hT
end Go.Proofs

namespace Go.Proofs.YtljhpbjngbbjbaaDoor
open Go Go.RowKit
/-- What the walk is not to look at. -/
def Hid (p : Prop) : Prop := p
theorem hide {p : Prop} (h : p) : Hid p := h
theorem unhide {p : Prop} (h : Hid p) : p := h

end Go.Proofs.YtljhpbjngbbjbaaDoor
