/- Package farkas: what its values are in memory; texts of numbers. -/
import Derived.Orders
import Derived.Below
import Derived.Tactics
import Derived.OrdersIn
import Derived.RangeFuncCalls
import Derived.Lib.Walk
import Derived.Lib.ItoaMem
import Derived.Lib.AppendIntMem
import Derived.BigCall
import Derived.BigGuard
import Derived.CellFam
import Derived.Lib.ItoaNum
import Derived.RangeFuncBox
import Derived.Lib.AppendStr
import Derived.Deep.QuietTactic
import Derived.BigQuiet
import Derived.Test.YthgdmppmjnmiiaaGreatDoorProg
import Derived.MapKept
import Derived.ProofKit
import Derived.WalkKit
import Derived.Test.YthgdmppmjnmiiaaGreatDoorZAD
import Derived.Test.YthgdmppmjnmiiaaGreatDoorZAE
import Derived.Test.YthgdmppmjnmiiaaGreatDoorZAG
import Derived.Test.YthgdmppmjnmiiaaGreatDoorZAI
import Derived.Deep.MidRow
import Derived.Handy
set_option linter.unusedVariables false
set_option linter.unusedSimpArgs false

/- The laws of regions (walked by a spec an operation), and the steps of straight code: what hangs on no program. -/
namespace Go.Proofs.YthgdmppmjnmiiaaGreatDoor
open Go Go.RowKit

section
variable {P : Program} {ops : Array Oper} {Q : Exit → Act → World → Prop} {md : Region.Mode}

theorem filter_lt (p q : Nat → Bool) (hqp : ∀ j, q j = true → p j = true) (i : Nat) (hp : p i = true) (hq : q i = false) :
    ∀ l : List Nat, i ∈ l → (l.filter q).length < (l.filter p).length := by
  have hle : ∀ l : List Nat, (l.filter q).length ≤ (l.filter p).length := by
    intro l
    induction l with
    | nil => simp
    | cons x l ih =>
      simp only [List.filter_cons]
      cases hx : q x with
      | true => simp [hqp x hx, ih]
      | false =>
        cases p x with
        | true => simp; omega
        | false => simpa using ih
  intro l
  induction l with
  | nil => intro h; cases h
  | cons x l ih =>
    intro h
    rcases List.mem_cons.1 h with rfl | h
    · simp only [List.filter_cons, hp, hq]
      have := hle l
      simp
      omega
    · have := ih h
      simp only [List.filter_cons]
      cases hx : q x with
      | true => simp [hqp x hx, this]
      | false =>
        cases p x with
        | true => simp; omega
        | false => simpa using this

/-- How many have not come up. -/
def toCome (ops : Array Oper) (listed : Array Bool) : Nat := ((List.range ops.size).filter fun i => !listed.getD i true).length

theorem toCome_lt {listed : Array Bool} {i : Nat} (h : i ∈ Region.ready md ops listed) : toCome ops (listed.setIfInBounds i true) < toCome ops listed := by
  obtain ⟨h0, o, ho, _⟩ := mem_ready.1 h
  have hi : i < ops.size := (Array.getElem?_eq_some_iff.1 ho).1
  refine filter_lt _ _ ?_ i ?_ ?_ _ (List.mem_range.2 hi)
  · intro j hj
    by_cases e : i = j
    · subst e; simp [h0]
    · rw [getD_set_ne true e] at hj; exact hj
  · simp [h0]
  · by_cases hs : i < listed.size
    · simp [hs]
    · simp [Array.getElem?_eq_none (Nat.le_of_not_lt hs)] at h0

theorem ready_nil_of_toCome {listed : Array Bool} (h : toCome ops listed = 0) : Region.ready md ops listed = [] := by
  apply List.eq_nil_iff_forall_not_mem.2
  intro i hi
  have := toCome_lt hi
  omega

/-- An invariant that each operation hands on, in whatever order. -/
theorem wpAny_inv (I : Array Bool → Act → World → Prop)
    (hstep : ∀ listed a w i, I listed a w → i ∈ Region.ready md ops listed → wpOp P ops Q i (fun a' w' => I (listed.setIfInBounds i true) a' w') a w)
    (hend : ∀ listed a w, I listed a w → Region.ready md ops listed = [] → Q .normal a w) :
    ∀ fuel listed a w, toCome ops listed ≤ fuel → I listed a w → wpAny P md ops Q fuel listed a w := by
  intro fuel
  induction fuel with
  | zero => intro listed a w h hI; exact ⟨ready_nil_of_toCome (by omega), hend _ _ _ hI (ready_nil_of_toCome (by omega))⟩
  | succ fuel ih =>
    intro listed a w h hI
    refine ⟨fun hr => hend _ _ _ hI hr, fun i hi => wpOp_mono (fun a' w' h' => ih _ a' w' ?_ h') (hstep _ _ _ _ hI hi)⟩
    have := toCome_lt hi
    omega

/-- The slot that operation i writes. -/
def slotOf (ops : Array Oper) (a : Act) (i : Nat) : Value := a.tmps.getD (((ops[i]?).bind (·.dst)).getD 0) undef

theorem slot_put_same {a : Act} {i : Nat} {o : Oper} {d : Nat} {v : Value} (ho : ops[i]? = some o) (hd : o.dst = some d) (hlt : d < a.tmps.size) :
    slotOf ops (a.put o.dst v) i = v := by
  simp [slotOf, ho, hd, Act.put, hlt]

theorem slot_put_other {a : Act} {i : Nat} {o' : Oper} {d d' : Nat} {v : Value} (ho' : ops[i]? = some o') (hd' : o'.dst = some d') (hne : d ≠ d') :
    slotOf ops (a.put (some d) v) i = slotOf ops a i := by
  simp [slotOf, ho', hd', Act.put, Array.getElem?_setIfInBounds_ne hne]

/-- Those that an operation waits for, whatever the order. -/
def preds (o : Oper) : List Nat := (o.after.toList.filter (Region.binds .any)).map (·.on)
theorem preds_spec {o : Oper} {j : Nat} (h : (preds o).contains j = true) : ∃ e, (e ∈ o.after ∧ Region.binds .any e = true) ∧ e.on = j := by
  have h1 : j ∈ preds o := by simpa using h
  obtain ⟨e, he, rfl⟩ := List.mem_map.1 h1
  obtain ⟨h2, h3⟩ := List.mem_filter.1 he
  exact ⟨e, ⟨by simpa using h2, h3⟩, rfl⟩

section
variable {o : Oper} {a : Act} {w : World} {K : Act → World → Prop} {dst : Option Tmp} {ty : TypeId} {pos : String} {af : Array Edge} {gd : Option (Nat × Bool)}

theorem op_move {x : Operand} (h : K (a.put dst (a.eval x)) w) : Oper.wp P ⟨dst, .move x, ty, pos, af, gd⟩ a w K Q := h
theorem op_assign {x : Operand} (h : K (a.put dst (a.eval x)) w) : Oper.wp P ⟨dst, .assign x, ty, pos, af, gd⟩ a w K Q := h
theorem op_load {t : TypeId} {x : Operand} {p v : Value} (hx : a.eval x = p) (hr : (Instr.loadAt t p).run P w = .ok v w) (h : K (a.put dst v) w) : Oper.wp P ⟨dst, .load t x, ty, pos, af, gd⟩ a w K Q := by
  unfold Oper.wp
  simp [execOp, hx, hr, Oper.upon, h]
end

end
end Go.Proofs.YthgdmppmjnmiiaaGreatDoor

namespace Go.Proofs.YthgdmppmjnmiiaaGreatDoor
open Go Go.RowKit

section
variable {Q : Exit → Act → World → Prop} {a a0 : Act} {w w0 : World} {dst : Option Tmp} {ty : TypeId} {pos : String} {af : Array Edge} {gd : Option (Nat × Bool)}

/-- A call of this function enters it. -/
structure Enters (P : Program) (f : FuncId) : Prop where
  run : ∀ (xs : Array Value) (w : World), (callFunc f xs).run P w = .ok (.enter f xs) w
theorem op_call {P : Program} {K : Act → World → Prop} {f : FuncId} {args : Array Operand} {tys : Array TypeId}
    (hf : Enters P f)
    (hc : Calls P f (args.map a.eval) w fun e w' => ∃ v, e = .returned v ∧ K (a.put dst v) w') :
    Oper.wp P ⟨dst, .call ⟨.value (.func f), args, tys⟩, ty, pos, af, gd⟩ a w K Q := by
  unfold Oper.wp
  simp [go_sem]
  rw [hf.run]
  refine Calls.mono hc ?_
  rintro e w' ⟨v, rfl, h⟩
  exact h
theorem args2 {s t : Nat} : (#[Operand.tmp s, .tmp t]).map a.eval = #[a.tmps.getD s undef, a.tmps.getD t undef] := by simp only [List.map_toArray, List.map_cons, List.map_nil, Act.eval]
variable {tys : Array TypeId} {s t : Nat} {y z : Int} {j k : Nat}
/-- An operation that is wanted. -/
theorem st_want {P : Program} {ops : Array Oper} {o : Oper} {X : Act → World → Prop} {Y : Prop} (hw : Region.wanted o (yielded ops a.tmps) = true) (h : o.wp P a w X Q) : if Region.wanted o (yielded ops a.tmps) then o.wp P a w X Q else Y := by
  rw [if_pos hw]; exact h
end

end Go.Proofs.YthgdmppmjnmiiaaGreatDoor

namespace Go.Proofs.YthgdmppmjnmiiaaGreatDoor
open Go Go.RowKit

section
variable {P : Program} {Q : Exit → Act → World → Prop}

/-- Those that come ahead of some of a list, in so many steps. -/
def ancs (l : List Oper) : Nat → List Nat → List Nat
  | 0, s => s
  | k + 1, s => ancs l k (s ++ s.flatMap fun i => ((l[i]?).map preds).getD [])
theorem ancs_listed {l : List Oper} {listed : Array Bool} (hdown : ∀ j o', l[j]? = some o' → listed.getD j false = true → ∀ k, (preds o').contains k = true → listed.getD k false = true) :
    ∀ (k : Nat) (s : List Nat), (∀ i ∈ s, listed.getD i false = true) → ∀ i ∈ ancs l k s, listed.getD i false = true
  | 0, _, h => h
  | k + 1, s, h => ancs_listed hdown k _ (fun i hi => by
      rcases List.mem_append.1 hi with hi | hi
      · exact h i hi
      · obtain ⟨j, hj, hij⟩ := List.mem_flatMap.1 hi
        cases ho : l[j]? with
        | none => simp [ho] at hij
        | some o => simp [ho] at hij; exact hdown j o ho (h j hj) i (by simpa using hij))

end
end Go.Proofs.YthgdmppmjnmiiaaGreatDoor

namespace Go.Proofs.YthgdmppmjnmiiaaGreatDoor
open Go Go.RowKit

theorem tmp_get {a : Act} {d : Nat} {v : Value} (hd : d < a.tmps.size) (h : a.tmps.getD d undef = v) : a.tmps[d]? = some v := by
  rw [Array.getD_eq_getD_getElem?] at h
  rw [Array.getElem?_eq_getElem hd] at h ⊢
  simpa using h
end Go.Proofs.YthgdmppmjnmiiaaGreatDoor

namespace Go.Proofs.YthgdmppmjnmiiaaGreatDoor
open Go Go.RowKit

theorem op_fieldAddr {P : Program} {Q : Exit → Act → World → Prop} {K : Act → World → Prop} {a : Act} {w : World} {dst : Option Tmp} {ty : TypeId} {pos : String} {af : Array Edge} {gd : Option (Nat × Bool)} {x : Operand} {vx v : Value} {t : TypeId} {f : Nat}
    (hx : a.eval x = vx) (hr : (Instr.fieldAt t vx f).run P w = .ok v w) (h : K (a.put dst v) w) : Oper.wp P ⟨dst, .fieldAddr t x f, ty, pos, af, gd⟩ a w K Q := by
  unfold Oper.wp
  simp [execOp, hx, hr, Oper.upon, h]

end Go.Proofs.YthgdmppmjnmiiaaGreatDoor

namespace Go.Proofs.YthgdmppmjnmiiaaGreatDoor.T4

end Go.Proofs.YthgdmppmjnmiiaaGreatDoor.T4

namespace Go.Proofs.YthgdmppmjnmiiaaGreatDoor.T4
open Go.RowKit
end Go.Proofs.YthgdmppmjnmiiaaGreatDoor.T4

namespace Go.Proofs.YthgdmppmjnmiiaaGreatDoor
open Go Go.RowKit

section
variable {P : Program} {Q : Exit → Act → World → Prop}
/-- Each operation waits only for such as stand ahead of it, and writes, if any, a slot of its own, below N. -/
def fitF (N : Nat) : Nat → List Nat → List Oper → Bool
  | _, _, [] => true
  | i, ds, o :: l => (o.after.toList.all fun e => !Region.binds .any e || decide (e.on < i)) && (match o.dst with | some d => !ds.contains d && decide (d < N) && fitF N (i + 1) (d :: ds) l | none => fitF N (i + 1) ds l)

theorem fitF_spec {N : Nat} : ∀ (l : List Oper) (i : Nat) (ds : List Nat), fitF N i ds l = true →
    ∀ j o, l[j]? = some o → (∀ e ∈ o.after, Region.binds .any e = true → e.on < i + j) ∧ ∀ d : Nat, o.dst = some d → d ∉ ds ∧ d < N ∧ ∀ k o', k < j → l[k]? = some o' → o'.dst ≠ some d
  | [], _, _, _, j, o, h => by simp at h
  | x :: l, i, ds, hg, j, o, h => by
    simp only [fitF, Bool.and_eq_true] at hg
    obtain ⟨hon, hd⟩ := hg
    cases hx : x.dst with
    | none =>
      simp only [hx] at hd
      cases j with
      | zero =>
        simp at h
        subst h
        refine ⟨fun e he hb => ?_, fun d hd' => by rw [hx] at hd'; cases hd'⟩
        have := List.all_eq_true.1 hon e (by simpa using he)
        simpa [hb] using this
      | succ j =>
        have h' : l[j]? = some o := by simpa using h
        obtain ⟨h1, h2⟩ := fitF_spec l (i + 1) ds hd j o h'
        refine ⟨fun e he hb => by have := h1 e he hb; omega, fun d hd' => ?_⟩
        obtain ⟨h3, h4, h5⟩ := h2 d hd'
        refine ⟨h3, h4, fun k o' hk ho' => ?_⟩
        cases k with
        | zero => simp at ho'; subst ho'; rw [hx]; simp
        | succ k => exact h5 k o' (by omega) (by simpa using ho')
    | some d0 =>
      simp only [hx, Bool.and_eq_true, decide_eq_true_eq] at hd
      obtain ⟨⟨hB, hN⟩, hr⟩ := hd
      have hB' : d0 ∉ ds := by simpa using hB
      cases j with
      | zero =>
        simp at h
        subst h
        refine ⟨fun e he hb => ?_, fun d hd' => ?_⟩
        · have := List.all_eq_true.1 hon e (by simpa using he)
          simpa [hb] using this
        · rw [hx] at hd'
          have e0 : d0 = d := Option.some.inj hd'
          subst e0
          exact ⟨hB', hN, fun k _ hk => absurd hk (by omega)⟩
      | succ j =>
        have h' : l[j]? = some o := by simpa using h
        obtain ⟨h1, h2⟩ := fitF_spec l (i + 1) (d0 :: ds) hr j o h'
        refine ⟨fun e he hb => by have := h1 e he hb; omega, fun d hd' => ?_⟩
        obtain ⟨h3, h4, h5⟩ := h2 d hd'
        refine ⟨fun hm => h3 (List.mem_cons_of_mem _ hm), h4, fun k o' hk ho' => ?_⟩
        cases k with
        | zero =>
          simp at ho'; subst ho'; rw [hx]
          intro e
          have e0 : d0 = d := Option.some.inj e
          exact h3 (e0 ▸ List.mem_cons_self)
        | succ k => exact h5 k o' (by omega) (by simpa using ho')

/-- Whatever order is picked: specs of the slots, and an invariant of what has come up, the frame and the world. -/
theorem stepsF {l : List Oper} {a0 : Act} {w0 : World} (N : Nat) (kept : List Nat) (Φ : Nat → Value → Prop) (J : Array Bool → Act → World → Prop)
    (hg : fitF N 0 kept l = true) (hN : a0.tmps.size = N) (h0 : J (Array.replicate l.length false) a0 w0)
    (hstep : ∀ i o, l[i]? = some o → ∀ (listed : Array Bool) (a : Act) (w : World), listed.size = l.length → listed.getD i true = false →
      (∀ j o', l[j]? = some o' → listed.getD j false = true → ∀ k, (preds o').contains k = true → listed.getD k false = true) →
      a.defers = a0.defers → a.tmps.size = N → (∀ k, k ∈ kept → a.tmps[k]? = a0.tmps[k]?) →
      (∀ j, (preds o).contains j = true → listed.getD j false = true ∧ Φ j (slotOf l.toArray a j)) → J listed a w →
      if Region.wanted o (yielded l.toArray a.tmps) then o.wp P a w (fun a' w' => ∃ v, a' = a.put o.dst v ∧ (o.dst.isSome = true → Φ i v) ∧ J (listed.setIfInBounds i true) a' w') Q
      else (o.dst.isSome = true → Φ i undef) ∧ J (listed.setIfInBounds i true) (a.put o.dst undef) w)
    (hsome : ∀ i o, l[i]? = some o → o.dst = none → ∀ v, Φ i v)
    (hend : ∀ (listed : Array Bool) (a : Act) (w : World), listed.size = l.length → (∀ i, i < l.length → listed.getD i false = true) → a.defers = a0.defers → a.tmps.size = N → (∀ k, k ∈ kept → a.tmps[k]? = a0.tmps[k]?) → (∀ i, i < l.length → Φ i (slotOf l.toArray a i)) → J listed a w → Q .normal a w) :
    wpAny P .any l.toArray Q l.toArray.size (Array.replicate l.toArray.size false) a0 w0 := by
  let I : Array Bool → Act → World → Prop := fun listed a w => listed.size = l.length ∧ (∀ j o', l[j]? = some o' → listed.getD j false = true → ∀ k, (preds o').contains k = true → listed.getD k false = true) ∧
    a.defers = a0.defers ∧ a.tmps.size = N ∧ (∀ k, k ∈ kept → a.tmps[k]? = a0.tmps[k]?) ∧ (∀ i, listed.getD i false = true → Φ i (slotOf l.toArray a i)) ∧ J listed a w
  have hspec := fitF_spec l 0 kept hg
  refine wpAny_inv (md := .any) I ?_ ?_ _ _ _ _ ?_ ?_
  · rintro listed a w i ⟨hsz, hdown, hdf, hn, hbase, hΦ, hJ⟩ hr
    obtain ⟨hun, o, ho, hpre⟩ := mem_ready.1 hr
    have hol : l[i]? = some o := by simpa using ho
    have hilt : i < l.length := (List.getElem?_eq_some_iff.1 hol).1
    have hpre' : ∀ j, (preds o).contains j = true → listed.getD j false = true := fun j hj => by
      obtain ⟨e, he, rfl⟩ := preds_spec hj
      exact hpre e he.1 he.2
    have hs := hstep i o hol listed a w hsz hun hdown hdf hn hbase (fun j hj => ⟨hpre' j hj, hΦ j (hpre' j hj)⟩) hJ
    have hdown' : ∀ j o', l[j]? = some o' → (listed.setIfInBounds i true).getD j false = true → ∀ k, (preds o').contains k = true → (listed.setIfInBounds i true).getD k false = true := by
      intro j o' ho' hj k hk
      by_cases e : i = j
      · subst e
        rw [hol] at ho'
        cases ho'
        exact getD_set_true (hpre' k hk)
      · rw [getD_set_ne false e] at hj
        exact getD_set_true (hdown j o' ho' hj k hk)
    have keep : ∀ w' v, (o.dst.isSome = true → Φ i v) → J (listed.setIfInBounds i true) (a.put o.dst v) w' → I (listed.setIfInBounds i true) (a.put o.dst v) w' := by
      intro w' v hv hJ'
      refine ⟨by simpa using hsz, hdown', ?_, ?_, ?_, ?_, hJ'⟩
      · cases hd : o.dst <;> simpa [Act.put] using hdf
      · cases hd : o.dst <;> simpa [Act.put] using hn
      · intro k hk
        cases hd : o.dst with
        | none => exact hbase k hk
        | some d =>
          simp only [Act.put]
          rw [Array.getElem?_setIfInBounds_ne (fun (e : d = k) => ((hspec i o hol).2 d hd).1 (e.symm ▸ hk))]
          exact hbase k hk
      · intro j hj
        by_cases e : i = j
        · subst e
          cases hd : o.dst with
          | none => exact hsome i o hol hd _
          | some d =>
            rw [← hd, slot_put_same ho hd (by have := ((hspec i o hol).2 d hd).2.1; omega)]
            exact hv (by simp [hd])
        · rw [getD_set_ne false e] at hj
          have hj' := hΦ j hj
          have hjlt : j < l.length := by
            rcases Nat.lt_or_ge j listed.size with h | h
            · omega
            · simp [Array.getElem?_eq_none h] at hj
          have hoj : l[j]? = some l[j] := List.getElem?_eq_getElem hjlt
          have hoj' : l.toArray[j]? = some l[j] := by simp [hjlt]
          cases hd : o.dst with
          | none => exact hj'
          | some d =>
            cases hd' : (l[j]).dst with
            | none => exact hsome j _ hoj hd' _
            | some d' =>
              have hne : d ≠ d' := by
                intro ee
                subst ee
                rcases Nat.lt_or_gt_of_ne e with h | h
                · exact ((hspec j _ hoj).2 d hd').2.2 i o h hol hd
                · exact ((hspec i _ hol).2 d hd).2.2 j _ h hoj hd'
              rw [slot_put_other hoj' hd' hne]
              exact hj'
    unfold wpOp
    simp only [ho]
    split
    · rename_i hw
      simp only [hw, if_true] at hs
      refine .inl (Oper.wp_mono ?_ hs)
      rintro a' w' ⟨v, rfl, hv, hJ'⟩
      exact keep w' v hv hJ'
    · rename_i hw
      simp only [hw] at hs
      exact keep w undef hs.1 hs.2
  · rintro listed a w ⟨hsz, hdown, hdf, hn, hbase, hΦ, hJ⟩ hr
    have hall : ∀ i, i < l.length → listed.getD i false = true := by
      intro i
      induction i using Nat.strongRecOn with
      | ind i ih =>
        intro hi
        cases hl : listed.getD i true with
        | true =>
          have : i < listed.size := by omega
          simpa [this] using hl
        | false =>
          exfalso
          have hoi : l[i]? = some l[i] := List.getElem?_eq_getElem hi
          have : i ∈ Region.ready .any l.toArray listed := by
            refine mem_ready.2 ⟨hl, l[i], by simp [hi], fun e he hb => ?_⟩
            have := (hspec i _ hoi).1 e he hb
            exact ih e.on (by omega) (by omega)
          rw [hr] at this
          cases this
    exact hend listed a w hsz hall hdf hn hbase (fun i hi => hΦ i (hall i hi)) hJ
  · unfold toCome
    exact Nat.le_trans (List.length_filter_le _ _) (by simp)
  · have hf : ∀ i, (Array.replicate l.toArray.size false).getD i false = true → False := by
      intro i hi
      rcases Nat.lt_or_ge i l.length with h | h
      · simp [h] at hi
      · simp [h] at hi
    exact ⟨by simp, fun j _ _ hj => (hf j hj).elim, rfl, hN, fun _ _ => rfl, fun i hi => (hf i hi).elim, by simpa using h0⟩
end

end Go.Proofs.YthgdmppmjnmiiaaGreatDoor

namespace Go.Proofs.YthgdmppmjnmiiaaGreatDoor
open Go Go.RowKit

/-- w' is w but for one block. -/
structure PutAt (r : Nat) (w w' : World) : Prop where
  os : w'.os = w.os
  tape : w'.tape = w.tape
  output : w'.output = w.output
  size : w'.heap.size = w.heap.size
  block : ∀ k, k ≠ r → w'.heap[k]? = w.heap[k]?
theorem PutAt.below {r B : Nat} {w0 w w' : World} (h : PutAt r w w') (hb : Below B w0 w) (hr : B ≤ r) : Below B w0 w' :=
  ⟨h.os.trans hb.os, h.tape.trans hb.tape, h.output.trans hb.output, by rw [h.size]; exact hb.size, fun k hk => (h.block k (by omega)).trans (hb.block k hk)⟩

/-- The kinds of boxes, by types. -/
structure Kinds where
  K : TypeId → World → Nat → Prop
  loc : ∀ t w w' r, w'.heap[r]? = w.heap[r]? → K t w r → K t w' r
  lt : ∀ t w r, K t w r → r < w.heap.size
  inj : ∀ t t' w r, K t w r → K t' w r → t = t'
  Z : World → Nat → Prop
/-- What is said of a slot: it stands when memory grows, and when a box is filled. -/
structure Sx (κ : Kinds) where
  ok : World → Value → Prop
  mono : ∀ w w' v, ok w v → Below w.heap.size w w' → ok w' v
  put : ∀ t w w' v r, ok w v → κ.K t w r → κ.Z w r → PutAt r w w' → κ.K t w' r → ok w' v
def Sx.any (κ : Kinds) : Sx κ := ⟨fun _ _ => True, fun _ _ _ h _ => h, fun _ _ _ _ _ h _ _ _ _ => h⟩
/-- A store: its number, the slot of its pointer, what the box then holds. -/
structure St (κ : Kinds) where
  op : Nat
  pt : Nat
  H : World → Nat → Value → Prop
  S : Sx κ
  loc : ∀ w w' r v, w'.heap[r]? = w.heap[r]? → H w r v → H w' r v
  lt : ∀ w r v, H w r v → r < w.heap.size
  ob : Nat := 0
  O : World → Prop := fun _ => True
  om : ∀ w w', O w → Below w.heap.size w w' → O w' := by exact fun _ _ h _ => h
  oput : ∀ t w w' r, O w → κ.K t w r → κ.Z w r → PutAt r w w' → κ.K t w' r → r ≠ ob → O w' := by exact fun _ _ _ _ h _ _ _ _ _ => h
  F : World → Nat → Prop := fun _ _ => True
  floc : ∀ w w' r, w'.heap[r]? = w.heap[r]? → F w r → F w' r := by exact fun _ _ _ _ _ => trivial

end Go.Proofs.YthgdmppmjnmiiaaGreatDoor

namespace Go.Proofs.YthgdmppmjnmiiaaGreatDoor
open Go Go.RowKit

end Go.Proofs.YthgdmppmjnmiiaaGreatDoor

namespace Go.Proofs.YthgdmppmjnmiiaaGreatDoor
open Go Go.RowKit

theorem getD_of {a : Act} {k : Nat} {v : Value} (h : a.tmps[k]? = some v) : a.tmps.getD k undef = v := by simp [Array.getD_eq_getD_getElem?, h]
section
variable {Q : Exit → Act → World → Prop} {a : Act} {w : World} {ty : TypeId} {pos : String} {af : Array Edge} {gd : Option (Nat × Bool)} {dst : Option Tmp} {K : Act → World → Prop}
end

end Go.Proofs.YthgdmppmjnmiiaaGreatDoor

namespace Go.Proofs.YthgdmppmjnmiiaaGreatDoor
open Go Go.RowKit

theorem nq {n m : Nat} (h : Nat.beq n m = false) : n ≠ m := Nat.ne_of_beq_eq_false h
/-- What is said besides of an operation that makes a box. -/
def Fin {κ : Kinds} (ptrs : List (Nat × Option Nat)) (sts : List (St κ)) (i : Nat) (w w' : World) (v : Value) : Prop := (∃ x ∈ ptrs, x.2 = some i) → v = .pointer (some ⟨w.heap.size, 0, none⟩) ∧ ∀ s ∈ sts, s.F w' w.heap.size
theorem fin0 {κ : Kinds} {ptrs : List (Nat × Option Nat)} {sts : List (St κ)} {i : Nat} {w w' : World} {v : Value} (h : (ptrs.all fun x => x.2 != some i) = true) : Fin ptrs sts i w w' v := fun ⟨x, hx, e⟩ => by
  have := List.all_eq_true.1 h x hx
  simp [e] at this
theorem gf {κ : Kinds} {ptrs : List (Nat × Option Nat)} {sts : List (St κ)} {i : Nat} {w : World} (h : (ptrs.all fun x => x.2 != some i) = true) : ∀ w' v, Fin ptrs sts i w w' v := fun _ _ => fin0 h
section
variable {κ : Kinds} {Q : Exit → Act → World → Prop} {a : Act} {w : World} {ty : TypeId} {pos : String} {af : Array Edge} {gd : Option (Nat × Bool)} {dst : Option Tmp} {Y : Prop} {ops : Array Oper} {S : Sx κ} {G : World → Value → Prop}
end
end Go.Proofs.YthgdmppmjnmiiaaGreatDoor

/- Maps by names: what hangs on no program. -/
namespace Go.Proofs.YthgdmppmjnmiiaaGreatDoor
open Go Go.RowKit
/-- A map by names holds these, in this order. -/
def NM (w : World) (r : Nat) (es : List (ByteArray × Value)) : Prop := ∃ (a : Array MapEntry) (c : Nat), w.heap[r]? = some (.map a c) ∧ a.toList.map (fun e => (e.key, e.val)) = es.map (fun p => (Value.string p.1, p.2))
def put (k : ByteArray) (v : Value) : List (ByteArray × Value) → List (ByteArray × Value)
  | [] => [(k, v)]
  | p :: l => if k = p.1 then (k, v) :: l else p :: put k v l
section
variable {P : Program} {mt kt et : TypeId}
theorem put_obj {w : World} {r : Nat} (o : Obj) (hlt : r < w.heap.size) : PutAt r w { w with heap := w.heap.setIfInBounds r o } ∧ ({ w with heap := w.heap.setIfInBounds r o } : World).heap[r]? = some o :=
  ⟨⟨rfl, rfl, rfl, by simp, fun k hk => by simp [Array.getElem?_setIfInBounds_ne (Ne.symm hk)]⟩, by simp [hlt]⟩
end
theorem NM.new (w : World) : NM (w.alloc (.map #[] 0)) w.heap.size [] := ⟨#[], 0, (MapKept.heap_alloc w _).1, rfl⟩
theorem NM.lt {w : World} {r : Nat} {es : List (ByteArray × Value)} (h : NM w r es) : r < w.heap.size := by
  obtain ⟨_, _, h, _⟩ := h
  exact (Array.getElem?_eq_some_iff.1 h).1
theorem NM.same {w w' : World} {r : Nat} {es : List (ByteArray × Value)} (h : NM w r es) (hb : w'.heap[r]? = w.heap[r]?) : NM w' r es := by
  obtain ⟨a, c, h1, h2⟩ := h
  exact ⟨a, c, hb.trans h1, h2⟩
theorem NM.below {w w' : World} {r B : Nat} {es : List (ByteArray × Value)} (h : NM w r es) (hb : Below B w w') (hB : r < B) : NM w' r es := h.same (hb.block r hB)
end Go.Proofs.YthgdmppmjnmiiaaGreatDoor

namespace Go.Proofs.YthgdmppmjnmiiaaGreatDoor
open Go Go.RowKit
open _root_.Go.Proofs.YthgdmppmjnmiiaaGreatDoor.Nm (IsI pw)
/-- What the walk is not to look at. -/
def Hid (p : Prop) : Prop := p
theorem hide {p : Prop} (h : p) : Hid p := h
theorem unhide {p : Prop} (h : Hid p) : p := h
def VPost (v : Value) (w : World) (e : Ending) (w' : World) : Prop := e = .returned v ∧ Below w.heap.size w w'
/-- So many elements of k cells each, where a slice says, in memory below B: each bears what is asked of it. -/
def Row (B : Nat) (a : Option Addr) (n cap k : Nat) (p : Nat → Nat → Nat → Prop) : Prop := n ≤ cap ∧ n ≤ 281474976710656 ∧ (n ≠ 0 → ∃ b off, a = some ⟨b, off, none⟩ ∧ b < B ∧ ∀ j, j < n → p b (off + j * k) j)
theorem Row.mono {B B' n cap k : Nat} {a : Option Addr} {p q : Nat → Nat → Nat → Prop} (h : Row B a n cap k p) (hB : B ≤ B') (hp : ∀ b o j, b < B → p b o j → q b o j) : Row B' a n cap k q :=
  ⟨h.1, h.2.1, fun h0 => by
    obtain ⟨b, off, e, hb, hj⟩ := h.2.2 h0
    exact ⟨b, off, e, Nat.lt_of_lt_of_le hb hB, fun j hjn => hp _ _ _ hb (hj j hjn)⟩⟩
theorem rangeAt_below {B : Nat} {w w' : World} {b o : Nat} {cs : List Value} (h : w.rangeAt b o cs) (hb : b < B) (hw : Below B w w') : w'.rangeAt b o cs := by
  intro j v hv
  rw [hw.cell (p := ⟨b, o + j, none⟩) hb]
  exact h j v hv
theorem range_block {w : World} {q : Nat} {cs : List Value} {ty : TypeId} (h : w.heap[q]? = some (.cells cs.toArray ty)) : w.rangeAt q 0 cs := by
  intro j v hv
  have hv' : cs.toArray[0 + j]? = some v := by simpa using hv
  simp only [World.cell?, h, hv']
  rfl
theorem res_row {P : Program} {W : World} {fn : Func} {tmps : Array Value} {t b o : Nat} {ty : TypeId} {cs : List Value} {d : TypeDesc} (hf : fn.results = #[.cell t ty]) (ht : tmps[t]? = some (.pointer (some ⟨b, o, none⟩))) (hr : W.rangeAt b o cs)
    (hu : P.underlying ty = some d) (hd : d.isRow = true) (hi : (P.info? ty).map (·.size) = some cs.length) : (results fn tmps).run P W = .ok (.agg cs.toArray) W := by
  have h := run_loadVar_mid (P := P) W b o ty cs d hr hu hd hi
  simp [go_sem] at h
  simp [results, hf, ht, go_sem, h]
/-- Two results, the first of which lies in memory. -/
theorem res_row2 {P : Program} {W : World} {fn : Func} {tmps : Array Value} {t b o t2 : Nat} {ty : TypeId} {cs : List Value} {d : TypeDesc} {v : Value} (hf : fn.results = #[.cell t ty, .tmp t2]) (ht : tmps[t]? = some (.pointer (some ⟨b, o, none⟩))) (h2 : tmps[t2]? = some v) (hr : W.rangeAt b o cs)
    (hu : P.underlying ty = some d) (hd : d.isRow = true) (hi : (P.info? ty).map (·.size) = some cs.length) : (results fn tmps).run P W = .ok (.tuple #[.agg cs.toArray, v]) W := by
  have h := run_loadVar_mid (P := P) W b o ty cs d hr hu hd hi
  simp [results, hf, ht, h2, asAddr, h]
/-- A new block. -/
theorem box_new (w : World) (cs : Array Value) (ty : TypeId) : ∃ w0, w.alloc (.cells cs ty) = w0 ∧ Below w.heap.size w w0 ∧ w0.heap.size = w.heap.size + 1 ∧ (∀ (j : Nat) v, cs[j]? = some v → w0.cell? ⟨w.heap.size, j, none⟩ = some v) ∧ w0.heap[w.heap.size]? = some (.cells cs ty) := by
  have h := (MapKept.heap_alloc w (.cells cs ty)).1
  refine ⟨_, rfl, (Below.refl _ w).alloc (Nat.le_refl _) _, by simp, fun j v hv => ?_, h⟩
  simp only [World.cell?, h, hv]
  rfl
theorem blk {w : World} {q : Nat} {cs : Array Value} {ty : TypeId} (h : w.heap[q]? = some (.cells cs ty)) : q < w.heap.size ∧ (∀ (o : Nat) v, cs[o]? = some v → w.cell? ⟨q, o, none⟩ = some v) ∧ ∀ o, w.frozen? ⟨q, o, none⟩ = false := by
  refine ⟨(Array.getElem?_eq_some_iff.1 h).1, fun o v hv => ?_, fun o => by simp [World.frozen?, h]⟩
  simp only [World.cell?, h, hv]
  rfl
/-- A number, the digits of which lie below B. -/
def IsB (w : World) (B : Nat) (v : Value) (z : Int) : Prop := IsI w v z ∧ ∀ x a l c, v = .agg #[x, .slice (some a) l c] → a.block < B
theorem IsB.of {w : World} {v : Value} {z : Int} (h : IsI w v z) : IsB w w.heap.size v z := ⟨h, fun x a l c e => by
  rcases h with ⟨rfl, _⟩ | ⟨b, off, cap, xs, rfl, _, h2, _⟩
  · simp at e
  · simp at e
    rw [← e.2.1]
    exact h2⟩
theorem IsB.small (w : World) (B : Nat) {z : Int} (h0 : -9223372036854775808 ≤ z) (h1 : z ≤ 9223372036854775807) : IsB w B (.agg #[.int .i64 z, .slice none 0 0]) z := ⟨.inl ⟨rfl, h0, h1⟩, fun x a l c e => by simp at e⟩
theorem IsB.keep {w w' : World} {B B' : Nat} {v : Value} {z : Int} (h : IsB w B v z) (hw : ∀ b, b < B → (∃ o y, w.cell? ⟨b, o, none⟩ = some (.int .u32 y)) → w'.heap[b]? = w.heap[b]? ∧ b < B' ∧ b < w'.heap.size) : IsB w' B' v z := by
  obtain ⟨h, hb⟩ := h
  rcases h with ⟨rfl, h1, h2⟩ | ⟨b, off, cap, xs, rfl, h1, h2, h3, h4, h5, h6, h7⟩
  · exact IsB.small _ _ h1 h2
  · have hbB := hb _ _ _ _ rfl
    have hne : 0 < xs.length := by
      rcases Nat.eq_zero_or_pos xs.length with e | e
      · rw [List.eq_nil_of_length_eq_zero e] at h6
        simp [Nm.val] at h6
        omega
      · exact e
    obtain ⟨k1, k2, k3⟩ := hw b hbB ⟨off + 0, _, h3 0 hne⟩
    refine ⟨.inr ⟨b, off, cap, xs, rfl, h1, k3, fun j hj => ?_, h4, h5, h6, h7⟩, fun x a l c e => ?_⟩
    · rw [World.cell?_of_block (w := w) k1]
      exact h3 j hj
    · simp at e
      rw [← e.2.1]
      exact k2
theorem IsB.more {w w' : World} {B B' : Nat} {v : Value} {z : Int} (h : IsB w B v z) (hw : Below B w w') (hB : B ≤ B') : IsB w' B' v z := by
  obtain ⟨h, hb⟩ := h
  rcases h with ⟨rfl, h1, h2⟩ | ⟨b, off, cap, xs, rfl, h1, h2, h3, h4, h5, h6, h7⟩
  · exact IsB.small _ _ h1 h2
  · have hbB := hb _ _ _ _ rfl
    refine ⟨.inr ⟨b, off, cap, xs, rfl, h1, Nat.lt_of_lt_of_le h2 hw.size, fun j hj => (hw.cell (p := ⟨b, off + j, none⟩) hbB).trans (h3 j hj), h4, h5, h6, h7⟩, fun x a l c e => ?_⟩
    simp at e
    rw [← e.2.1]
    exact Nat.lt_of_lt_of_le hbB hB
theorem IsB.form {w : World} {B : Nat} {v : Value} {z : Int} (h : IsB w B v z) : ∃ n a l c, v = .agg #[.int .i64 n, .slice a l c] := h.1.form
theorem set_block {w : World} {q o : Nat} {cs : Array Value} {ty : TypeId} (h : w.heap[q]? = some (.cells cs ty)) (v : Value) : (w.setCell ⟨q, o, none⟩ v).heap[q]? = some (.cells (cs.setIfInBounds o v) ty) := by
  have hlt : q < w.heap.size := (Array.getElem?_eq_some_iff.1 h).1
  simp only [World.setCell, Array.getElem?_modify, h]
  simp
theorem PutAt.refl (r : Nat) (w : World) : PutAt r w w := ⟨rfl, rfl, rfl, rfl, fun _ _ => rfl⟩
theorem PutAt.set {w w' : World} {r : Nat} (h : PutAt r w w') (o : Nat) (v : Value) : PutAt r w (w'.setCell ⟨r, o, none⟩ v) := ⟨h.os, h.tape, h.output, by simp [h.size], fun j hj => (Below.heap_setCell w' ⟨r, o, none⟩ v j hj).trans (h.block j hj)⟩
theorem fill2 {w : World} {q : Nat} {a b x y : Value} {ty : TypeId} (h : w.heap[q]? = some (.cells #[a, b] ty)) : ((w.setCell ⟨q, 0, none⟩ x).setCell ⟨q, 1, none⟩ y).heap[q]? = some (.cells #[x, y] ty) := set_block (set_block h _) _
theorem fill3 {w : World} {q : Nat} {a b c x y z : Value} {ty : TypeId} (h : w.heap[q]? = some (.cells #[a, b, c] ty)) : (((w.setCell ⟨q, 0, none⟩ x).setCell ⟨q, 1, none⟩ y).setCell ⟨q, 2, none⟩ z).heap[q]? = some (.cells #[x, y, z] ty) := set_block (set_block (set_block h _) _) _
theorem put2 (w : World) (q : Nat) (x y : Value) : PutAt q w ((w.setCell ⟨q, 0, none⟩ x).setCell ⟨q, 1, none⟩ y) := ((PutAt.refl q w).set 0 x).set 1 y
theorem put3 (w : World) (q : Nat) (x y z : Value) : PutAt q w (((w.setCell ⟨q, 0, none⟩ x).setCell ⟨q, 1, none⟩ y).setCell ⟨q, 2, none⟩ z) := (((PutAt.refl q w).set 0 x).set 1 y).set 2 z
/-- A store into a block that bears no digits leaves a number alone. -/
theorem IsB.put {w w' : World} {B q : Nat} {v : Value} {z : Int} {cs : Array Value} {ty : TypeId} (h : IsB w B v z) (hp : PutAt q w w') (hq : w.heap[q]? = some (.cells cs ty)) (hn : ∀ (o : Nat) y, cs[o]? ≠ some (.int .u32 y)) : IsB w' B v z := h.keep fun b hb ⟨o, y, hy⟩ => by
  have hne : b ≠ q := by
    rintro rfl
    simp only [World.cell?, hq] at hy
    cases hc : cs[o]? with
    | none => simp [hc] at hy
    | some u =>
      simp [hc] at hy
      exact hn o y (by rw [hc, hy])
  refine ⟨hp.block b hne, hb, ?_⟩
  rw [hp.size]
  exact World.block_lt_of_cell? _ _ hy
/-- Which text is a number, of at most so many digits. -/
def isDigB (b : UInt8) : Bool := decide (48 ≤ b.toNat) && decide (b.toNat ≤ 57)
def rightB (neg : Bool) (D : List UInt8) (d : Nat) : Bool := D.all isDigB && (!D.isEmpty && ((!(D.head? == some 48) || (D == [48] && !neg)) && decide (D.length ≤ d)))
def numT (d : Nat) (s : ByteArray) : Option Int :=
  if rightB (Lib.hasPrefix s.data.toList [45]) (Lib.trimPrefix s.data.toList [45]) d then some (if Lib.hasPrefix s.data.toList [45] then - Nm.dec (Lib.trimPrefix s.data.toList [45]) else Nm.dec (Lib.trimPrefix s.data.toList [45])) else none
theorem rightB_iff {neg : Bool} {D : List UInt8} {d : Nat} (hd : d ≤ 2000) : rightB neg D d = true ↔ Nm.RT neg D ∧ D.length ≤ d := by
  unfold rightB
  simp only [Bool.and_eq_true, Bool.or_eq_true, Bool.not_eq_true', decide_eq_true_eq, List.all_eq_true, beq_iff_eq]
  constructor
  · rintro ⟨h1, h2, h3, h4⟩
    refine ⟨⟨fun b hb => by simpa [isDigB] using h1 b hb, fun e => by subst e; simp at h2, fun h => ?_, by omega⟩, h4⟩
    rcases h3 with h3 | h3
    · rw [h] at h3
      simp at h3
    · exact h3
  · rintro ⟨⟨h1, h2, h3, _⟩, h4⟩
    refine ⟨fun b hb => by simpa [isDigB] using h1 b hb, by cases D <;> simp_all, ?_, h4⟩
    by_cases e : D.head? = some 48
    · exact .inr (h3 e)
    · left
      simpa using e
theorem txt_of (T : List UInt8) : Nm.txt (Lib.hasPrefix T [45]) (Lib.trimPrefix T [45]) = T := by
  cases T with
  | nil => simp [Nm.txt, Lib.hasPrefix, Lib.trimPrefix]
  | cons b T =>
    by_cases e : b = 45
    · subst e
      simp [Nm.txt, Lib.trimPrefix, Lib.hasPrefix]
    · have e2 : ([45] : List UInt8).isPrefixOf (b :: T) = false := by simp [List.isPrefixOf, Ne.symm e]
      simp [Nm.txt, Lib.trimPrefix, Lib.hasPrefix, e2]
/-- What number hands back. -/
def NPost (d : Nat) (s : ByteArray) (w : World) (e : Ending) (w' : World) : Prop := ∃ r, e = .returned (.tuple #[r, .bool (numT d s).isSome]) ∧ Below w.heap.size w w' ∧ IsI w' r ((numT d s).getD 0)
set_option maxRecDepth 100000 in
theorem isShort_any (s : ByteArray) (d : Nat) (w : World) (hd : d ≤ 2000) : Calls Tryz.prog 42 #[.string s, .int .i64 d] w (VPost (.bool (decide ((Lib.trimPrefix s.data.toList [45]).length ≤ d))) w) := by
  have HC : Hid (∀ w, Calls Tryz.prog 53 #[.string s, .string ⟨#[45]⟩] w fun e w' => e = .returned (.string ⟨(Lib.trimPrefix s.data.toList [45]).toArray⟩) ∧ w' = w) := Tryz.strings_TrimPrefix s ⟨#[45]⟩
  obtain ⟨L, hL⟩ : ∃ L, Lib.trimPrefix s.data.toList [45] = L := ⟨_, rfl⟩
  rw [hL] at HC ⊢
  obtain ⟨n, hn⟩ : ∃ n, L.length = n := ⟨_, rfl⟩
  have hsz : (⟨L.toArray⟩ : ByteArray).size = n := by rw [← hn]; rfl
  rw [hn]
  obtain ⟨b, hb⟩ : ∃ b, decide (n ≤ d) = b := ⟨_, rfl⟩
  have hb2 : decide ((n : Int) ≤ (d : Int)) = b := by rw [← hb]; exact decide_eq_decide.2 Int.ofNat_le
  rw [hb]
  obtain ⟨S, hS⟩ : ∃ S : ByteArray, (⟨L.toArray⟩ : ByteArray) = S := ⟨_, rfl⟩
  rw [hS] at HC hsz
  clear hn hL hS
  go_enter Tryz.func42, Tryz.ntmps42
  go_wp2_with fail
  refine (unhide HC w).mono ?_
  rintro e w1 ⟨rfl, rfl⟩
  clear HC
  go_wp2
  go_ret
  exact ⟨rfl, Below.refl _ _⟩
theorem trim_len (T : List UInt8) : T.length ≤ (Lib.trimPrefix T [45]).length + 1 := by
  cases T with
  | nil => simp
  | cons b T =>
    by_cases e : b = 45
    · subst e
      simp [Lib.trimPrefix, Lib.hasPrefix]
    · have e2 : ([45] : List UInt8).isPrefixOf (b :: T) = false := by simp [List.isPrefixOf, Ne.symm e]
      simp [Lib.trimPrefix, Lib.hasPrefix, e2]
/-- num.Parse at a text of at most so many digits. -/
theorem parse_short (s : ByteArray) (d : Nat) (w : World) (hd : d ≤ 1900) (hs : (Lib.trimPrefix s.data.toList [45]).length ≤ d) : Calls Tryz.prog 43 #[.string s] w (NPost d s w) := by
  have hlen := trim_len s.data.toList
  by_cases h : Nm.RT (Lib.hasPrefix s.data.toList [45]) (Lib.trimPrefix s.data.toList [45])
  · have ht := txt_of s.data.toList
    have h1 := Nm.parse_yes (Lib.hasPrefix s.data.toList [45]) (Lib.trimPrefix s.data.toList [45]) w h.dg h.ne h.z h.len
    rw [ht] at h1
    refine h1.mono ?_
    rintro e w' ⟨r, rfl, hb, hI⟩
    have hr : numT d s = some (if Lib.hasPrefix s.data.toList [45] then - Nm.dec (Lib.trimPrefix s.data.toList [45]) else Nm.dec (Lib.trimPrefix s.data.toList [45])) := by
      unfold numT
      rw [if_pos ((rightB_iff (by omega)).2 ⟨h, hs⟩)]
    refine ⟨r, ?_, hb, ?_⟩
    · rw [hr]
      rfl
    · rw [hr]
      exact hI
  · have h1 := Nm.parse_not s.data.toList w (by omega) h
    refine h1.mono ?_
    rintro e w' ⟨rfl, hb⟩
    have hr : numT d s = none := by
      unfold numT
      rw [if_neg]
      intro e
      exact h ((rightB_iff (by omega)).1 e).1
    refine ⟨.agg #[.int .i64 0, .slice none 0 0], ?_, hb, ?_⟩
    · rw [hr]
      rfl
    · rw [hr]
      exact .inl ⟨rfl, by decide, by decide⟩
theorem numT_long {s : ByteArray} {d : Nat} (hd : d ≤ 1900) (hs : ¬ (Lib.trimPrefix s.data.toList [45]).length ≤ d) : numT d s = none := by
  unfold numT
  rw [if_neg]
  intro e
  exact hs ((rightB_iff (by omega)).1 e).2
set_option maxRecDepth 100000 in
set_option maxHeartbeats 1000000 in
theorem number_any (s : ByteArray) (d : Nat) (w : World) (hd : d ≤ 1900) : Calls Tryz.prog 27 #[.string s, .int .i64 d] w (NPost d s w) := by
  obtain ⟨A, eA, hbA, hsA, hcA, hhA⟩ := box_new w #[.int .i64 0, .slice none 0 0] 49
  have HI := hide (isShort_any s d A (by omega))
  have HE := hide eA
  by_cases hs : (Lib.trimPrefix s.data.toList [45]).length ≤ d
  · rw [decide_eq_true hs] at HI
    have HP := hide fun V => parse_short s d V hd hs
    have HB := hide (And.intro hbA hhA)
    clear eA hbA hsA hcA hhA hs
    go_enter Tryz.func27, Tryz.ntmps27
    go_wp2_with fail
    rw [unhide HE]
    refine (unhide HI).mono ?_
    rintro e w1 ⟨rfl, hb1⟩
    have HB1 := hide hb1
    clear hb1 HI
    go_wp2_with fail
    refine (unhide HP w1).mono ?_
    rintro e w2 ⟨r, rfl, hb2, hI2⟩
    obtain ⟨n, a, l, c, rfl⟩ := hI2.form
    obtain ⟨hbA, hhA⟩ := unhide HB
    have hAs : A.heap.size = w.heap.size + 1 := by rw [← unhide HE]; simp
    have hb02 : Below A.heap.size A w2 := (unhide HB1).trans (hb2.mono (unhide HB1).size)
    have hh2 := (hb02.block w.heap.size (by omega)).trans hhA
    have k0 : w2.cell? ⟨w.heap.size, 0, none⟩ = some (.int .i64 0) := (blk hh2).2.1 0 _ rfl
    have f0 := (blk hh2).2.2 0
    have k1 : w2.cell? ⟨w.heap.size, 1, none⟩ = some (.slice none 0 0) := (blk hh2).2.1 1 _ rfl
    have f1 := (blk hh2).2.2 1
    have HF := hide (And.intro hh2 (And.intro (hbA.trans (hb02.mono (by omega))) hI2))
    clear hb2 hI2 hbA hhA hAs hb02 hh2 HP
    go_wp2
    obtain ⟨hh2, hb, hI⟩ := unhide HF
    refine bodyPost_ret (res_row2 (cs := [.int .i64 n, .slice a l c]) rfl rfl rfl (range_block (fill2 hh2)) rfl rfl rfl) rfl ?_
    refine ⟨_, rfl, (put2 w2 w.heap.size _ _).below hb (Nat.le_refl _), ?_⟩
    exact ((IsB.of hI).put (put2 w2 w.heap.size _ _) hh2 fun o y e => by
      match o with
      | 0 => simp at e
      | 1 => simp at e
      | o + 2 => simp at e).1
  · rw [decide_eq_false hs] at HI
    have HB := hide (And.intro hbA hhA)
    have hnone := numT_long hd hs
    clear eA hbA hsA hcA hhA hs
    go_enter Tryz.func27, Tryz.ntmps27
    go_wp2_with fail
    rw [unhide HE]
    refine (unhide HI).mono ?_
    rintro e w1 ⟨rfl, hb1⟩
    obtain ⟨hbA, hhA⟩ := unhide HB
    have hAs : A.heap.size = w.heap.size + 1 := by rw [← unhide HE]; simp
    have hh2 := (hb1.block w.heap.size (by omega)).trans hhA
    have k0 : w1.cell? ⟨w.heap.size, 0, none⟩ = some (.int .i64 0) := (blk hh2).2.1 0 _ rfl
    have f0 := (blk hh2).2.2 0
    have k1 : w1.cell? ⟨w.heap.size, 1, none⟩ = some (.slice none 0 0) := (blk hh2).2.1 1 _ rfl
    have f1 := (blk hh2).2.2 1
    have HF := hide (And.intro hh2 (hbA.trans (hb1.mono (by omega))))
    clear hb1 hbA hhA hAs hh2 HI
    go_wp2
    obtain ⟨hh2, hb⟩ := unhide HF
    refine bodyPost_ret (res_row2 (cs := [.int .i64 0, .slice none 0 0]) rfl rfl rfl (range_block (fill2 hh2)) rfl rfl rfl) rfl ?_
    refine ⟨_, by rw [hnone]; rfl, (put2 w1 w.heap.size _ _).below hb (Nat.le_refl _), ?_⟩
    rw [hnone]
    exact .inl ⟨rfl, by decide, by decide⟩
end Go.Proofs.YthgdmppmjnmiiaaGreatDoor
