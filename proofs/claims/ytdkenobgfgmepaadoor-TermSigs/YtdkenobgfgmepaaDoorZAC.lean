/- The laws of regions (walked by a spec an operation), and the steps of straight code: what hangs on no program. -/
import Derived.Orders
import Derived.Below
import Derived.Tactics
import Derived.OrdersIn
import Derived.RangeFuncCalls
import Derived.Lib.Walk
import Derived.Lib.ItoaMem
import Derived.Lib.AppendIntMem
import Derived.BigCall
import Derived.BigGuard
import Derived.CellFam
import Derived.Lib.ItoaNum
import Derived.RangeFuncBox
import Derived.Lib.AppendStr
import Derived.Deep.QuietTactic
import Derived.BigQuiet
import Derived.Test.YtdkenobgfgmepaaDoorProg
set_option linter.unusedVariables false
set_option linter.unusedSimpArgs false

namespace Go.Proofs.YtdkenobgfgmepaaDoor
open Go Go.RowKit

section
variable {P : Program} {ops : Array Oper} {Q : Exit → Act → World → Prop} {md : Region.Mode}

theorem filter_lt (p q : Nat → Bool) (hqp : ∀ j, q j = true → p j = true) (i : Nat) (hp : p i = true) (hq : q i = false) :
    ∀ l : List Nat, i ∈ l → (l.filter q).length < (l.filter p).length := by
  have hle : ∀ l : List Nat, (l.filter q).length ≤ (l.filter p).length := by
    intro l
    induction l with
    | nil => simp
    | cons x l ih =>
      simp only [List.filter_cons]
      cases hx : q x with
      | true => simp [hqp x hx, ih]
      | false =>
        cases p x with
        | true => simp; omega
        | false => simpa using ih
  intro l
  induction l with
  | nil => intro h; cases h
  | cons x l ih =>
    intro h
    rcases List.mem_cons.1 h with rfl | h
    · simp only [List.filter_cons, hp, hq]
      have := hle l
      simp
      omega
    · have := ih h
      simp only [List.filter_cons]
      cases hx : q x with
      | true => simp [hqp x hx, this]
      | false =>
        cases p x with
        | true => simp; omega
        | false => simpa using this

/-- How many have not come up. -/
def toCome (ops : Array Oper) (listed : Array Bool) : Nat := ((List.range ops.size).filter fun i => !listed.getD i true).length

theorem toCome_lt {listed : Array Bool} {i : Nat} (h : i ∈ Region.ready md ops listed) : toCome ops (listed.setIfInBounds i true) < toCome ops listed := by
  obtain ⟨h0, o, ho, _⟩ := mem_ready.1 h
  have hi : i < ops.size := (Array.getElem?_eq_some_iff.1 ho).1
  refine filter_lt _ _ ?_ i ?_ ?_ _ (List.mem_range.2 hi)
  · intro j hj
    by_cases e : i = j
    · subst e; simp [h0]
    · rw [getD_set_ne true e] at hj; exact hj
  · simp [h0]
  · by_cases hs : i < listed.size
    · simp [hs]
    · simp [Array.getElem?_eq_none (Nat.le_of_not_lt hs)] at h0

theorem ready_nil_of_toCome {listed : Array Bool} (h : toCome ops listed = 0) : Region.ready md ops listed = [] := by
  apply List.eq_nil_iff_forall_not_mem.2
  intro i hi
  have := toCome_lt hi
  omega

/-- An invariant that each operation hands on, in whatever order. -/
theorem wpAny_inv (I : Array Bool → Act → World → Prop)
    (hstep : ∀ listed a w i, I listed a w → i ∈ Region.ready md ops listed → wpOp P ops Q i (fun a' w' => I (listed.setIfInBounds i true) a' w') a w)
    (hend : ∀ listed a w, I listed a w → Region.ready md ops listed = [] → Q .normal a w) :
    ∀ fuel listed a w, toCome ops listed ≤ fuel → I listed a w → wpAny P md ops Q fuel listed a w := by
  intro fuel
  induction fuel with
  | zero => intro listed a w h hI; exact ⟨ready_nil_of_toCome (by omega), hend _ _ _ hI (ready_nil_of_toCome (by omega))⟩
  | succ fuel ih =>
    intro listed a w h hI
    refine ⟨fun hr => hend _ _ _ hI hr, fun i hi => wpOp_mono (fun a' w' h' => ih _ a' w' ?_ h') (hstep _ _ _ _ hI hi)⟩
    have := toCome_lt hi
    omega

/-- The slot that operation i writes. -/
def slotOf (ops : Array Oper) (a : Act) (i : Nat) : Value := a.tmps.getD (((ops[i]?).bind (·.dst)).getD 0) undef

theorem slot_put_same {a : Act} {i : Nat} {o : Oper} {d : Nat} {v : Value} (ho : ops[i]? = some o) (hd : o.dst = some d) (hlt : d < a.tmps.size) :
    slotOf ops (a.put o.dst v) i = v := by
  simp [slotOf, ho, hd, Act.put, hlt]

theorem slot_put_other {a : Act} {i : Nat} {o' : Oper} {d d' : Nat} {v : Value} (ho' : ops[i]? = some o') (hd' : o'.dst = some d') (hne : d ≠ d') :
    slotOf ops (a.put (some d) v) i = slotOf ops a i := by
  simp [slotOf, ho', hd', Act.put, Array.getElem?_setIfInBounds_ne hne]

/-- Those that an operation waits for, whatever the order. -/
def preds (o : Oper) : List Nat := (o.after.toList.filter (Region.binds .any)).map (·.on)
theorem preds_spec {o : Oper} {j : Nat} (h : (preds o).contains j = true) : ∃ e, (e ∈ o.after ∧ Region.binds .any e = true) ∧ e.on = j := by
  have h1 : j ∈ preds o := by simpa using h
  obtain ⟨e, he, rfl⟩ := List.mem_map.1 h1
  obtain ⟨h2, h3⟩ := List.mem_filter.1 he
  exact ⟨e, ⟨by simpa using h2, h3⟩, rfl⟩

section
variable {o : Oper} {a : Act} {w : World} {K : Act → World → Prop} {dst : Option Tmp} {ty : TypeId} {pos : String} {af : Array Edge} {gd : Option (Nat × Bool)}

theorem yielded_slot {g : Nat} {b : Bool} (hs : slotOf ops a g = .bool b) (hd : ((ops[g]?).bind (·.dst)).isSome = true) : yielded ops a.tmps g = some b := by
  obtain ⟨d, hd⟩ := Option.isSome_iff_exists.1 hd
  unfold slotOf at hs
  rw [hd] at hs
  unfold yielded
  rw [hd]
  simp only [Option.getD_some, Option.bind_some] at *
  cases h : a.tmps[d]? with
  | none => simp [h, undef] at hs
  | some v => simp [h] at hs; rw [hs]
theorem wanted_slot {g : Nat} {b : Bool} (h : o.guard = some (g, b)) (hs : slotOf ops a g = .bool b) (hd : ((ops[g]?).bind (·.dst)).isSome = true) : Region.wanted o (yielded ops a.tmps) = true := by
  simp [Region.wanted, h, yielded_slot hs hd]
theorem unwanted_slot {g : Nat} {b c : Bool} (h : o.guard = some (g, b)) (hs : slotOf ops a g = .bool c) (hne : c ≠ b) (hd : ((ops[g]?).bind (·.dst)).isSome = true) : Region.wanted o (yielded ops a.tmps) = false := by
  simp [Region.wanted, h, yielded_slot hs hd, hne]

theorem op_move {x : Operand} (h : K (a.put dst (a.eval x)) w) : Oper.wp P ⟨dst, .move x, ty, pos, af, gd⟩ a w K Q := h
theorem op_assign {x : Operand} (h : K (a.put dst (a.eval x)) w) : Oper.wp P ⟨dst, .assign x, ty, pos, af, gd⟩ a w K Q := h
theorem op_pick {c x y : Operand} {b : Bool} (hc : a.eval c = .bool b) (h : K (a.put dst (if b then a.eval x else a.eval y)) w) : Oper.wp P ⟨dst, .pick c x y, ty, pos, af, gd⟩ a w K Q := by
  unfold Oper.wp
  simp only [execOp, hc]
  exact h
theorem op_load {t : TypeId} {x : Operand} {p v : Value} (hx : a.eval x = p) (hr : (Instr.loadAt t p).run P w = .ok v w) (h : K (a.put dst v) w) : Oper.wp P ⟨dst, .load t x, ty, pos, af, gd⟩ a w K Q := by
  unfold Oper.wp
  simp [execOp, hx, hr, Oper.upon, h]
end

end
end Go.Proofs.YtdkenobgfgmepaaDoor

namespace Go.Proofs.YtdkenobgfgmepaaDoor
open Go Go.RowKit

section
variable {Q : Exit → Act → World → Prop} {a a0 : Act} {w w0 : World} {dst : Option Tmp} {ty : TypeId} {pos : String} {af : Array Edge} {gd : Option (Nat × Bool)}

/-- A call of this function enters it. -/
structure Enters (P : Program) (f : FuncId) : Prop where
  run : ∀ (xs : Array Value) (w : World), (callFunc f xs).run P w = .ok (.enter f xs) w
theorem op_call {P : Program} {K : Act → World → Prop} {f : FuncId} {args : Array Operand} {tys : Array TypeId}
    (hf : Enters P f)
    (hc : Calls P f (args.map a.eval) w fun e w' => ∃ v, e = .returned v ∧ K (a.put dst v) w') :
    Oper.wp P ⟨dst, .call ⟨.value (.func f), args, tys⟩, ty, pos, af, gd⟩ a w K Q := by
  unfold Oper.wp
  simp [go_sem]
  rw [hf.run]
  refine Calls.mono hc ?_
  rintro e w' ⟨v, rfl, h⟩
  exact h
theorem args2 {s t : Nat} : (#[Operand.tmp s, .tmp t]).map a.eval = #[a.tmps.getD s undef, a.tmps.getD t undef] := by simp only [List.map_toArray, List.map_cons, List.map_nil, Act.eval]
theorem args1 {s : Nat} : (#[Operand.tmp s]).map a.eval = #[a.tmps.getD s undef] := by simp only [List.map_toArray, List.map_cons, List.map_nil, Act.eval]
variable {tys : Array TypeId} {s t : Nat} {y z : Int} {j k : Nat}
/-- An operation that is wanted. -/
theorem st_want {P : Program} {ops : Array Oper} {o : Oper} {X : Act → World → Prop} {Y : Prop} (hw : Region.wanted o (yielded ops a.tmps) = true) (h : o.wp P a w X Q) : if Region.wanted o (yielded ops a.tmps) then o.wp P a w X Q else Y := by
  rw [if_pos hw]; exact h
theorem st_unwant {P : Program} {ops : Array Oper} {o : Oper} {X : Act → World → Prop} {Y : Prop} (hw : Region.wanted o (yielded ops a.tmps) = false) (h : Y) : if Region.wanted o (yielded ops a.tmps) then o.wp P a w X Q else Y := by
  rw [if_neg (by simp [hw])]; exact h
end

theorem unwanted_undef {ops : Array Oper} {a : Act} {o : Oper} {g : Nat} {b : Bool} (h : o.guard = some (g, b)) (hs : slotOf ops a g = undef) (hd : ((ops[g]?).bind (·.dst)).isSome = true) : Region.wanted o (yielded ops a.tmps) = false := by
  obtain ⟨d, hd⟩ := Option.isSome_iff_exists.1 hd
  unfold slotOf at hs
  rw [hd] at hs
  have : yielded ops a.tmps g = none := by
    unfold yielded
    rw [hd]
    simp only [Option.getD_some, Option.bind_some] at *
    cases h : a.tmps[d]? with
    | none => rfl
    | some v => simp [h] at hs; rw [hs]; rfl
  simp [Region.wanted, h, this]

end Go.Proofs.YtdkenobgfgmepaaDoor

namespace Go.Proofs.YtdkenobgfgmepaaDoor
open Go Go.RowKit

section
variable {P : Program} {Q : Exit → Act → World → Prop}

/-- Those that come ahead of some of a list, in so many steps. -/
def ancs (l : List Oper) : Nat → List Nat → List Nat
  | 0, s => s
  | k + 1, s => ancs l k (s ++ s.flatMap fun i => ((l[i]?).map preds).getD [])
theorem ancs_listed {l : List Oper} {listed : Array Bool} (hdown : ∀ j o', l[j]? = some o' → listed.getD j false = true → ∀ k, (preds o').contains k = true → listed.getD k false = true) :
    ∀ (k : Nat) (s : List Nat), (∀ i ∈ s, listed.getD i false = true) → ∀ i ∈ ancs l k s, listed.getD i false = true
  | 0, _, h => h
  | k + 1, s, h => ancs_listed hdown k _ (fun i hi => by
      rcases List.mem_append.1 hi with hi | hi
      · exact h i hi
      · obtain ⟨j, hj, hij⟩ := List.mem_flatMap.1 hi
        cases ho : l[j]? with
        | none => simp [ho] at hij
        | some o => simp [ho] at hij; exact hdown j o ho (h j hj) i (by simpa using hij))

end
end Go.Proofs.YtdkenobgfgmepaaDoor

namespace Go.Proofs.YtdkenobgfgmepaaDoor
open Go Go.RowKit

theorem tmp_get {a : Act} {d : Nat} {v : Value} (hd : d < a.tmps.size) (h : a.tmps.getD d undef = v) : a.tmps[d]? = some v := by
  rw [Array.getD_eq_getD_getElem?] at h
  rw [Array.getElem?_eq_getElem hd] at h ⊢
  simpa using h
end Go.Proofs.YtdkenobgfgmepaaDoor

namespace Go.Proofs.YtdkenobgfgmepaaDoor
open Go Go.RowKit

theorem op_fieldAddr {P : Program} {Q : Exit → Act → World → Prop} {K : Act → World → Prop} {a : Act} {w : World} {dst : Option Tmp} {ty : TypeId} {pos : String} {af : Array Edge} {gd : Option (Nat × Bool)} {x : Operand} {vx v : Value} {t : TypeId} {f : Nat}
    (hx : a.eval x = vx) (hr : (Instr.fieldAt t vx f).run P w = .ok v w) (h : K (a.put dst v) w) : Oper.wp P ⟨dst, .fieldAddr t x f, ty, pos, af, gd⟩ a w K Q := by
  unfold Oper.wp
  simp [execOp, hx, hr, Oper.upon, h]

end Go.Proofs.YtdkenobgfgmepaaDoor

namespace Go.Proofs.YtdkenobgfgmepaaDoor.T4

end Go.Proofs.YtdkenobgfgmepaaDoor.T4

namespace Go.Proofs.YtdkenobgfgmepaaDoor.T4
open Go.RowKit
end Go.Proofs.YtdkenobgfgmepaaDoor.T4

namespace Go.Proofs.YtdkenobgfgmepaaDoor
open Go Go.RowKit

section
variable {P : Program} {Q : Exit → Act → World → Prop}
/-- Each operation waits only for such as stand ahead of it, and writes, if any, a slot of its own, below N. -/
def fitF (N : Nat) : Nat → List Nat → List Oper → Bool
  | _, _, [] => true
  | i, ds, o :: l => (o.after.toList.all fun e => !Region.binds .any e || decide (e.on < i)) && (match o.dst with | some d => !ds.contains d && decide (d < N) && fitF N (i + 1) (d :: ds) l | none => fitF N (i + 1) ds l)

theorem fitF_spec {N : Nat} : ∀ (l : List Oper) (i : Nat) (ds : List Nat), fitF N i ds l = true →
    ∀ j o, l[j]? = some o → (∀ e ∈ o.after, Region.binds .any e = true → e.on < i + j) ∧ ∀ d : Nat, o.dst = some d → d ∉ ds ∧ d < N ∧ ∀ k o', k < j → l[k]? = some o' → o'.dst ≠ some d
  | [], _, _, _, j, o, h => by simp at h
  | x :: l, i, ds, hg, j, o, h => by
    simp only [fitF, Bool.and_eq_true] at hg
    obtain ⟨hon, hd⟩ := hg
    cases hx : x.dst with
    | none =>
      simp only [hx] at hd
      cases j with
      | zero =>
        simp at h
        subst h
        refine ⟨fun e he hb => ?_, fun d hd' => by rw [hx] at hd'; cases hd'⟩
        have := List.all_eq_true.1 hon e (by simpa using he)
        simpa [hb] using this
      | succ j =>
        have h' : l[j]? = some o := by simpa using h
        obtain ⟨h1, h2⟩ := fitF_spec l (i + 1) ds hd j o h'
        refine ⟨fun e he hb => by have := h1 e he hb; omega, fun d hd' => ?_⟩
        obtain ⟨h3, h4, h5⟩ := h2 d hd'
        refine ⟨h3, h4, fun k o' hk ho' => ?_⟩
        cases k with
        | zero => simp at ho'; subst ho'; rw [hx]; simp
        | succ k => exact h5 k o' (by omega) (by simpa using ho')
    | some d0 =>
      simp only [hx, Bool.and_eq_true, decide_eq_true_eq] at hd
      obtain ⟨⟨hB, hN⟩, hr⟩ := hd
      have hB' : d0 ∉ ds := by simpa using hB
      cases j with
      | zero =>
        simp at h
        subst h
        refine ⟨fun e he hb => ?_, fun d hd' => ?_⟩
        · have := List.all_eq_true.1 hon e (by simpa using he)
          simpa [hb] using this
        · rw [hx] at hd'
          have e0 : d0 = d := Option.some.inj hd'
          subst e0
          exact ⟨hB', hN, fun k _ hk => absurd hk (by omega)⟩
      | succ j =>
        have h' : l[j]? = some o := by simpa using h
        obtain ⟨h1, h2⟩ := fitF_spec l (i + 1) (d0 :: ds) hr j o h'
        refine ⟨fun e he hb => by have := h1 e he hb; omega, fun d hd' => ?_⟩
        obtain ⟨h3, h4, h5⟩ := h2 d hd'
        refine ⟨fun hm => h3 (List.mem_cons_of_mem _ hm), h4, fun k o' hk ho' => ?_⟩
        cases k with
        | zero =>
          simp at ho'; subst ho'; rw [hx]
          intro e
          have e0 : d0 = d := Option.some.inj e
          exact h3 (e0 ▸ List.mem_cons_self)
        | succ k => exact h5 k o' (by omega) (by simpa using ho')

/-- Whatever order is picked: specs of the slots, and an invariant of what has come up, the frame and the world. -/
theorem stepsF {l : List Oper} {a0 : Act} {w0 : World} (N : Nat) (kept : List Nat) (Φ : Nat → Value → Prop) (J : Array Bool → Act → World → Prop)
    (hg : fitF N 0 kept l = true) (hN : a0.tmps.size = N) (h0 : J (Array.replicate l.length false) a0 w0)
    (hstep : ∀ i o, l[i]? = some o → ∀ (listed : Array Bool) (a : Act) (w : World), listed.size = l.length → listed.getD i true = false →
      (∀ j o', l[j]? = some o' → listed.getD j false = true → ∀ k, (preds o').contains k = true → listed.getD k false = true) →
      a.defers = a0.defers → a.tmps.size = N → (∀ k, k ∈ kept → a.tmps[k]? = a0.tmps[k]?) →
      (∀ j, (preds o).contains j = true → listed.getD j false = true ∧ Φ j (slotOf l.toArray a j)) → J listed a w →
      if Region.wanted o (yielded l.toArray a.tmps) then o.wp P a w (fun a' w' => ∃ v, a' = a.put o.dst v ∧ (o.dst.isSome = true → Φ i v) ∧ J (listed.setIfInBounds i true) a' w') Q
      else (o.dst.isSome = true → Φ i undef) ∧ J (listed.setIfInBounds i true) (a.put o.dst undef) w)
    (hsome : ∀ i o, l[i]? = some o → o.dst = none → ∀ v, Φ i v)
    (hend : ∀ (listed : Array Bool) (a : Act) (w : World), listed.size = l.length → (∀ i, i < l.length → listed.getD i false = true) → a.defers = a0.defers → a.tmps.size = N → (∀ k, k ∈ kept → a.tmps[k]? = a0.tmps[k]?) → (∀ i, i < l.length → Φ i (slotOf l.toArray a i)) → J listed a w → Q .normal a w) :
    wpAny P .any l.toArray Q l.toArray.size (Array.replicate l.toArray.size false) a0 w0 := by
  let I : Array Bool → Act → World → Prop := fun listed a w => listed.size = l.length ∧ (∀ j o', l[j]? = some o' → listed.getD j false = true → ∀ k, (preds o').contains k = true → listed.getD k false = true) ∧
    a.defers = a0.defers ∧ a.tmps.size = N ∧ (∀ k, k ∈ kept → a.tmps[k]? = a0.tmps[k]?) ∧ (∀ i, listed.getD i false = true → Φ i (slotOf l.toArray a i)) ∧ J listed a w
  have hspec := fitF_spec l 0 kept hg
  refine wpAny_inv (md := .any) I ?_ ?_ _ _ _ _ ?_ ?_
  · rintro listed a w i ⟨hsz, hdown, hdf, hn, hbase, hΦ, hJ⟩ hr
    obtain ⟨hun, o, ho, hpre⟩ := mem_ready.1 hr
    have hol : l[i]? = some o := by simpa using ho
    have hilt : i < l.length := (List.getElem?_eq_some_iff.1 hol).1
    have hpre' : ∀ j, (preds o).contains j = true → listed.getD j false = true := fun j hj => by
      obtain ⟨e, he, rfl⟩ := preds_spec hj
      exact hpre e he.1 he.2
    have hs := hstep i o hol listed a w hsz hun hdown hdf hn hbase (fun j hj => ⟨hpre' j hj, hΦ j (hpre' j hj)⟩) hJ
    have hdown' : ∀ j o', l[j]? = some o' → (listed.setIfInBounds i true).getD j false = true → ∀ k, (preds o').contains k = true → (listed.setIfInBounds i true).getD k false = true := by
      intro j o' ho' hj k hk
      by_cases e : i = j
      · subst e
        rw [hol] at ho'
        cases ho'
        exact getD_set_true (hpre' k hk)
      · rw [getD_set_ne false e] at hj
        exact getD_set_true (hdown j o' ho' hj k hk)
    have keep : ∀ w' v, (o.dst.isSome = true → Φ i v) → J (listed.setIfInBounds i true) (a.put o.dst v) w' → I (listed.setIfInBounds i true) (a.put o.dst v) w' := by
      intro w' v hv hJ'
      refine ⟨by simpa using hsz, hdown', ?_, ?_, ?_, ?_, hJ'⟩
      · cases hd : o.dst <;> simpa [Act.put] using hdf
      · cases hd : o.dst <;> simpa [Act.put] using hn
      · intro k hk
        cases hd : o.dst with
        | none => exact hbase k hk
        | some d =>
          simp only [Act.put]
          rw [Array.getElem?_setIfInBounds_ne (fun (e : d = k) => ((hspec i o hol).2 d hd).1 (e.symm ▸ hk))]
          exact hbase k hk
      · intro j hj
        by_cases e : i = j
        · subst e
          cases hd : o.dst with
          | none => exact hsome i o hol hd _
          | some d =>
            rw [← hd, slot_put_same ho hd (by have := ((hspec i o hol).2 d hd).2.1; omega)]
            exact hv (by simp [hd])
        · rw [getD_set_ne false e] at hj
          have hj' := hΦ j hj
          have hjlt : j < l.length := by
            rcases Nat.lt_or_ge j listed.size with h | h
            · omega
            · simp [Array.getElem?_eq_none h] at hj
          have hoj : l[j]? = some l[j] := List.getElem?_eq_getElem hjlt
          have hoj' : l.toArray[j]? = some l[j] := by simp [hjlt]
          cases hd : o.dst with
          | none => exact hj'
          | some d =>
            cases hd' : (l[j]).dst with
            | none => exact hsome j _ hoj hd' _
            | some d' =>
              have hne : d ≠ d' := by
                intro ee
                subst ee
                rcases Nat.lt_or_gt_of_ne e with h | h
                · exact ((hspec j _ hoj).2 d hd').2.2 i o h hol hd
                · exact ((hspec i _ hol).2 d hd).2.2 j _ h hoj hd'
              rw [slot_put_other hoj' hd' hne]
              exact hj'
    unfold wpOp
    simp only [ho]
    split
    · rename_i hw
      simp only [hw, if_true] at hs
      refine .inl (Oper.wp_mono ?_ hs)
      rintro a' w' ⟨v, rfl, hv, hJ'⟩
      exact keep w' v hv hJ'
    · rename_i hw
      simp only [hw] at hs
      exact keep w undef hs.1 hs.2
  · rintro listed a w ⟨hsz, hdown, hdf, hn, hbase, hΦ, hJ⟩ hr
    have hall : ∀ i, i < l.length → listed.getD i false = true := by
      intro i
      induction i using Nat.strongRecOn with
      | ind i ih =>
        intro hi
        cases hl : listed.getD i true with
        | true =>
          have : i < listed.size := by omega
          simpa [this] using hl
        | false =>
          exfalso
          have hoi : l[i]? = some l[i] := List.getElem?_eq_getElem hi
          have : i ∈ Region.ready .any l.toArray listed := by
            refine mem_ready.2 ⟨hl, l[i], by simp [hi], fun e he hb => ?_⟩
            have := (hspec i _ hoi).1 e he hb
            exact ih e.on (by omega) (by omega)
          rw [hr] at this
          cases this
    exact hend listed a w hsz hall hdf hn hbase (fun i hi => hΦ i (hall i hi)) hJ
  · unfold toCome
    exact Nat.le_trans (List.length_filter_le _ _) (by simp)
  · have hf : ∀ i, (Array.replicate l.toArray.size false).getD i false = true → False := by
      intro i hi
      rcases Nat.lt_or_ge i l.length with h | h
      · simp [h] at hi
      · simp [h] at hi
    exact ⟨by simp, fun j _ _ hj => (hf j hj).elim, rfl, hN, fun _ _ => rfl, fun i hi => (hf i hi).elim, by simpa using h0⟩
end

end Go.Proofs.YtdkenobgfgmepaaDoor

namespace Go.Proofs.YtdkenobgfgmepaaDoor
open Go Go.RowKit

/-- w' is w but for one block. -/
structure PutAt (r : Nat) (w w' : World) : Prop where
  os : w'.os = w.os
  tape : w'.tape = w.tape
  output : w'.output = w.output
  size : w'.heap.size = w.heap.size
  block : ∀ k, k ≠ r → w'.heap[k]? = w.heap[k]?
theorem PutAt.below {r B : Nat} {w0 w w' : World} (h : PutAt r w w') (hb : Below B w0 w) (hr : B ≤ r) : Below B w0 w' :=
  ⟨h.os.trans hb.os, h.tape.trans hb.tape, h.output.trans hb.output, by rw [h.size]; exact hb.size, fun k hk => (h.block k (by omega)).trans (hb.block k hk)⟩

/-- The kinds of boxes, by types. -/
structure Kinds where
  K : TypeId → World → Nat → Prop
  loc : ∀ t w w' r, w'.heap[r]? = w.heap[r]? → K t w r → K t w' r
  lt : ∀ t w r, K t w r → r < w.heap.size
  inj : ∀ t t' w r, K t w r → K t' w r → t = t'
  Z : World → Nat → Prop
/-- What is said of a slot: it stands when memory grows, and when a box is filled. -/
structure Sx (κ : Kinds) where
  ok : World → Value → Prop
  mono : ∀ w w' v, ok w v → Below w.heap.size w w' → ok w' v
  put : ∀ t w w' v r, ok w v → κ.K t w r → κ.Z w r → PutAt r w w' → κ.K t w' r → ok w' v
def Sx.any (κ : Kinds) : Sx κ := ⟨fun _ _ => True, fun _ _ _ h _ => h, fun _ _ _ _ _ h _ _ _ _ => h⟩
/-- A store: its number, the slot of its pointer, what the box then holds. -/
structure St (κ : Kinds) where
  op : Nat
  pt : Nat
  H : World → Nat → Value → Prop
  S : Sx κ
  loc : ∀ w w' r v, w'.heap[r]? = w.heap[r]? → H w r v → H w' r v
  lt : ∀ w r v, H w r v → r < w.heap.size
  ob : Nat := 0
  O : World → Prop := fun _ => True
  om : ∀ w w', O w → Below w.heap.size w w' → O w' := by exact fun _ _ h _ => h
  oput : ∀ t w w' r, O w → κ.K t w r → κ.Z w r → PutAt r w w' → κ.K t w' r → r ≠ ob → O w' := by exact fun _ _ _ _ h _ _ _ _ _ => h
  F : World → Nat → Prop := fun _ _ => True
  floc : ∀ w w' r, w'.heap[r]? = w.heap[r]? → F w r → F w' r := by exact fun _ _ _ _ _ => trivial

/-- The pointers: slot, and the number of the operation that makes the box, if it is made here. -/
def availP (listed : Array Bool) (x : Nat × Option Nat) : Prop := ∀ i, x.2 = some i → listed.getD i false = true

def fxB (l : List Oper) (kept : List Nat) (ptrs : List (Nat × Option Nat)) (sts : List (Nat × Nat)) : Bool :=
  (sts.all fun s => match l[s.1]? with
    | some o => o.dst.isNone && o.guard.isNone && (ptrs.any fun x => x.1 == s.2) && (ptrs.all fun x => x.1 != s.2 || (match x.2 with | some i => (preds o).contains i | none => true))
    | none => false) &&
  (sts.all fun s => sts.all fun t => s.1 == t.1 || s.2 != t.2) &&
  (ptrs.all fun x => match x.2 with
    | some i => (match l[i]? with | some o => o.dst == some x.1 | none => false)
    | none => kept.contains x.1) &&
  ((List.range l.length).all fun i => (sts.any fun s => s.1 == i) || (match l[i]? with | some o => o.dst.isSome | none => false)) &&
  (ptrs.all fun x => ptrs.all fun y => x.1 != y.1 || x.2 == y.2)

theorem wpAny_text {P : Program} {Q : Exit → Act → World → Prop} {l : List Oper} (hf : ∀ i o, l[i]? = some o → ∀ e ∈ o.after, Region.binds .any e = true → e.on < i) :
    ∀ (m k : Nat) (listed : Array Bool) (a : Act) (w : World), k + m = l.length → listed.size = l.length → (∀ j, j < l.length → listed.getD j false = decide (j < k)) → ∀ fuel, m ≤ fuel → wpAny P .any l.toArray Q fuel listed a w → wpOps P l.toArray Q (List.range' k m) a w := by
  intro m
  induction m with
  | zero =>
    intro k listed a w hk hs hl fuel _ h
    have hr : Region.ready .any l.toArray listed = [] := by
      apply List.eq_nil_iff_forall_not_mem.2
      intro i hi
      obtain ⟨h0, o, ho, _⟩ := mem_ready.1 hi
      have hil : i < l.length := by simpa using (Array.getElem?_eq_some_iff.1 ho).1
      have h1 := hl i hil
      have : i < listed.size := by omega
      simp [this] at h0 h1
      rw [h0] at h1
      simp at h1
      omega
    cases fuel with
    | zero => exact h.2
    | succ f => exact h.1 hr
  | succ m ih =>
    intro k listed a w hk hs hl fuel hfu h
    cases fuel with
    | zero => omega
    | succ f =>
      have hkl : k < l.length := by omega
      have hkr : k ∈ Region.ready .any l.toArray listed := by
        refine mem_ready.2 ⟨?_, l[k], by simp [hkl], fun e he hb => ?_⟩
        · have h1 := hl k hkl
          have : k < listed.size := by omega
          simp [this] at h1 ⊢
          exact h1
        · have := hf k l[k] (List.getElem?_eq_getElem hkl) e he hb
          rw [hl e.on (by omega)]
          simpa using this
      rw [List.range'_succ, wpOps_cons]
      refine wpOp_mono (fun a' w' h' => ih (k + 1) _ a' w' (by omega) (by simpa using hs) (fun j hj => ?_) f (by omega) h') (h.2 k hkr)
      by_cases e : k = j
      · subst e
        have : k < listed.size := by omega
        simp [this]
      · rw [getD_set_ne false e, hl j hj]
        simp
        omega
theorem wp_region_text {P : Program} {Q : Exit → Act → World → Prop} {l : List Oper} {id : Nat} {a : Act} {w : World} (N : Nat) (kept : List Nat) (hg : fitF N 0 kept l = true)
    (h : wpAny P .any l.toArray Q l.toArray.size (Array.replicate l.toArray.size false) a w) : (Code.region id l.toArray false).wp P Q a w := by
  refine wp_region ?_
  rw [List.range_eq_range']
  refine wpAny_text (fun i o ho e he hb => ?_) l.toArray.size 0 _ a w (by simp) (by simp) (fun j hj => ?_) _ (Nat.le_refl _) h
  · have := (fitF_spec l 0 kept hg i o ho).1 e he hb
    omega
  · simp [hj]

theorem fx_any (κ : Kinds) {P : Program} {Q : Exit → Act → World → Prop} {l : List Oper} {a0 : Act} {w0 : World} (N B : Nat) (kept : List Nat) (sp : List (Sx κ)) (inv : Sx κ) (ptrs : List (Nat × Option Nat)) (sts : List (St κ))
    (hg : fitF N 0 kept l = true) (hB : fxB l kept ptrs (sts.map fun s => (s.op, s.pt)) = true) (hN : a0.tmps.size = N) (hi0 : inv.ok w0 undef) (hBw : B ≤ w0.heap.size)
    (hstA : ∀ s ∈ sts, ∀ w v, (sp.getD s.op (Sx.any κ)).ok w v) (hsame : ∀ s ∈ sts, ∀ s' ∈ sts, s.op = s'.op → s = s')
    (hOx : ∀ s ∈ sts, (∀ w, s.O w) ∨ (s.pt ∈ kept ∧ (s.pt, none) ∈ ptrs ∧ a0.tmps.getD s.pt undef = .pointer (some ⟨s.ob, 0, none⟩))) (hO0 : ∀ s ∈ sts, s.O w0)
    (hold : ∀ x ∈ ptrs, x.2 = none → ∃ r, a0.tmps.getD x.1 undef = .pointer (some ⟨r, 0, none⟩) ∧ r < w0.heap.size)
    (hdis : ∀ x ∈ ptrs, ∀ y ∈ ptrs, x.2 = none → y.2 = none → x.1 ≠ y.1 → a0.tmps.getD x.1 undef ≠ a0.tmps.getD y.1 undef)
    (hnew : ∀ x ∈ ptrs, ∀ i, x.2 = some i → ∀ w v, (sp.getD i (Sx.any κ)).ok w v → ∃ r, v = .pointer (some ⟨r, 0, none⟩) ∧ r < w.heap.size)
    (hstep : ∀ i o, l[i]? = some o → (∀ s ∈ sts, s.op ≠ i) → ∀ (a : Act) (w : World), Below B w0 w → inv.ok w undef → (∀ k, k ∈ kept → a.tmps[k]? = a0.tmps[k]?) → (∀ j, (preds o).contains j = true → (sp.getD j (Sx.any κ)).ok w (slotOf l.toArray a j)) → (∀ s ∈ sts, (ancs l 4 [s.op]).contains i = true → s.O w) →
      if Region.wanted o (yielded l.toArray a.tmps) then o.wp P a w (fun a' w' => ∃ v, a' = a.put o.dst v ∧ Below w.heap.size w w' ∧ (sp.getD i (Sx.any κ)).ok w' v ∧ ((∃ x ∈ ptrs, x.2 = some i) → v = .pointer (some ⟨w.heap.size, 0, none⟩) ∧ ∀ s ∈ sts, s.F w' w.heap.size)) Q
      else (sp.getD i (Sx.any κ)).ok w undef ∧ ∀ x ∈ ptrs, x.2 ≠ some i)
    (hstore : ∀ s ∈ sts, ∀ o, l[s.op]? = some o → ∀ (a : Act) (w : World), Below B w0 w → inv.ok w undef → (∀ k, k ∈ kept → a.tmps[k]? = a0.tmps[k]?) → (∀ j, (preds o).contains j = true → (sp.getD j (Sx.any κ)).ok w (slotOf l.toArray a j)) → s.O w → (∀ i, (s.pt, some i) ∈ ptrs → ∃ r, a.tmps.getD s.pt undef = .pointer (some ⟨r, 0, none⟩) ∧ s.F w r) →
      o.wp P a w (fun a' w' => a' = a ∧ ∃ r v t, a.tmps.getD s.pt undef = .pointer (some ⟨r, 0, none⟩) ∧ B ≤ r ∧ κ.K t w r ∧ κ.Z w r ∧ PutAt r w w' ∧ κ.K t w' r ∧ s.H w' r v ∧ s.S.ok w v) Q)
    (hend : ∀ (a : Act) (w : World), Below B w0 w → a.defers = a0.defers → a.tmps.size = N → (∀ k, k ∈ kept → a.tmps[k]? = a0.tmps[k]?) → inv.ok w undef → (∀ i, i < l.length → (∀ s ∈ sts, s.op ≠ i) → (sp.getD i (Sx.any κ)).ok w (slotOf l.toArray a i)) →
      (∀ s ∈ sts, ∃ r v, a.tmps.getD s.pt undef = .pointer (some ⟨r, 0, none⟩) ∧ s.H w r v ∧ s.S.ok w v) →
      (∀ x ∈ ptrs, ∀ y ∈ ptrs, x.1 ≠ y.1 → a.tmps.getD x.1 undef ≠ a.tmps.getD y.1 undef) → Q .normal a w) :
    wpAny P .any l.toArray Q l.toArray.size (Array.replicate l.toArray.size false) a0 w0 := by
  simp only [fxB, Bool.and_eq_true, List.all_eq_true, List.mem_map, forall_exists_index, and_imp, forall_apply_eq_imp_iff₂] at hB
  obtain ⟨⟨⟨⟨hS, hSd⟩, hP⟩, hO⟩, hPP⟩ := hB
  have hspec := fitF_spec l 0 kept hg
  have hStore : ∀ s ∈ sts, ∃ o, l[s.op]? = some o ∧ o.dst = none ∧ o.guard = none ∧ (∃ x ∈ ptrs, x.1 = s.pt) ∧ ∀ x ∈ ptrs, x.1 = s.pt → ∀ i, x.2 = some i → (preds o).contains i = true := by
    intro s hs
    have h := hS s hs
    cases ho : l[s.op]? with
    | none => simp [ho] at h
    | some o =>
      simp only [ho, Bool.and_eq_true, List.any_eq_true, List.all_eq_true, beq_iff_eq, Bool.or_eq_true, bne_iff_ne] at h
      obtain ⟨⟨⟨h1, h2⟩, h3⟩, h4⟩ := h
      refine ⟨o, rfl, by simpa using h1, by simpa using h2, h3, fun x hx e i hi => ?_⟩
      rcases h4 x hx with h5 | h5
      · exact absurd e h5
      · rw [hi] at h5; exact h5
  have hSd' : ∀ s ∈ sts, ∀ t ∈ sts, s.op ≠ t.op → s.pt ≠ t.pt := by
    intro s hs t ht hne
    have := hSd s hs t ht
    simp only [Bool.or_eq_true, beq_iff_eq, bne_iff_ne] at this
    rcases this with h | h
    · exact absurd h hne
    · exact h
  have hPn : ∀ x ∈ ptrs, ∀ i, x.2 = some i → ∃ o, l[i]? = some o ∧ o.dst = some x.1 := by
    intro x hx i hi
    have h := hP x hx
    rw [hi] at h
    cases ho : l[i]? with
    | none => simp [ho] at h
    | some o => simp only [ho, beq_iff_eq] at h; exact ⟨o, rfl, h⟩
  have hPk : ∀ x ∈ ptrs, x.2 = none → x.1 ∈ kept := by
    intro x hx hi
    have h := hP x hx
    rw [hi] at h
    simpa using h
  have hdst : ∀ i o, l[i]? = some o → (∀ s ∈ sts, s.op ≠ i) → ∃ d, o.dst = some d := by
    intro i o ho hn
    have h := hO i (List.mem_range.2 (List.getElem?_eq_some_iff.1 ho).1)
    simp only [Bool.or_eq_true, List.any_eq_true, List.mem_map, beq_iff_eq, ho] at h
    rcases h with ⟨p, ⟨s, hs, rfl⟩, e⟩ | h
    · exact absurd e (hn s hs)
    · exact Option.isSome_iff_exists.1 h
  have hPP' : ∀ x ∈ ptrs, ∀ y ∈ ptrs, x.1 = y.1 → x.2 = y.2 := by
    intro x hx y hy e
    have := hPP x hx y hy
    simp only [Bool.or_eq_true, bne_iff_ne, beq_iff_eq] at this
    rcases this with h | h
    · exact absurd e h
    · exact h
  -- a slot that is no operation's own keeps its value
  have hput : ∀ (i : Nat) (o : Oper) (a : Act) (v : Value) (d : Nat), o.dst = some d → ∀ k, k ≠ d → (a.put o.dst v).tmps.getD k undef = a.tmps.getD k undef := by
    intro i o a v d hd k hk
    rw [hd]
    simp only [Act.put, Array.getD_eq_getD_getElem?]
    rw [Array.getElem?_setIfInBounds_ne (Ne.symm hk)]
  have hputS : ∀ (o : Oper) (a : Act) (v : Value) (d : Nat), o.dst = some d → d < a.tmps.size → (a.put o.dst v).tmps.getD d undef = v := by
    intro o a v d hd hlt
    rw [hd]
    simp [Act.put, hlt]
  have hslotD : ∀ (a : Act) (i : Nat) (o : Oper) (d : Nat), l[i]? = some o → o.dst = some d → slotOf l.toArray a i = a.tmps.getD d undef := by
    intro a i o d ho hd
    simp [slotOf, ho, hd]
  have pinj : ∀ {r s : Nat}, (Value.pointer (some ⟨r, 0, none⟩) : Value) = .pointer (some ⟨s, 0, none⟩) → r = s := fun e9 => by
    injection e9 with e9
    injection e9 with e9
    injection e9 with e9
  let J : Array Bool → Act → World → Prop := fun listed a w => Below B w0 w ∧ w0.heap.size ≤ w.heap.size ∧ inv.ok w undef ∧ (∀ j o, l[j]? = some o → (∀ s ∈ sts, s.op ≠ j) → listed.getD j false = true → (sp.getD j (Sx.any κ)).ok w (slotOf l.toArray a j)) ∧
    (∀ s ∈ sts, listed.getD s.op false = true → ∃ r v, a.tmps.getD s.pt undef = .pointer (some ⟨r, 0, none⟩) ∧ s.H w r v ∧ s.S.ok w v) ∧
    (∀ x ∈ ptrs, ∀ y ∈ ptrs, x.1 ≠ y.1 → availP listed x → availP listed y → a.tmps.getD x.1 undef ≠ a.tmps.getD y.1 undef) ∧ (∀ s ∈ sts, listed.getD s.op false = false → s.O w) ∧ (∀ s ∈ sts, listed.getD s.op false = false → ∀ i, (s.pt, some i) ∈ ptrs → listed.getD i false = true → ∃ r, a.tmps.getD s.pt undef = .pointer (some ⟨r, 0, none⟩) ∧ s.F w r)
  refine stepsF N kept (fun _ _ => True) J hg hN ?_ ?_ (fun _ _ _ _ _ => trivial) ?_
  · have hf : ∀ j, (Array.replicate l.length false).getD j false = false := fun j => by
      by_cases h : j < l.length <;> simp [h]
    refine ⟨Below.refl _ _, Nat.le_refl _, hi0, fun j _ _ _ h => ?_, fun s _ h => ?_, fun x hx y hy hne ax ay => ?_, fun s hs _ => hO0 s hs, fun s _ _ i _ h => ?_⟩
    · rw [hf] at h; cases h
    · rw [hf] at h; cases h
    · refine hdis x hx y hy ?_ ?_ hne
      · cases h : x.2 with
        | none => rfl
        | some i => have := ax i h; rw [hf] at this; cases this
      · cases h : y.2 with
        | none => rfl
        | some i => have := ay i h; rw [hf] at this; cases this
    · rw [hf] at h; cases h
  · intro i o ho listed a w hsz hun hdown hdf hn hk hp hJ
    obtain ⟨hb, hsw, hiv, hΨ, hSt, hD, hOl, hFl⟩ : J listed a w := hJ
    have hil : i < l.length := (List.getElem?_eq_some_iff.1 ho).1
    have hunf : listed.getD i false = false := by
      have : i < listed.size := by omega
      simpa [this] using hun
    have hset : (listed.setIfInBounds i true).getD i false = true := by
      have : i < listed.size := by omega
      simp [this]
    have nset : ∀ {j : Nat}, i ≠ j → (listed.setIfInBounds i true).getD j false = listed.getD j false := fun h => getD_set_ne false h
    have hpr : ∀ j, (preds o).contains j = true → (sp.getD j (Sx.any κ)).ok w (slotOf l.toArray a j) ∨ ∃ s ∈ sts, s.op = j := fun j hj => by
      by_cases hs : ∃ s ∈ sts, s.op = j
      · exact .inr hs
      · left
        have hl := (hp j hj).1
        have hjl : j < l.length := by
          obtain ⟨e, he, rfl⟩ := preds_spec hj
          have := (hspec i o ho).1 e he.1 he.2
          omega
        exact hΨ j l[j] (List.getElem?_eq_getElem hjl) (fun s hs' e => hs ⟨s, hs', e⟩) hl
    have hptr : ∀ x ∈ ptrs, availP listed x → ∃ r, a.tmps.getD x.1 undef = .pointer (some ⟨r, 0, none⟩) ∧ r < w.heap.size := by
      intro x hx ax
      cases h : x.2 with
      | none =>
        obtain ⟨r, e, hlt⟩ := hold x hx h
        refine ⟨r, ?_, by omega⟩
        rw [← e]
        simp only [Array.getD_eq_getD_getElem?]
        rw [hk x.1 (hPk x hx h)]
      | some j =>
        obtain ⟨oj, hoj, hdj⟩ := hPn x hx j h
        have hnj : ∀ s ∈ sts, s.op ≠ j := by
          intro s hs e
          obtain ⟨o', ho', hd', _⟩ := hStore s hs
          rw [e, hoj] at ho'
          cases ho'
          rw [hdj] at hd'
          cases hd'
        have := hΨ j oj hoj hnj (ax j h)
        rw [hslotD a j oj x.1 hoj hdj] at this
        exact hnew x hx j h w _ this
    by_cases hst : ∃ s ∈ sts, s.op = i
    · -- a store
      obtain ⟨s, hs, rfl⟩ := hst
      obtain ⟨o', ho', hd', hgu, ⟨x, hx, ex⟩, hprx⟩ := hStore s hs
      rw [ho] at ho'
      cases ho'
      have hw : Region.wanted o (yielded l.toArray a.tmps) = true := by simp [Region.wanted, hgu]
      rw [if_pos hw]
      have hax : availP listed x := fun i hi => (hp i (hprx x hx ex i hi)).1
      have hpr' : ∀ j, (preds o).contains j = true → (sp.getD j (Sx.any κ)).ok w (slotOf l.toArray a j) ∨ ∃ s ∈ sts, s.op = j := hpr
      have h1 := hstore s hs o ho a w hb hiv hk (fun j hj => by
        rcases hpr' j hj with h | ⟨s', hs', rfl⟩
        · exact h
        · exact hstA s' hs' w (slotOf l.toArray a s'.op)) (hOl s hs hunf) (fun i hi => hFl s hs hunf i hi (hp i (hprx (s.pt, some i) hi rfl i rfl)).1)
      refine Oper.wp_mono ?_ h1
      rintro a' w' ⟨rfl, r, v, t, er, hBr, hK, hZ, hpa, hK', hH, hSv⟩
      refine ⟨undef, by rw [hd']; rfl, fun _ => trivial, hpa.below hb hBr, by rw [hpa.size]; exact hsw, inv.put _ _ _ _ _ hiv hK hZ hpa hK', fun j oj hoj hnj hl => ?_, fun s' hs' hl => ?_, fun x' hx' y' hy' hne ax ay => ?_, fun s' hs' hl => ?_, fun s' hs' hl i hi hli => ?_⟩
      · rw [nset (hnj s hs)] at hl
        exact (sp.getD j (Sx.any κ)).put _ _ _ _ _ (hΨ j oj hoj hnj hl) hK hZ hpa hK'
      · by_cases e : s.op = s'.op
        · obtain rfl := hsame s hs s' hs' e
          exact ⟨r, v, er, hH, s.S.put _ _ _ _ _ hSv hK hZ hpa hK'⟩
        · rw [nset e] at hl
          obtain ⟨r', v', er', hH', hS'⟩ := hSt s' hs' hl
          obtain ⟨o', ho', _, _, ⟨x', hx', ex'⟩, hprx'⟩ := hStore s' hs'
          have hax' : availP listed x' := fun i hi => hdown s'.op o' ho' hl i (hprx' x' hx' ex' i hi)
          have hrr : r' ≠ r := by
            intro e9
            refine hD x hx x' hx' (by rw [ex, ex']; exact hSd' s hs s' hs' e) hax hax' ?_
            rw [ex, ex', er, er', e9]
          exact ⟨r', v', er', s'.loc _ _ _ _ (hpa.block r' hrr) hH', s'.S.put _ _ _ _ _ hS' hK hZ hpa hK'⟩
      · have hav : ∀ z ∈ ptrs, availP (listed.setIfInBounds s.op true) z → availP listed z := by
          intro z hz az j hj
          obtain ⟨oj, hoj, hdj⟩ := hPn z hz j hj
          have hne' : s.op ≠ j := by
            intro e
            rw [← e, ho] at hoj
            cases hoj
            rw [hd'] at hdj
            cases hdj
          have := az j hj
          rwa [nset hne'] at this
        exact hD x' hx' y' hy' hne (hav _ hx' ax) (hav _ hy' ay)
      · have e : s.op ≠ s'.op := fun e => by rw [← e, hset] at hl; cases hl
        rw [nset e] at hl
        rcases hOx s' hs' with h | ⟨hkp, hpp, he⟩
        · exact h _
        · refine s'.oput _ _ _ _ (hOl s' hs' hl) hK hZ hpa hK' fun e9 => ?_
          refine hD x hx (s'.pt, none) hpp (by rw [ex]; exact hSd' s hs s' hs' e) hax (fun i hi => by cases hi) ?_
          show a'.tmps.getD x.1 undef = a'.tmps.getD s'.pt undef
          rw [ex, er, e9, ← he]
          simp only [Array.getD_eq_getD_getElem?]
          rw [hk s'.pt hkp]
      · have e : s.op ≠ s'.op := fun e => by rw [← e, hset] at hl; cases hl
        rw [nset e] at hl
        obtain ⟨oi, hoi, hdi⟩ := hPn _ hi i rfl
        have ei : s.op ≠ i := by
          intro e'
          rw [← e', ho] at hoi
          cases hoi
          rw [hd'] at hdi
          cases hdi
        rw [nset ei] at hli
        obtain ⟨r', er', hF⟩ := hFl s' hs' hl i hi hli
        refine ⟨r', er', s'.floc _ _ _ (hpa.block r' fun e9 => ?_) hF⟩
        refine hD x hx (s'.pt, some i) hi (by rw [ex]; exact hSd' s hs s' hs' e) hax (fun j hj => by cases hj; exact hli) ?_
        show a'.tmps.getD x.1 undef = a'.tmps.getD s'.pt undef
        rw [ex, er, er', e9]
    · have hnst : ∀ s ∈ sts, s.op ≠ i := fun s hs e => hst ⟨s, hs, e⟩
      obtain ⟨d, hd⟩ := hdst i o ho hnst
      obtain ⟨hdk, hdN, hdu⟩ := (hspec i o ho).2 d hd
      have hother : ∀ j oj, l[j]? = some oj → i ≠ j → ∀ dj, oj.dst = some dj → dj ≠ d := by
        intro j oj hoj hij dj hdj e
        subst e
        rcases Nat.lt_or_gt_of_ne hij with h | h
        · exact ((hspec j oj hoj).2 _ hdj).2.2 i o h ho hd
        · exact hdu j oj h hoj hdj
      have hpd : ∀ x ∈ ptrs, x.2 ≠ some i → x.1 ≠ d := by
        intro x hx hxi e
        cases h : x.2 with
        | none => exact hdk (e ▸ hPk x hx h)
        | some j =>
          obtain ⟨oj, hoj, hdj⟩ := hPn x hx j h
          have hij : i ≠ j := fun e' => hxi (by rw [h, e'])
          exact hother j oj hoj hij x.1 hdj e
      have hsd : ∀ s ∈ sts, listed.getD s.op false = true → s.pt ≠ d := by
        intro s hs hl e
        obtain ⟨o', ho', _, _, ⟨x, hx, ex⟩, hprx⟩ := hStore s hs
        by_cases hxi : x.2 = some i
        · have := hdown s.op o' ho' hl i (hprx x hx ex i hxi)
          rw [hunf] at this
          cases this
        · exact hpd x hx hxi (ex.trans e)
      have h1 := hstep i o ho hnst a w hb hiv hk (fun j hj => by
        rcases hpr j hj with h | ⟨s', hs', rfl⟩
        · exact h
        · exact hstA s' hs' w (slotOf l.toArray a s'.op)) (fun s hs hc => by
          cases hl : listed.getD s.op false with
          | false => exact hOl s hs hl
          | true =>
            have := ancs_listed hdown 4 [s.op] (by simpa using hl) i (by simpa using hc)
            rw [hunf] at this
            cases this)
      have fin : ∀ (w' : World) (v : Value), Below w.heap.size w w' → (sp.getD i (Sx.any κ)).ok w' v → ((∃ x ∈ ptrs, x.2 = some i) → v = .pointer (some ⟨w.heap.size, 0, none⟩) ∧ ∀ s ∈ sts, s.F w' w.heap.size) → J (listed.setIfInBounds i true) (a.put o.dst v) w' := by
        intro w' v hb' hv hpt
        refine ⟨hb.trans (hb'.mono ?_), by have := hb'.size; omega, inv.mono _ _ _ hiv hb', fun j oj hoj hnj hl => ?_, fun s hs hl => ?_, fun x hx y hy hne ax ay => ?_, fun s hs hl => ?_, fun s hs hl j hj hlj => ?_⟩
        · omega
        · by_cases e : i = j
          · subst e
            rw [ho] at hoj
            cases hoj
            rw [hslotD _ i o d ho hd, hputS o a v d hd (by omega)]
            exact hv
          · rw [nset e] at hl
            obtain ⟨dj, hdj⟩ := hdst j oj hoj hnj
            have h2 := hΨ j oj hoj hnj hl
            rw [hslotD _ j oj dj hoj hdj] at h2 ⊢
            rw [hput i o a v d hd dj (hother j oj hoj e dj hdj)]
            exact (sp.getD j (Sx.any κ)).mono _ _ _ h2 hb'
        · rw [nset (Ne.symm (hnst s hs))] at hl
          obtain ⟨r, v', er, hH, hS'⟩ := hSt s hs hl
          refine ⟨r, v', ?_, s.loc _ _ _ _ (hb'.block r (s.lt _ _ _ hH)) hH, s.S.mono _ _ _ hS' hb'⟩
          rw [hput i o a v d hd s.pt (hsd s hs hl)]
          exact er
        · have hav : ∀ z ∈ ptrs, z.2 ≠ some i → availP (listed.setIfInBounds i true) z → availP listed z := by
            intro z hz hzi az j hj
            have := az j hj
            rwa [nset (fun e => hzi (by rw [hj, e]))] at this
          by_cases hxi : x.2 = some i
          · have hyi : y.2 ≠ some i := by
              intro hyi
              obtain ⟨o1, ho1, hd1⟩ := hPn x hx i hxi
              obtain ⟨o2, ho2, hd2⟩ := hPn y hy i hyi
              rw [ho1] at ho2
              cases ho2
              rw [hd1] at hd2
              exact hne (Option.some.inj hd2)
            obtain ⟨o1, ho1, hd1⟩ := hPn x hx i hxi
            rw [ho] at ho1
            cases ho1
            rw [hd] at hd1
            have hxd : x.1 = d := (Option.some.inj hd1).symm
            obtain ⟨r, er, hlt⟩ := hptr y hy (hav y hy hyi ay)
            rw [hxd, hputS o a v d hd (by omega), hput i o a v d hd y.1 (hpd y hy hyi), er, (hpt ⟨x, hx, hxi⟩).1]
            intro e9
            have := pinj e9
            omega
          · by_cases hyi : y.2 = some i
            · obtain ⟨o1, ho1, hd1⟩ := hPn y hy i hyi
              rw [ho] at ho1
              cases ho1
              rw [hd] at hd1
              have hyd : y.1 = d := (Option.some.inj hd1).symm
              obtain ⟨r, er, hlt⟩ := hptr x hx (hav x hx hxi ax)
              rw [hyd, hputS o a v d hd (by omega), hput i o a v d hd x.1 (hpd x hx hxi), er, (hpt ⟨y, hy, hyi⟩).1]
              intro e9
              have := pinj e9
              omega
            · rw [hput i o a v d hd x.1 (hpd x hx hxi), hput i o a v d hd y.1 (hpd y hy hyi)]
              exact hD x hx y hy hne (hav x hx hxi ax) (hav y hy hyi ay)
        · rw [nset (Ne.symm (hnst s hs))] at hl
          exact s.om _ _ (hOl s hs hl) hb'
        · rw [nset (Ne.symm (hnst s hs))] at hl
          by_cases e : i = j
          · subst e
            obtain ⟨oi, hoi, hdi⟩ := hPn _ hj i rfl
            rw [ho] at hoi
            cases hoi
            rw [hd] at hdi
            have hdp : d = s.pt := Option.some.inj hdi
            have h9 := hpt ⟨_, hj, rfl⟩
            refine ⟨w.heap.size, ?_, h9.2 s hs⟩
            rw [← hdp, hputS o a v d hd (by omega)]
            exact h9.1
          · rw [nset e] at hlj
            obtain ⟨r, er, hF⟩ := hFl s hs hl j hj hlj
            have hne : s.pt ≠ d := hpd _ hj (fun e' => e (Option.some.inj e').symm)
            obtain ⟨r9, er9, hlt⟩ := hptr _ hj (fun k hk => by cases hk; exact hlj)
            have hr9 : r9 = r := pinj (er9.symm.trans er)
            refine ⟨r, ?_, s.floc _ _ _ (hb'.block r (by omega)) hF⟩
            rw [hput i o a v d hd s.pt hne]
            exact er
      split
      · rename_i hw
        simp only [hw, if_true] at h1
        refine Oper.wp_mono ?_ h1
        rintro a' w' ⟨v, rfl, hb', hv, hpt⟩
        exact ⟨v, rfl, fun _ => trivial, fin w' v hb' hv hpt⟩
      · rename_i hw
        simp only [hw] at h1
        exact ⟨fun _ => trivial, fin w undef (Below.refl _ _) h1.1 (fun ⟨x, hx, e⟩ => absurd e (h1.2 x hx))⟩
  · intro listed a w hsz hall hdf hn hk _ hJ
    obtain ⟨hb, _, hiv, hΨ, hSt, hD, _, _⟩ : J listed a w := hJ
    refine hend a w hb hdf hn hk hiv (fun i hi hnst => hΨ i l[i] (List.getElem?_eq_getElem hi) hnst (hall i hi)) (fun s hs => ?_) (fun x hx y hy hne => hD x hx y hy hne ?_ ?_)
    · obtain ⟨o', ho', _⟩ := hStore s hs
      exact hSt s hs (hall s.op (List.getElem?_eq_some_iff.1 ho').1)
    · intro i hi
      obtain ⟨o', ho', _⟩ := hPn x hx i hi
      exact hall i (List.getElem?_eq_some_iff.1 ho').1
    · intro i hi
      obtain ⟨o', ho', _⟩ := hPn y hy i hi
      exact hall i (List.getElem?_eq_some_iff.1 ho').1

theorem fx_reg (κ : Kinds) {P : Program} {Q : Exit → Act → World → Prop} {l : List Oper} {a0 : Act} {w0 : World} {id : Nat} (d : Bool) (hm : P.follows .mixedOrders = true) (N B : Nat) (kept : List Nat) (sp : List (Sx κ)) (inv : Sx κ) (ptrs : List (Nat × Option Nat)) (sts : List (St κ))
    (hg : fitF N 0 kept l = true) (hB : fxB l kept ptrs (sts.map fun s => (s.op, s.pt)) = true) (hN : a0.tmps.size = N) (hi0 : inv.ok w0 undef) (hBw : B ≤ w0.heap.size)
    (hstA : ∀ s ∈ sts, ∀ w v, (sp.getD s.op (Sx.any κ)).ok w v) (hsame : ∀ s ∈ sts, ∀ s' ∈ sts, s.op = s'.op → s = s')
    (hOx : ∀ s ∈ sts, (∀ w, s.O w) ∨ (s.pt ∈ kept ∧ (s.pt, none) ∈ ptrs ∧ a0.tmps.getD s.pt undef = .pointer (some ⟨s.ob, 0, none⟩))) (hO0 : ∀ s ∈ sts, s.O w0)
    (hold : ∀ x ∈ ptrs, x.2 = none → ∃ r, a0.tmps.getD x.1 undef = .pointer (some ⟨r, 0, none⟩) ∧ r < w0.heap.size)
    (hdis : ∀ x ∈ ptrs, ∀ y ∈ ptrs, x.2 = none → y.2 = none → x.1 ≠ y.1 → a0.tmps.getD x.1 undef ≠ a0.tmps.getD y.1 undef)
    (hnew : ∀ x ∈ ptrs, ∀ i, x.2 = some i → ∀ w v, (sp.getD i (Sx.any κ)).ok w v → ∃ r, v = .pointer (some ⟨r, 0, none⟩) ∧ r < w.heap.size)
    (hstep : ∀ i o, l[i]? = some o → (∀ s ∈ sts, s.op ≠ i) → ∀ (a : Act) (w : World), Below B w0 w → inv.ok w undef → (∀ k, k ∈ kept → a.tmps[k]? = a0.tmps[k]?) → (∀ j, (preds o).contains j = true → (sp.getD j (Sx.any κ)).ok w (slotOf l.toArray a j)) → (∀ s ∈ sts, (ancs l 4 [s.op]).contains i = true → s.O w) →
      if Region.wanted o (yielded l.toArray a.tmps) then o.wp P a w (fun a' w' => ∃ v, a' = a.put o.dst v ∧ Below w.heap.size w w' ∧ (sp.getD i (Sx.any κ)).ok w' v ∧ ((∃ x ∈ ptrs, x.2 = some i) → v = .pointer (some ⟨w.heap.size, 0, none⟩) ∧ ∀ s ∈ sts, s.F w' w.heap.size)) Q
      else (sp.getD i (Sx.any κ)).ok w undef ∧ ∀ x ∈ ptrs, x.2 ≠ some i)
    (hstore : ∀ s ∈ sts, ∀ o, l[s.op]? = some o → ∀ (a : Act) (w : World), Below B w0 w → inv.ok w undef → (∀ k, k ∈ kept → a.tmps[k]? = a0.tmps[k]?) → (∀ j, (preds o).contains j = true → (sp.getD j (Sx.any κ)).ok w (slotOf l.toArray a j)) → s.O w → (∀ i, (s.pt, some i) ∈ ptrs → ∃ r, a.tmps.getD s.pt undef = .pointer (some ⟨r, 0, none⟩) ∧ s.F w r) →
      o.wp P a w (fun a' w' => a' = a ∧ ∃ r v t, a.tmps.getD s.pt undef = .pointer (some ⟨r, 0, none⟩) ∧ B ≤ r ∧ κ.K t w r ∧ κ.Z w r ∧ PutAt r w w' ∧ κ.K t w' r ∧ s.H w' r v ∧ s.S.ok w v) Q)
    (hend : ∀ (a : Act) (w : World), Below B w0 w → a.defers = a0.defers → a.tmps.size = N → (∀ k, k ∈ kept → a.tmps[k]? = a0.tmps[k]?) → inv.ok w undef → (∀ i, i < l.length → (∀ s ∈ sts, s.op ≠ i) → (sp.getD i (Sx.any κ)).ok w (slotOf l.toArray a i)) →
      (∀ s ∈ sts, ∃ r v, a.tmps.getD s.pt undef = .pointer (some ⟨r, 0, none⟩) ∧ s.H w r v ∧ s.S.ok w v) →
      (∀ x ∈ ptrs, ∀ y ∈ ptrs, x.1 ≠ y.1 → a.tmps.getD x.1 undef ≠ a.tmps.getD y.1 undef) → Q .normal a w) :
    (Code.region id l.toArray d).wp P Q a0 w0 := by
  cases d with
  | false => exact wp_region_text N kept hg (fx_any κ N B kept sp inv ptrs sts hg hB hN hi0 hBw hstA hsame hOx hO0 hold hdis hnew hstep hstore hend)
  | true =>
    have hD : ∀ {B' : Nat}, Below B' w0 w0.drew := fun {B'} => (Below.refl B' w0).drew
    refine wp_region_any hm ?_
    refine fx_any κ (w0 := w0.drew) N B kept sp inv ptrs sts hg hB hN (inv.mono _ _ _ hi0 hD) hBw hstA hsame hOx (fun s hs => s.om _ _ (hO0 s hs) hD) hold hdis hnew ?_ ?_ ?_
    · exact fun i o ho hn a w hb hi => hstep i o ho hn a w (hD.trans hb) hi
    · exact fun s hs o ho a w hb hi => hstore s hs o ho a w (hD.trans hb) hi
    · exact fun a w hb => hend a w (hD.trans hb)

end Go.Proofs.YtdkenobgfgmepaaDoor

namespace Go.Proofs.YtdkenobgfgmepaaDoor
open Go Go.RowKit

theorem fx2 (κ : Kinds) {P : Program} {Q : Exit → Act → World → Prop} {l : List Oper} {a0 : Act} {w0 : World} {id : Nat} (d : Bool) (hm : P.follows .mixedOrders = true) (n N B : Nat) (kept : List Nat) (sp : List (Sx κ)) (inv : Sx κ) (ptrs : List (Nat × Option Nat)) (sts : List (St κ)) (hn : l.length = n)
    (hg : fitF N 0 kept l = true) (hB : fxB l kept ptrs (sts.map fun s => (s.op, s.pt)) = true) (hN : a0.tmps.size = N) (hi0 : inv.ok w0 undef) (hBw : B ≤ w0.heap.size)
    (hstA : ∀ s ∈ sts, ∀ w v, (sp.getD s.op (Sx.any κ)).ok w v) (hsame : ∀ s ∈ sts, ∀ s' ∈ sts, s.op = s'.op → s = s')
    (hOx : ∀ s ∈ sts, (∀ w, s.O w) ∨ (s.pt ∈ kept ∧ (s.pt, none) ∈ ptrs ∧ a0.tmps.getD s.pt undef = .pointer (some ⟨s.ob, 0, none⟩))) (hO0 : ∀ s ∈ sts, s.O w0)
    (hold : ∀ x ∈ ptrs, x.2 = none → ∃ r, a0.tmps.getD x.1 undef = .pointer (some ⟨r, 0, none⟩) ∧ r < w0.heap.size)
    (hdis : ∀ x ∈ ptrs, ∀ y ∈ ptrs, x.2 = none → y.2 = none → x.1 ≠ y.1 → a0.tmps.getD x.1 undef ≠ a0.tmps.getD y.1 undef)
    (hnew : ∀ x ∈ ptrs, ∀ i, x.2 = some i → ∀ w v, (sp.getD i (Sx.any κ)).ok w v → ∃ r, v = .pointer (some ⟨r, 0, none⟩) ∧ r < w.heap.size)
    (hstep : ∀ i, i < n → (∀ s ∈ sts, s.op ≠ i) → ∀ (a : Act) (w : World), Below B w0 w → inv.ok w undef → (∀ k, k ∈ kept → a.tmps[k]? = a0.tmps[k]?) → (∀ j, (preds (l.getD i default)).contains j = true → (sp.getD j (Sx.any κ)).ok w (slotOf l.toArray a j)) → (∀ s ∈ sts, (ancs l 4 [s.op]).contains i = true → s.O w) →
      if Region.wanted (l.getD i default) (yielded l.toArray a.tmps) then (l.getD i default).wp P a w (fun a' w' => ∃ v, a' = a.put (l.getD i default).dst v ∧ Below w.heap.size w w' ∧ (sp.getD i (Sx.any κ)).ok w' v ∧ ((∃ x ∈ ptrs, x.2 = some i) → v = .pointer (some ⟨w.heap.size, 0, none⟩) ∧ ∀ s ∈ sts, s.F w' w.heap.size)) Q
      else (sp.getD i (Sx.any κ)).ok w undef ∧ ∀ x ∈ ptrs, x.2 ≠ some i)
    (hstore : ∀ s ∈ sts, ∀ (a : Act) (w : World), Below B w0 w → inv.ok w undef → (∀ k, k ∈ kept → a.tmps[k]? = a0.tmps[k]?) → (∀ j, (preds (l.getD s.op default)).contains j = true → (sp.getD j (Sx.any κ)).ok w (slotOf l.toArray a j)) → s.O w → (∀ i, (s.pt, some i) ∈ ptrs → ∃ r, a.tmps.getD s.pt undef = .pointer (some ⟨r, 0, none⟩) ∧ s.F w r) →
      (l.getD s.op default).wp P a w (fun a' w' => a' = a ∧ ∃ r v t, a.tmps.getD s.pt undef = .pointer (some ⟨r, 0, none⟩) ∧ B ≤ r ∧ κ.K t w r ∧ κ.Z w r ∧ PutAt r w w' ∧ κ.K t w' r ∧ s.H w' r v ∧ s.S.ok w v) Q)
    (hend : ∀ (a : Act) (w : World), Below B w0 w → a.defers = a0.defers → a.tmps.size = N → (∀ k, k ∈ kept → a.tmps[k]? = a0.tmps[k]?) → inv.ok w undef → (∀ i, i < n → (∀ s ∈ sts, s.op ≠ i) → (sp.getD i (Sx.any κ)).ok w (slotOf l.toArray a i)) →
      (∀ s ∈ sts, ∃ r v, a.tmps.getD s.pt undef = .pointer (some ⟨r, 0, none⟩) ∧ s.H w r v ∧ s.S.ok w v) →
      (∀ x ∈ ptrs, ∀ y ∈ ptrs, x.1 ≠ y.1 → a.tmps.getD x.1 undef ≠ a.tmps.getD y.1 undef) → Q .normal a w) :
    (Code.region id l.toArray d).wp P Q a0 w0 := by
  subst hn
  have hgd : ∀ (i : Nat) (o : Oper), l[i]? = some o → l.getD i default = o := fun i o ho => by simp [List.getD_eq_getElem?_getD, ho]
  refine fx_reg κ d hm N B kept sp inv ptrs sts hg hB hN hi0 hBw hstA hsame hOx hO0 hold hdis hnew ?_ ?_ hend
  · intro i o ho hs a w hb hi hk hp
    have h := hstep i (List.getElem?_eq_some_iff.1 ho).1 hs a w hb hi hk
    rw [hgd i o ho] at h
    exact h hp
  · intro s hs o ho a w hb hi hk hp
    have h := hstore s hs a w hb hi hk
    rw [hgd s.op o ho] at h
    exact h hp

end Go.Proofs.YtdkenobgfgmepaaDoor

namespace Go.Proofs.YtdkenobgfgmepaaDoor
open Go Go.RowKit

theorem then_ret {K : Act → World → Prop} {Q : Exit → Act → World → Prop} {a : Act} {w : World} (h : Q .ret a w) : Exit.then K Q .ret a w := h
theorem inBlock_ret {i : Nat} {Q : Exit → Act → World → Prop} {a : Act} {w : World} (h : Q .ret a w) : Exit.inBlock i Q .ret a w := h
theorem act0_size {xs : Array Value} {n m : Nat} (hm : n = m) (h : xs.size ≤ m) : (xs ++ Array.replicate (n - xs.size) undef).size = m := by subst hm; simp; omega
theorem act0_get {xs : Array Value} {n k : Nat} {v : Value} (h : xs[k]? = some v) : (xs ++ Array.replicate (n - xs.size) undef)[k]? = some v := by
  have hk : k < xs.size := (Array.getElem?_eq_some_iff.1 h).1
  rw [Array.getElem?_append_left hk]
  exact h
theorem getD_of {a : Act} {k : Nat} {v : Value} (h : a.tmps[k]? = some v) : a.tmps.getD k undef = v := by simp [Array.getD_eq_getD_getElem?, h]
theorem eval_of {a : Act} {k : Nat} {v : Value} (h : a.tmps[k]? = some v) : a.eval (.tmp k) = v := by simp [Act.eval, h]
section
variable {Q : Exit → Act → World → Prop} {a : Act} {w : World} {ty : TypeId} {pos : String} {af : Array Edge} {gd : Option (Nat × Bool)} {dst : Option Tmp} {K : Act → World → Prop}
theorem op_extractA {s i : Nat} {p q v : Value} (hs : a.tmps.getD s undef = .tuple #[p, q]) (hi : (#[p, q] : Array Value)[i]? = some v) (h : K (a.put dst v) w) : Oper.wp Tryd.prog ⟨dst, .extract (.tmp s) i, ty, pos, af, gd⟩ a w K Q := by
  have hs' : a.eval (.tmp s) = .tuple #[p, q] := hs
  unfold Oper.wp
  simp only [execOp, hs']
  simp [go_sem, hi, Oper.upon]
  exact h
theorem op_binS {s : Nat} {y : Operand} {m n : ByteArray} (p : a.tmps.getD s undef = .string m) (q : a.eval y = .string n) (hl : m.size + n.size ≤ 100000) (h : K (a.put dst (.string (m ++ n))) w) : Oper.wp Tryd.prog ⟨dst, .binOp .add 9 (.tmp s) y 9, ty, pos, af, gd⟩ a w K Q := by
  have he : a.eval (.tmp s) = .string m := p
  unfold Oper.wp
  simp only [execOp, he, q]
  go_simp
  rw [if_neg (by omega)]
  exact h
end

theorem res_t {W : World} {fn : Func} {a : Act} {s : Nat} {u : Value} (hf : fn.results = #[.tmp s]) (hs : a.tmps[s]? = some u) : (results fn a.tmps).run Tryd.prog W = .ok u W := by
  simp [results, hf, hs, go_sem]

end Go.Proofs.YtdkenobgfgmepaaDoor

namespace Go.Proofs.YtdkenobgfgmepaaDoor
open Go Go.RowKit

theorem fa1 {α : Type} {P : α → Prop} {x : α} (h : P x) : ∀ s ∈ [x], P s := fun s hs => by cases List.mem_singleton.1 hs; exact h
theorem fac {α : Type} {P : α → Prop} {x : α} {l : List α} (h : P x) (k : ∀ s ∈ l, P s) : ∀ s ∈ x :: l, P s := fun s hs => by
  rcases List.mem_cons.1 hs with rfl | hs
  · exact h
  · exact k s hs
theorem nq {n m : Nat} (h : Nat.beq n m = false) : n ≠ m := Nat.ne_of_beq_eq_false h
theorem fan {α : Type} {P : α → Prop} : ∀ s ∈ ([] : List α), P s := fun _ h => absurd h List.not_mem_nil
/-- What is said besides of an operation that makes a box. -/
def Fin {κ : Kinds} (ptrs : List (Nat × Option Nat)) (sts : List (St κ)) (i : Nat) (w w' : World) (v : Value) : Prop := (∃ x ∈ ptrs, x.2 = some i) → v = .pointer (some ⟨w.heap.size, 0, none⟩) ∧ ∀ s ∈ sts, s.F w' w.heap.size
theorem fin0 {κ : Kinds} {ptrs : List (Nat × Option Nat)} {sts : List (St κ)} {i : Nat} {w w' : World} {v : Value} (h : (ptrs.all fun x => x.2 != some i) = true) : Fin ptrs sts i w w' v := fun ⟨x, hx, e⟩ => by
  have := List.all_eq_true.1 h x hx
  simp [e] at this
theorem gf {κ : Kinds} {ptrs : List (Nat × Option Nat)} {sts : List (St κ)} {i : Nat} {w : World} (h : (ptrs.all fun x => x.2 != some i) = true) : ∀ w' v, Fin ptrs sts i w w' v := fun _ _ => fin0 h
theorem gt : ∀ (_ : World) (_ : Value), True := fun _ _ => trivial
theorem tv_get {κ : Kinds} {S : Sx κ} {a : Act} {w : World} {k : Nat} (h : S.ok w (a.tmps.getD k undef)) (hk : k < a.tmps.size) : ∃ v, a.tmps[k]? = some v ∧ S.ok w v := ⟨_, tmp_get hk rfl, h⟩

section
variable {κ : Kinds} {Q : Exit → Act → World → Prop} {a : Act} {w : World} {ty : TypeId} {pos : String} {af : Array Edge} {gd : Option (Nat × Bool)} {dst : Option Tmp} {Y : Prop} {ops : Array Oper} {S : Sx κ} {G : World → Value → Prop}
/-- What a step must show. -/
def Arm (Q : Exit → Act → World → Prop) (ops : Array Oper) (o : Oper) (a : Act) (w : World) (S : Sx κ) (G : World → Value → Prop) (Y : Prop) : Prop :=
  if Region.wanted o (yielded ops a.tmps) then o.wp Tryd.prog a w (fun a' w' => ∃ v, a' = a.put o.dst v ∧ Below w.heap.size w w' ∧ S.ok w' v ∧ G w' v) Q else Y
theorem arm {o : Oper} (hw : Region.wanted o (yielded ops a.tmps) = true) (h : o.wp Tryd.prog a w (fun a' w' => ∃ v, a' = a.put o.dst v ∧ Below w.heap.size w w' ∧ S.ok w' v ∧ G w' v) Q) : Arm Q ops o a w S G Y := st_want hw h

set_option maxRecDepth 100000 in
theorem s_move {s : Nat} (p : S.ok w (a.tmps.getD s undef)) (hg : ∀ w' v, G w' v) (hw : Region.wanted ⟨dst, .move (.tmp s), ty, pos, af, gd⟩ (yielded ops a.tmps) = true := by exact wanted_none rfl) :
    Arm Q ops ⟨dst, .move (.tmp s), ty, pos, af, gd⟩ a w S G Y := arm hw (op_move ⟨_, rfl, Below.refl _ _, p, hg _ _⟩)
set_option maxRecDepth 100000 in
theorem s_assign {s : Nat} (p : S.ok w (a.tmps.getD s undef)) (hg : ∀ w' v, G w' v) (hw : Region.wanted ⟨dst, .assign (.tmp s), ty, pos, af, gd⟩ (yielded ops a.tmps) = true := by exact wanted_none rfl) :
    Arm Q ops ⟨dst, .assign (.tmp s), ty, pos, af, gd⟩ a w S G Y := arm hw (op_assign ⟨_, rfl, Below.refl _ _, p, hg _ _⟩)
set_option maxRecDepth 100000 in
theorem s_kmove {s : Nat} {u : Value} (k : a.tmps[s]? = some u) (p : S.ok w u) (hg : ∀ w' v, G w' v) (hw : Region.wanted ⟨dst, .move (.tmp s), ty, pos, af, gd⟩ (yielded ops a.tmps) = true := by exact wanted_none rfl) :
    Arm Q ops ⟨dst, .move (.tmp s), ty, pos, af, gd⟩ a w S G Y := s_move (S := S) (by rw [getD_of k]; exact p) hg hw
set_option maxRecDepth 100000 in
theorem s_kassign {s : Nat} {u : Value} (k : a.tmps[s]? = some u) (p : S.ok w u) (hg : ∀ w' v, G w' v) (hw : Region.wanted ⟨dst, .assign (.tmp s), ty, pos, af, gd⟩ (yielded ops a.tmps) = true := by exact wanted_none rfl) :
    Arm Q ops ⟨dst, .assign (.tmp s), ty, pos, af, gd⟩ a w S G Y := s_assign (S := S) (by rw [getD_of k]; exact p) hg hw
set_option maxRecDepth 100000 in
theorem s_cmove {u : Value} (p : S.ok w u) (hg : ∀ w' v, G w' v) (hw : Region.wanted ⟨dst, .move (.const u), ty, pos, af, gd⟩ (yielded ops a.tmps) = true := by exact wanted_none rfl) :
    Arm Q ops ⟨dst, .move (.const u), ty, pos, af, gd⟩ a w S G Y := arm hw (op_move ⟨_, rfl, Below.refl _ _, p, hg _ _⟩)
set_option maxRecDepth 100000 in
theorem s_cassign {u : Value} (p : S.ok w u) (hg : ∀ w' v, G w' v) (hw : Region.wanted ⟨dst, .assign (.const u), ty, pos, af, gd⟩ (yielded ops a.tmps) = true := by exact wanted_none rfl) :
    Arm Q ops ⟨dst, .assign (.const u), ty, pos, af, gd⟩ a w S G Y := arm hw (op_assign ⟨_, rfl, Below.refl _ _, p, hg _ _⟩)
set_option maxRecDepth 100000 in
theorem s_load {s : Nat} {t : TypeId} {q : Option Addr} {v : Value} (k : a.tmps[s]? = some (.pointer q)) (hr : (Instr.loadAt t (.pointer q)).run Tryd.prog w = .ok v w) (p : S.ok w v) (hg : ∀ w' v, G w' v) (hw : Region.wanted ⟨dst, .load t (.tmp s), ty, pos, af, gd⟩ (yielded ops a.tmps) = true := by exact wanted_none rfl) :
    Arm Q ops ⟨dst, .load t (.tmp s), ty, pos, af, gd⟩ a w S G Y := arm hw (op_load (a := a) (eval_of k) hr ⟨_, rfl, Below.refl _ _, p, hg _ _⟩)
set_option maxRecDepth 100000 in
theorem s_loadP {s : Nat} {t : TypeId} {q : Option Addr} {v : Value} (k : a.tmps.getD s undef = .pointer q) (hr : (Instr.loadAt t (.pointer q)).run Tryd.prog w = .ok v w) (p : S.ok w v) (hg : ∀ w' v, G w' v) (hw : Region.wanted ⟨dst, .load t (.tmp s), ty, pos, af, gd⟩ (yielded ops a.tmps) = true := by exact wanted_none rfl) :
    Arm Q ops ⟨dst, .load t (.tmp s), ty, pos, af, gd⟩ a w S G Y := arm hw (op_load (a := a) k hr ⟨_, rfl, Below.refl _ _, p, hg _ _⟩)
set_option maxRecDepth 100000 in
theorem s_field {s n : Nat} {t : TypeId} {q q2 : Option Addr} (k : a.tmps[s]? = some (.pointer q)) (hr : (Instr.fieldAt t (.pointer q) n).run Tryd.prog w = .ok (.pointer q2) w) (p : S.ok w (.pointer q2)) (hg : ∀ w' v, G w' v) (hw : Region.wanted ⟨dst, .fieldAddr t (.tmp s) n, ty, pos, af, gd⟩ (yielded ops a.tmps) = true := by exact wanted_none rfl) :
    Arm Q ops ⟨dst, .fieldAddr t (.tmp s) n, ty, pos, af, gd⟩ a w S G Y := arm hw (op_fieldAddr (eval_of k) hr ⟨_, rfl, Below.refl _ _, p, hg _ _⟩)
set_option maxRecDepth 100000 in
theorem s_ext0 {s : Nat} {S2 : Sx κ} (p : ∃ x y, a.tmps.getD s undef = .tuple #[x, y] ∧ S.ok w x ∧ S2.ok w y) (hg : ∀ w' v, G w' v) (hw : Region.wanted ⟨dst, .extract (.tmp s) 0, ty, pos, af, gd⟩ (yielded ops a.tmps) = true := by exact wanted_none rfl) :
    Arm Q ops ⟨dst, .extract (.tmp s) 0, ty, pos, af, gd⟩ a w S G Y := by
  obtain ⟨x, y, e, h1, h2⟩ := p
  exact arm hw (op_extractA (a := a) e rfl ⟨_, rfl, Below.refl _ _, h1, hg _ _⟩)
set_option maxRecDepth 100000 in
theorem s_ext1 {s : Nat} {S2 : Sx κ} (p : ∃ x y, a.tmps.getD s undef = .tuple #[x, y] ∧ S2.ok w x ∧ S.ok w y) (hg : ∀ w' v, G w' v) (hw : Region.wanted ⟨dst, .extract (.tmp s) 1, ty, pos, af, gd⟩ (yielded ops a.tmps) = true := by exact wanted_none rfl) :
    Arm Q ops ⟨dst, .extract (.tmp s) 1, ty, pos, af, gd⟩ a w S G Y := by
  obtain ⟨x, y, e, h1, h2⟩ := p
  exact arm hw (op_extractA (a := a) e rfl ⟨_, rfl, Below.refl _ _, h2, hg _ _⟩)
set_option maxRecDepth 100000 in
theorem s_call1 {f : FuncId} {s : Nat} {tys : Array TypeId} (hf : Enters Tryd.prog f) (hc : Calls Tryd.prog f #[a.tmps.getD s undef] w fun e w' => ∃ r, e = .returned r ∧ Below w.heap.size w w' ∧ S.ok w' r) (hg : ∀ w' v, G w' v) (hw : Region.wanted ⟨dst, .call ⟨.value (.func f), #[.tmp s], tys⟩, ty, pos, af, gd⟩ (yielded ops a.tmps) = true := by exact wanted_none rfl) :
    Arm Q ops ⟨dst, .call ⟨.value (.func f), #[.tmp s], tys⟩, ty, pos, af, gd⟩ a w S G Y := by
  refine arm hw (op_call hf ?_)
  rw [args1]
  refine Calls.mono hc ?_
  rintro e w9 ⟨r, rfl, hb9, h9⟩
  exact ⟨_, rfl, _, rfl, hb9, h9, hg _ _⟩
set_option maxRecDepth 100000 in
theorem s_call2 {f : FuncId} {s t : Nat} {tys : Array TypeId} (hf : Enters Tryd.prog f) (hc : Calls Tryd.prog f #[a.tmps.getD s undef, a.tmps.getD t undef] w fun e w' => ∃ r, e = .returned r ∧ Below w.heap.size w w' ∧ S.ok w' r) (hg : ∀ w' v, G w' v) (hw : Region.wanted ⟨dst, .call ⟨.value (.func f), #[.tmp s, .tmp t], tys⟩, ty, pos, af, gd⟩ (yielded ops a.tmps) = true := by exact wanted_none rfl) :
    Arm Q ops ⟨dst, .call ⟨.value (.func f), #[.tmp s, .tmp t], tys⟩, ty, pos, af, gd⟩ a w S G Y := by
  refine arm hw (op_call hf ?_)
  rw [args2]
  refine Calls.mono hc ?_
  rintro e w9 ⟨r, rfl, hb9, h9⟩
  exact ⟨_, rfl, _, rfl, hb9, h9, hg _ _⟩
set_option maxRecDepth 100000 in
theorem s_callC {f : FuncId} {u : Value} {tys : Array TypeId} (hf : Enters Tryd.prog f) (hc : Calls Tryd.prog f #[u] w fun e w' => ∃ r, e = .returned r ∧ Below w.heap.size w w' ∧ S.ok w' r) (hg : ∀ w' v, G w' v) (hw : Region.wanted ⟨dst, .call ⟨.value (.func f), #[.const u], tys⟩, ty, pos, af, gd⟩ (yielded ops a.tmps) = true := by exact wanted_none rfl) :
    Arm Q ops ⟨dst, .call ⟨.value (.func f), #[.const u], tys⟩, ty, pos, af, gd⟩ a w S G Y := by
  refine arm hw (op_call hf ?_)
  rw [show (#[Operand.const u]).map a.eval = #[u] by simp only [List.map_toArray, List.map_cons, List.map_nil, Act.eval]]
  refine Calls.mono hc ?_
  rintro e w9 ⟨r, rfl, hb9, h9⟩
  exact ⟨_, rfl, _, rfl, hb9, h9, hg _ _⟩
set_option maxRecDepth 100000 in
theorem s_call0 {f : FuncId} {tys : Array TypeId} (hf : Enters Tryd.prog f) (hc : Calls Tryd.prog f #[] w fun e w' => ∃ r, e = .returned r ∧ Below w.heap.size w w' ∧ S.ok w' r) (hg : ∀ w' v, G w' v) (hw : Region.wanted ⟨dst, .call ⟨.value (.func f), #[], tys⟩, ty, pos, af, gd⟩ (yielded ops a.tmps) = true := by exact wanted_none rfl) :
    Arm Q ops ⟨dst, .call ⟨.value (.func f), #[], tys⟩, ty, pos, af, gd⟩ a w S G Y := by
  refine arm hw (op_call hf ?_)
  rw [show (#[] : Array Operand).map a.eval = #[] by simp only [List.map_toArray, List.map_nil]]
  refine Calls.mono hc ?_
  rintro e w9 ⟨r, rfl, hb9, h9⟩
  exact ⟨_, rfl, _, rfl, hb9, h9, hg _ _⟩
set_option maxRecDepth 100000 in
theorem s_not {s : Nat} {b : Bool} (p : a.tmps.getD s undef = .bool b) (q : S.ok w (.bool (!b))) (hg : ∀ w' v, G w' v) (hw : Region.wanted ⟨dst, .unOp .not 4 (.tmp s), ty, pos, af, gd⟩ (yielded ops a.tmps) = true := by exact wanted_none rfl) :
    Arm Q ops ⟨dst, .unOp .not 4 (.tmp s), ty, pos, af, gd⟩ a w S G Y := by
  have he : a.eval (.tmp s) = .bool b := p
  refine arm hw ?_
  unfold Oper.wp
  simp only [execOp, he]
  go_simp
  exact ⟨_, rfl, Below.refl _ _, q, hg _ _⟩
set_option maxRecDepth 100000 in
theorem s_neg {s : Nat} {n : Int} (p : a.tmps.getD s undef = .int .i64 n) (hn : -9223372036854775807 ≤ n ∧ n ≤ 9223372036854775807) (q : S.ok w (.int .i64 (-n))) (hg : ∀ w' v, G w' v) (hw : Region.wanted ⟨dst, .unOp .neg 3 (.tmp s), ty, pos, af, gd⟩ (yielded ops a.tmps) = true := by exact wanted_none rfl) :
    Arm Q ops ⟨dst, .unOp .neg 3 (.tmp s), ty, pos, af, gd⟩ a w S G Y := by
  have he : a.eval (.tmp s) = .int .i64 n := p
  have hm : IntKind.i64.wrap (-n) = -n := by simp only [IntKind.wrap_i64]; omega
  refine arm hw ?_
  unfold Oper.wp
  simp only [execOp, he]
  go_simp
  try rw [hm]
  exact ⟨_, rfl, Below.refl _ _, q, hg _ _⟩
set_option maxRecDepth 100000 in
theorem s_eql {s : Nat} {y : Operand} {m n : Int} (p : a.tmps.getD s undef = .int .i64 m) (q : a.eval y = .int .i64 n) (h : S.ok w (.bool (m == n))) (hg : ∀ w' v, G w' v) (hw : Region.wanted ⟨dst, .binOp .eql 3 (.tmp s) y 3, ty, pos, af, gd⟩ (yielded ops a.tmps) = true := by exact wanted_none rfl) :
    Arm Q ops ⟨dst, .binOp .eql 3 (.tmp s) y 3, ty, pos, af, gd⟩ a w S G Y := by
  have he : a.eval (.tmp s) = .int .i64 m := p
  refine arm hw ?_
  unfold Oper.wp
  simp only [execOp, he, q]
  go_simp
  exact ⟨_, rfl, Below.refl _ _, h, hg _ _⟩
set_option maxRecDepth 100000 in
theorem s_neq {s : Nat} {y : Operand} {m n : Int} (p : a.tmps.getD s undef = .int .i64 m) (q : a.eval y = .int .i64 n) (h : S.ok w (.bool (m != n))) (hg : ∀ w' v, G w' v) (hw : Region.wanted ⟨dst, .binOp .neq 3 (.tmp s) y 3, ty, pos, af, gd⟩ (yielded ops a.tmps) = true := by exact wanted_none rfl) :
    Arm Q ops ⟨dst, .binOp .neq 3 (.tmp s) y 3, ty, pos, af, gd⟩ a w S G Y := by
  have he : a.eval (.tmp s) = .int .i64 m := p
  refine arm hw ?_
  unfold Oper.wp
  simp only [execOp, he, q]
  go_simp
  exact ⟨_, rfl, Below.refl _ _, h, hg _ _⟩
set_option maxRecDepth 100000 in
theorem s_lss {s : Nat} {y : Operand} {m n : Int} (p : a.tmps.getD s undef = .int .i64 m) (q : a.eval y = .int .i64 n) (h : S.ok w (.bool (decide (m < n)))) (hg : ∀ w' v, G w' v) (hw : Region.wanted ⟨dst, .binOp .lss 3 (.tmp s) y 3, ty, pos, af, gd⟩ (yielded ops a.tmps) = true := by exact wanted_none rfl) :
    Arm Q ops ⟨dst, .binOp .lss 3 (.tmp s) y 3, ty, pos, af, gd⟩ a w S G Y := by
  have he : a.eval (.tmp s) = .int .i64 m := p
  refine arm hw ?_
  unfold Oper.wp
  simp only [execOp, he, q]
  go_simp
  exact ⟨_, rfl, Below.refl _ _, h, hg _ _⟩
set_option maxRecDepth 100000 in
theorem s_leq {s : Nat} {y : Operand} {m n : Int} (p : a.tmps.getD s undef = .int .i64 m) (q : a.eval y = .int .i64 n) (h : S.ok w (.bool (decide (m ≤ n)))) (hg : ∀ w' v, G w' v) (hw : Region.wanted ⟨dst, .binOp .leq 3 (.tmp s) y 3, ty, pos, af, gd⟩ (yielded ops a.tmps) = true := by exact wanted_none rfl) :
    Arm Q ops ⟨dst, .binOp .leq 3 (.tmp s) y 3, ty, pos, af, gd⟩ a w S G Y := by
  have he : a.eval (.tmp s) = .int .i64 m := p
  refine arm hw ?_
  unfold Oper.wp
  simp only [execOp, he, q]
  go_simp
  exact ⟨_, rfl, Below.refl _ _, h, hg _ _⟩
set_option maxRecDepth 100000 in
theorem s_gtr {s : Nat} {y : Operand} {m n : Int} (p : a.tmps.getD s undef = .int .i64 m) (q : a.eval y = .int .i64 n) (h : S.ok w (.bool (decide (n < m)))) (hg : ∀ w' v, G w' v) (hw : Region.wanted ⟨dst, .binOp .gtr 3 (.tmp s) y 3, ty, pos, af, gd⟩ (yielded ops a.tmps) = true := by exact wanted_none rfl) :
    Arm Q ops ⟨dst, .binOp .gtr 3 (.tmp s) y 3, ty, pos, af, gd⟩ a w S G Y := by
  have he : a.eval (.tmp s) = .int .i64 m := p
  refine arm hw ?_
  unfold Oper.wp
  simp only [execOp, he, q]
  go_simp
  exact ⟨_, rfl, Below.refl _ _, h, hg _ _⟩
set_option maxRecDepth 100000 in
theorem s_geq {s : Nat} {y : Operand} {m n : Int} (p : a.tmps.getD s undef = .int .i64 m) (q : a.eval y = .int .i64 n) (h : S.ok w (.bool (decide (n ≤ m)))) (hg : ∀ w' v, G w' v) (hw : Region.wanted ⟨dst, .binOp .geq 3 (.tmp s) y 3, ty, pos, af, gd⟩ (yielded ops a.tmps) = true := by exact wanted_none rfl) :
    Arm Q ops ⟨dst, .binOp .geq 3 (.tmp s) y 3, ty, pos, af, gd⟩ a w S G Y := by
  have he : a.eval (.tmp s) = .int .i64 m := p
  refine arm hw ?_
  unfold Oper.wp
  simp only [execOp, he, q]
  go_simp
  exact ⟨_, rfl, Below.refl _ _, h, hg _ _⟩
set_option maxRecDepth 100000 in
theorem s_eqS {s : Nat} {y : Operand} {m n : ByteArray} (p : a.tmps.getD s undef = .string m) (q : a.eval y = .string n) (h : S.ok w (.bool (m.toList == n.toList))) (hg : ∀ w' v, G w' v) (hw : Region.wanted ⟨dst, .binOp .eql 9 (.tmp s) y 9, ty, pos, af, gd⟩ (yielded ops a.tmps) = true := by exact wanted_none rfl) :
    Arm Q ops ⟨dst, .binOp .eql 9 (.tmp s) y 9, ty, pos, af, gd⟩ a w S G Y := by
  have he : a.eval (.tmp s) = .string m := p
  refine arm hw ?_
  unfold Oper.wp
  simp only [execOp, he, q]
  go_simp
  exact ⟨_, rfl, Below.refl _ _, h, hg _ _⟩
set_option maxRecDepth 100000 in
theorem s_neS {s : Nat} {y : Operand} {m n : ByteArray} (p : a.tmps.getD s undef = .string m) (q : a.eval y = .string n) (h : S.ok w (.bool (!(m.toList == n.toList)))) (hg : ∀ w' v, G w' v) (hw : Region.wanted ⟨dst, .binOp .neq 9 (.tmp s) y 9, ty, pos, af, gd⟩ (yielded ops a.tmps) = true := by exact wanted_none rfl) :
    Arm Q ops ⟨dst, .binOp .neq 9 (.tmp s) y 9, ty, pos, af, gd⟩ a w S G Y := by
  have he : a.eval (.tmp s) = .string m := p
  refine arm hw ?_
  unfold Oper.wp
  simp only [execOp, he, q]
  go_simp
  exact ⟨_, rfl, Below.refl _ _, h, hg _ _⟩
set_option maxRecDepth 100000 in
theorem s_neB {s t : Nat} {m n : Bool} (p : a.tmps.getD s undef = .bool m) (q : a.tmps.getD t undef = .bool n) (h : S.ok w (.bool (m != n))) (hg : ∀ w' v, G w' v) (hw : Region.wanted ⟨dst, .binOp .neq 4 (.tmp s) (.tmp t) 4, ty, pos, af, gd⟩ (yielded ops a.tmps) = true := by exact wanted_none rfl) :
    Arm Q ops ⟨dst, .binOp .neq 4 (.tmp s) (.tmp t) 4, ty, pos, af, gd⟩ a w S G Y := by
  have he : a.eval (.tmp s) = .bool m := p
  have hf : a.eval (.tmp t) = .bool n := q
  refine arm hw ?_
  unfold Oper.wp
  simp only [execOp, he, hf]
  cases m <;> cases n <;> go_simp <;> exact ⟨_, rfl, Below.refl _ _, h, hg _ _⟩
set_option maxRecDepth 100000 in
theorem s_cat {s : Nat} {y : Operand} {m n : ByteArray} (p : a.tmps.getD s undef = .string m) (q : a.eval y = .string n) (hl : m.size + n.size ≤ 100000) (h : S.ok w (.string (m ++ n))) (hg : ∀ w' v, G w' v) (hw : Region.wanted ⟨dst, .binOp .add 9 (.tmp s) y 9, ty, pos, af, gd⟩ (yielded ops a.tmps) = true := by exact wanted_none rfl) :
    Arm Q ops ⟨dst, .binOp .add 9 (.tmp s) y 9, ty, pos, af, gd⟩ a w S G Y := arm hw (op_binS (a := a) p q hl ⟨_, rfl, Below.refl _ _, h, hg _ _⟩)
set_option maxRecDepth 100000 in
theorem s_pickT {c : Nat} {x y : Operand} (p : a.tmps.getD c undef = .bool true) (q : S.ok w (a.eval x)) (hg : ∀ w' v, G w' v) (hw : Region.wanted ⟨dst, .pick (.tmp c) x y, ty, pos, af, gd⟩ (yielded ops a.tmps) = true := by exact wanted_none rfl) :
    Arm Q ops ⟨dst, .pick (.tmp c) x y, ty, pos, af, gd⟩ a w S G Y := arm hw (op_pick (a := a) (c := .tmp c) p ⟨_, rfl, Below.refl _ _, q, hg _ _⟩)
set_option maxRecDepth 100000 in
theorem s_pickF {c : Nat} {x y : Operand} (p : a.tmps.getD c undef = .bool false) (q : S.ok w (a.eval y)) (hg : ∀ w' v, G w' v) (hw : Region.wanted ⟨dst, .pick (.tmp c) x y, ty, pos, af, gd⟩ (yielded ops a.tmps) = true := by exact wanted_none rfl) :
    Arm Q ops ⟨dst, .pick (.tmp c) x y, ty, pos, af, gd⟩ a w S G Y := arm hw (op_pick (a := a) (c := .tmp c) p ⟨_, rfl, Below.refl _ _, q, hg _ _⟩)
/-- What is said where a condition holds. -/
def Ximp (c : Prop) (S : Sx κ) : Sx κ := ⟨fun w v => c → S.ok w v, fun _ _ _ h hb hc => S.mono _ _ _ (h hc) hb, fun _ _ _ _ _ h k z p k' hc => S.put _ _ _ _ _ (h hc) k z p k'⟩
theorem arm_imp {c : Prop} {o : Oper} (h : Arm Q ops o a w S G False) : Arm Q ops o a w (Ximp c S) G Y := by
  unfold Arm at h ⊢
  split at h <;> rename_i hw
  · rw [if_pos hw]
    refine Oper.wp_mono ?_ h
    rintro a' w' ⟨v, h1, h2, h3, h4⟩
    exact ⟨v, h1, h2, fun _ => h3, h4⟩
  · exact h.elim
set_option maxRecDepth 100000 in
theorem s_pickO {c y : Nat} {b b2 : Bool} (p : a.tmps.getD c undef = .bool b) (q : b = false → a.tmps.getD y undef = .bool b2) (h : S.ok w (.bool (b || b2))) (hg : ∀ w' v, G w' v) (hw : Region.wanted ⟨dst, .pick (.tmp c) (.const (.bool true)) (.tmp y), ty, pos, af, gd⟩ (yielded ops a.tmps) = true := by exact wanted_none rfl) :
    Arm Q ops ⟨dst, .pick (.tmp c) (.const (.bool true)) (.tmp y), ty, pos, af, gd⟩ a w S G Y := by
  cases b with
  | true => exact s_pickT p h hg hw
  | false => exact s_pickF p (by rw [show a.eval (.tmp y) = .bool b2 from q rfl]; exact h) hg hw
theorem unw {o : Oper} (hw : Region.wanted o (yielded ops a.tmps) = false) (h : Y) : Arm Q ops o a w S G Y := st_unwant hw h
end
theorem calls_act {fn : Func} {f : FuncId} {c : Code} {xs : Array Value} {w : World} {R : Ending → World → Prop} {N : Nat} (hf : Tryd.prog.funcs[f]? = some fn) (hb : fn.body = some c) (hN : fn.ntmps = N) (hx : xs.size ≤ N)
    (h : ∀ a0 : Act, a0.tmps.size = N → a0.defers = [] → (∀ (k : Nat) (v : Value), xs[k]? = some v → a0.tmps[k]? = some v) → c.wp Tryd.prog (bodyPost Tryd.prog fn R) a0 w) : Calls Tryd.prog f xs w R :=
  calls_of_wp hf hb (h _ (act0_size hN hx) rfl fun _ _ e => act0_get e)
end Go.Proofs.YtdkenobgfgmepaaDoor
