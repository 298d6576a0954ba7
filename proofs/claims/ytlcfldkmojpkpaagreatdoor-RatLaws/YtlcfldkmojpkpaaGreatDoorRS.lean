/- strconv.FormatUint of numbers of three digits and more. -/
import Derived.Orders
import Derived.Below
import Derived.Test.YtlcfldkmojpkpaaGreatDoorL0
import Derived.Test.YtlcfldkmojpkpaaGreatDoorK1
import Derived.Tactics
import Derived.OrdersIn
import Derived.RangeFuncCalls
import Derived.Test.YtlcfldkmojpkpaaGreatDoorSh
import Derived.Test.YtlcfldkmojpkpaaGreatDoorO3
import Derived.Lib.Walk
import Derived.Lib.ItoaMem
import Derived.Lib.AppendIntMem
import Derived.BigCall
import Derived.BigGuard
import Derived.CellFam
import Derived.Test.YtlcfldkmojpkpaaGreatDoorG
import Derived.Lib.ItoaNum
import Derived.Test.YtlcfldkmojpkpaaGreatDoorS1
import Derived.RangeFuncBox
import Derived.Lib.AppendStr

/- A region that draws its order, walked by a spec an operation: whatever order is picked, each operation finds what those that it waits for have left, and leaves what its own spec says. -/
namespace Go.Proofs.YtlcfldkmojpkpaaGreatDoor
open Go Go.RowKit

section
variable {P : Program} {ops : Array Oper} {Q : Exit → Act → World → Prop} {md : Region.Mode}

theorem filter_lt (p q : Nat → Bool) (hqp : ∀ j, q j = true → p j = true) (i : Nat) (hp : p i = true) (hq : q i = false) :
    ∀ l : List Nat, i ∈ l → (l.filter q).length < (l.filter p).length := by
  have hle : ∀ l : List Nat, (l.filter q).length ≤ (l.filter p).length := by
    intro l
    induction l with
    | nil => simp
    | cons x l ih =>
      simp only [List.filter_cons]
      cases hx : q x with
      | true => simp [hqp x hx, ih]
      | false =>
        cases p x with
        | true => simp; omega
        | false => simpa using ih
  intro l
  induction l with
  | nil => intro h; cases h
  | cons x l ih =>
    intro h
    rcases List.mem_cons.1 h with rfl | h
    · simp only [List.filter_cons, hp, hq]
      have := hle l
      simp
      omega
    · have := ih h
      simp only [List.filter_cons]
      cases hx : q x with
      | true => simp [hqp x hx, this]
      | false =>
        cases p x with
        | true => simp; omega
        | false => simpa using this

/-- How many have not come up. -/
def toCome (ops : Array Oper) (listed : Array Bool) : Nat := ((List.range ops.size).filter fun i => !listed.getD i true).length

theorem toCome_lt {listed : Array Bool} {i : Nat} (h : i ∈ Region.ready md ops listed) : toCome ops (listed.setIfInBounds i true) < toCome ops listed := by
  obtain ⟨h0, o, ho, _⟩ := mem_ready.1 h
  have hi : i < ops.size := (Array.getElem?_eq_some_iff.1 ho).1
  refine filter_lt _ _ ?_ i ?_ ?_ _ (List.mem_range.2 hi)
  · intro j hj
    by_cases e : i = j
    · subst e; simp [h0]
    · rw [getD_set_ne true e] at hj; exact hj
  · simp [h0]
  · by_cases hs : i < listed.size
    · simp [hs]
    · simp [Array.getElem?_eq_none (Nat.le_of_not_lt hs)] at h0

theorem ready_nil_of_toCome {listed : Array Bool} (h : toCome ops listed = 0) : Region.ready md ops listed = [] := by
  apply List.eq_nil_iff_forall_not_mem.2
  intro i hi
  have := toCome_lt hi
  omega

/-- An invariant that each operation hands on, in whatever order. -/
theorem wpAny_inv (I : Array Bool → Act → World → Prop)
    (hstep : ∀ listed a w i, I listed a w → i ∈ Region.ready md ops listed → wpOp P ops Q i (fun a' w' => I (listed.setIfInBounds i true) a' w') a w)
    (hend : ∀ listed a w, I listed a w → Region.ready md ops listed = [] → Q .normal a w) :
    ∀ fuel listed a w, toCome ops listed ≤ fuel → I listed a w → wpAny P md ops Q fuel listed a w := by
  intro fuel
  induction fuel with
  | zero => intro listed a w h hI; exact ⟨ready_nil_of_toCome (by omega), hend _ _ _ hI (ready_nil_of_toCome (by omega))⟩
  | succ fuel ih =>
    intro listed a w h hI
    refine ⟨fun hr => hend _ _ _ hI hr, fun i hi => wpOp_mono (fun a' w' h' => ih _ a' w' ?_ h') (hstep _ _ _ _ hI hi)⟩
    have := toCome_lt hi
    omega

/-- The slot that operation i writes. -/
def slotOf (ops : Array Oper) (a : Act) (i : Nat) : Value := a.tmps.getD (((ops[i]?).bind (·.dst)).getD 0) undef

/-- Each operation waits only for such as stand ahead of it, and writes a slot of its own, below N; 'ds': the slots that those ahead of it write. -/
def goodFrom (N : Nat) : Nat → List Nat → List Oper → Bool
  | _, _, [] => true
  | i, ds, o :: l => (o.after.toList.all fun e => decide (e.on < i)) && (match o.dst with | some d => !ds.contains d && decide (d < N) && goodFrom N (i + 1) (d :: ds) l | none => false)

theorem goodFrom_spec {N : Nat} : ∀ (l : List Oper) (i : Nat) (ds : List Nat), goodFrom N i ds l = true →
    ∀ j o, l[j]? = some o → (∀ e ∈ o.after, e.on < i + j) ∧ ∃ d : Nat, o.dst = some d ∧ d ∉ ds ∧ d < N ∧ ∀ k o', k < j → l[k]? = some o' → ∃ d' : Nat, o'.dst = some d' ∧ d' ≠ d
  | [], _, _, _, j, o, h => by simp at h
  | x :: l, i, ds, hg, j, o, h => by
    simp only [goodFrom, Bool.and_eq_true] at hg
    obtain ⟨hon, hd⟩ := hg
    cases hx : x.dst with
    | none => simp [hx] at hd
    | some d =>
      simp only [hx, Bool.and_eq_true, decide_eq_true_eq] at hd
      obtain ⟨⟨hB, hN⟩, hr⟩ := hd
      have hB' : d ∉ ds := by simpa using hB
      cases j with
      | zero =>
        simp at h
        subst h
        refine ⟨fun e he => ?_, d, hx, hB', hN, fun k _ hk => absurd hk (by omega)⟩
        have := List.all_eq_true.1 hon e (by simpa using he)
        simpa using this
      | succ j =>
        have h' : l[j]? = some o := by simpa using h
        obtain ⟨h1, d2, h2, h3, h4, h5⟩ := goodFrom_spec l (i + 1) (d :: ds) hr j o h'
        refine ⟨fun e he => by have := h1 e he; omega, d2, h2, fun hm => h3 (List.mem_cons_of_mem _ hm), h4, fun k o' hk ho' => ?_⟩
        cases k with
        | zero => simp at ho'; subst ho'; exact ⟨d, hx, fun e => h3 (e ▸ List.mem_cons_self)⟩
        | succ k => exact h5 k o' (by omega) (by simpa using ho')

theorem slot_put_same {a : Act} {i : Nat} {o : Oper} {d : Nat} {v : Value} (ho : ops[i]? = some o) (hd : o.dst = some d) (hlt : d < a.tmps.size) :
    slotOf ops (a.put o.dst v) i = v := by
  simp [slotOf, ho, hd, Act.put, hlt]

theorem slot_put_other {a : Act} {i : Nat} {o' : Oper} {d d' : Nat} {v : Value} (ho' : ops[i]? = some o') (hd' : o'.dst = some d') (hne : d ≠ d') :
    slotOf ops (a.put (some d) v) i = slotOf ops a i := by
  simp [slotOf, ho', hd', Act.put, Array.getElem?_setIfInBounds_ne hne]

/-- Those that an operation waits for, whatever the order. -/
def preds (o : Oper) : List Nat := (o.after.toList.filter (Region.binds .any)).map (·.on)
theorem preds_spec {o : Oper} {j : Nat} (h : (preds o).contains j = true) : ∃ e, (e ∈ o.after ∧ Region.binds .any e = true) ∧ e.on = j := by
  have h1 : j ∈ preds o := by simpa using h
  obtain ⟨e, he, rfl⟩ := List.mem_map.1 h1
  obtain ⟨h2, h3⟩ := List.mem_filter.1 he
  exact ⟨e, ⟨by simpa using h2, h3⟩, rfl⟩

/-- **A region that draws, by a spec an operation.** 'kept': slots that the region does not write. -/
theorem region_specs {id : Nat} {l : List Oper} {a0 : Act} {w0 : World} (N : Nat) (kept : List Nat) (Φ : Nat → World → Value → Prop)
    (hm : P.follows .mixedOrders = true) (hg : goodFrom N 0 kept l = true) (hN : a0.tmps.size = N)
    (hmono : ∀ i w w' v, Φ i w v → Below w.heap.size w w' → Φ i w' v)
    (hstep : ∀ i o, l[i]? = some o → ∀ (a : Act) (w : World), Below w0.heap.size w0 w → a.defers = a0.defers → a.tmps.size = N → (∀ k, k ∈ kept → a.tmps[k]? = a0.tmps[k]?) →
      (∀ j, (preds o).contains j = true → Φ j w (slotOf l.toArray a j)) →
      if Region.wanted o (yielded l.toArray a.tmps) then o.wp P a w (fun a' w' => ∃ v, a' = a.put o.dst v ∧ Below w.heap.size w w' ∧ Φ i w' v) Q else Φ i w undef)
    (hend : ∀ (a : Act) (w : World), Below w0.heap.size w0 w → a.defers = a0.defers → a.tmps.size = N → (∀ k, k ∈ kept → a.tmps[k]? = a0.tmps[k]?) → (∀ i, i < l.length → Φ i w (slotOf l.toArray a i)) → Q .normal a w) :
    (Code.region id l.toArray true).wp P Q a0 w0 := by
  refine wp_region_any hm ?_
  let I : Array Bool → Act → World → Prop := fun listed a w => listed.size = l.length ∧ Below w0.heap.size w0 w ∧ a.defers = a0.defers ∧ a.tmps.size = N ∧ (∀ k, k ∈ kept → a.tmps[k]? = a0.tmps[k]?) ∧
    ∀ i, listed.getD i false = true → Φ i w (slotOf l.toArray a i)
  have hspec := goodFrom_spec l 0 kept hg
  refine wpAny_inv (md := .any) I ?_ ?_ _ _ _ _ ?_ ?_
  · rintro listed a w i ⟨hsz, hb, hdf, hn, hbase, hΦ⟩ hr
    obtain ⟨h0, o, ho, hpre⟩ := mem_ready.1 hr
    have hol : l[i]? = some o := by simpa using ho
    obtain ⟨hon, d, hd, hBd, hdN, hbefore⟩ := hspec i o hol
    have hilt : i < l.length := (List.getElem?_eq_some_iff.1 hol).1
    have hs := hstep i o hol a w hb hdf hn hbase (fun j hj => by
      obtain ⟨e, he, rfl⟩ := preds_spec hj
      exact hΦ _ (hpre e he.1 he.2))
    have keep : ∀ w' v, Below w.heap.size w w' → Φ i w' v → I (listed.setIfInBounds i true) (a.put o.dst v) w' := by
      intro w' v hb' hv
      refine ⟨by simpa using hsz, hb.trans (hb'.mono hb.size), ?_, ?_, ?_, ?_⟩
      · rw [hd]; exact hdf
      · rw [hd]; simpa [Act.put] using hn
      · intro k hk
        rw [hd]
        simp only [Act.put]
        rw [Array.getElem?_setIfInBounds_ne (fun (e : d = k) => hBd (e.symm ▸ hk))]
        exact hbase k hk
      · intro j hj
        by_cases e : i = j
        · subst e
          rw [slot_put_same ho hd (by omega)]
          exact hv
        · rw [getD_set_ne false e] at hj
          have hj' := hmono _ _ _ _ (hΦ j hj) hb'
          have hjlt : j < l.length := by
            rcases Nat.lt_or_ge j listed.size with h | h
            · omega
            · simp [Array.getElem?_eq_none h] at hj
          have hoj : l[j]? = some l[j] := List.getElem?_eq_getElem hjlt
          have hoj' : l.toArray[j]? = some l[j] := by simp [hjlt]
          obtain ⟨_, d', hd', _, _, hbef'⟩ := hspec j _ hoj
          have hne : d ≠ d' := by
            rcases Nat.lt_or_gt_of_ne e with h | h
            · obtain ⟨d2, h2, h3⟩ := hbef' i o h hol
              rw [hd] at h2
              have h4 : d = d2 := Option.some.inj h2
              omega
            · obtain ⟨d2, h2, h3⟩ := hbefore j _ h hoj
              rw [hd'] at h2
              have h4 : d' = d2 := Option.some.inj h2
              omega
          rw [hd, slot_put_other hoj' hd' hne]
          exact hj'
    unfold wpOp
    simp only [ho]
    split
    · rename_i hw
      simp only [hw, if_true] at hs
      refine .inl (Oper.wp_mono ?_ hs)
      rintro a' w' ⟨v, rfl, hb', hv⟩
      exact keep w' v hb' hv
    · rename_i hw
      simp only [hw] at hs
      exact keep w undef (Below.refl _ _) hs
  · rintro listed a w ⟨hsz, hb, hdf, hn, hbase, hΦ⟩ hr
    refine hend a w hb hdf hn hbase ?_
    have : ∀ i, i < l.length → listed.getD i false = true := by
      intro i
      induction i using Nat.strongRecOn with
      | ind i ih =>
        intro hi
        cases hl : listed.getD i true with
        | true =>
          have : i < listed.size := by omega
          simpa [this] using hl
        | false =>
          exfalso
          have hoi : l[i]? = some l[i] := List.getElem?_eq_getElem hi
          have : i ∈ Region.ready .any l.toArray listed := by
            refine mem_ready.2 ⟨hl, l[i], by simp [hi], fun e he _ => ?_⟩
            obtain ⟨hon, _⟩ := hspec i _ hoi
            have := hon e he
            exact ih e.on (by omega) (by omega)
          rw [hr] at this
          cases this
    intro i hi
    exact hΦ i (this i hi)
  · unfold toCome
    exact Nat.le_trans (List.length_filter_le _ _) (by simp)
  · refine ⟨by simp, ⟨rfl, rfl, rfl, Nat.le_refl _, fun _ _ => rfl⟩, rfl, hN, fun _ _ => rfl, ?_⟩
    intro i hi
    exfalso
    rcases Nat.lt_or_ge i l.length with h | h
    · simp [h] at hi
    · simp [h] at hi

/-! ### The operations, one by one -/
section
variable {o : Oper} {a : Act} {w : World} {K : Act → World → Prop} {dst : Option Tmp} {ty : TypeId} {pos : String} {af : Array Edge} {gd : Option (Nat × Bool)}

theorem wanted_none (h : o.guard = none) : Region.wanted o (yielded ops a.tmps) = true := by simp [Region.wanted, h]
theorem yielded_slot {g : Nat} {b : Bool} (hs : slotOf ops a g = .bool b) (hd : ((ops[g]?).bind (·.dst)).isSome = true) : yielded ops a.tmps g = some b := by
  obtain ⟨d, hd⟩ := Option.isSome_iff_exists.1 hd
  unfold slotOf at hs
  rw [hd] at hs
  unfold yielded
  rw [hd]
  simp only [Option.getD_some, Option.bind_some] at *
  cases h : a.tmps[d]? with
  | none => simp [h, undef] at hs
  | some v => simp [h] at hs; rw [hs]
theorem wanted_slot {g : Nat} {b : Bool} (h : o.guard = some (g, b)) (hs : slotOf ops a g = .bool b) (hd : ((ops[g]?).bind (·.dst)).isSome = true) : Region.wanted o (yielded ops a.tmps) = true := by
  simp [Region.wanted, h, yielded_slot hs hd]
theorem unwanted_slot {g : Nat} {b c : Bool} (h : o.guard = some (g, b)) (hs : slotOf ops a g = .bool c) (hne : c ≠ b) (hd : ((ops[g]?).bind (·.dst)).isSome = true) : Region.wanted o (yielded ops a.tmps) = false := by
  simp [Region.wanted, h, yielded_slot hs hd, hne]

theorem op_move {x : Operand} (h : K (a.put dst (a.eval x)) w) : Oper.wp P ⟨dst, .move x, ty, pos, af, gd⟩ a w K Q := h
theorem op_assign {x : Operand} (h : K (a.put dst (a.eval x)) w) : Oper.wp P ⟨dst, .assign x, ty, pos, af, gd⟩ a w K Q := h
theorem op_pick {c x y : Operand} {b : Bool} (hc : a.eval c = .bool b) (h : K (a.put dst (if b then a.eval x else a.eval y)) w) : Oper.wp P ⟨dst, .pick c x y, ty, pos, af, gd⟩ a w K Q := by
  unfold Oper.wp
  simp only [execOp, hc]
  exact h
theorem op_load {t : TypeId} {x : Operand} {p v : Value} (hx : a.eval x = p) (hr : (Instr.loadAt t p).run P w = .ok v w) (h : K (a.put dst v) w) : Oper.wp P ⟨dst, .load t x, ty, pos, af, gd⟩ a w K Q := by
  unfold Oper.wp
  simp [execOp, hx, hr, Oper.upon, h]
end

end
end Go.Proofs.YtlcfldkmojpkpaaGreatDoor

/- The operations of a region over numbers, one by one: what each leaves in its slot. -/
namespace Go.Proofs.YtlcfldkmojpkpaaGreatDoor
open Go Go.RowKit

/-- All regions of a code. -/
def regionsOf : Code → List (Nat × List Oper)
  | .region id ops _ => [(id, ops.toList)]
  | .seq a b => regionsOf a ++ regionsOf b
  | .cond _ a b => regionsOf a ++ regionsOf b
  | .block _ c => regionsOf c
  | .loop c => regionsOf c
  | .scope c => regionsOf c
  | .rangeFunc _ _ a b => regionsOf a ++ regionsOf b
  | _ => []
def regionOf (f : Func) (k : Nat) : List Oper := ((f.body.map regionsOf).getD []).findSome? (fun p => if p.1 == k then some p.2 else none) |>.getD []

section
variable {Q : Exit → Act → World → Prop} {a a0 : Act} {w w0 : World} {dst : Option Tmp} {ty : TypeId} {pos : String} {af : Array Edge} {gd : Option (Nat × Bool)}

/-- A call of this function enters it. -/
structure Enters (P : Program) (f : FuncId) : Prop where
  run : ∀ (xs : Array Value) (w : World), (callFunc f xs).run P w = .ok (.enter f xs) w
theorem op_call {P : Program} {K : Act → World → Prop} {f : FuncId} {args : Array Operand} {tys : Array TypeId}
    (hf : Enters P f)
    (hc : Calls P f (args.map a.eval) w fun e w' => ∃ v, e = .returned v ∧ K (a.put dst v) w') :
    Oper.wp P ⟨dst, .call ⟨.value (.func f), args, tys⟩, ty, pos, af, gd⟩ a w K Q := by
  unfold Oper.wp
  simp [go_sem]
  rw [hf.run]
  refine Calls.mono hc ?_
  rintro e w' ⟨v, rfl, h⟩
  exact h
theorem load_bx {r : Nat} {v : Value} (h : Bx w r v) : (Instr.loadAt 26 (.pointer (some ⟨r, 0, none⟩))).run Tryz.prog w = .ok v w := by
  obtain ⟨n, s, l, c, rfl, h2⟩ := id h
  obtain ⟨k0, k1, f0, f1⟩ := h.facts
  go_simp

theorem args2 {s t : Nat} : (#[Operand.tmp s, .tmp t]).map a.eval = #[a.tmps.getD s undef, a.tmps.getD t undef] := by simp only [List.map_toArray, List.map_cons, List.map_nil, Act.eval]
theorem args1 {s : Nat} : (#[Operand.tmp s]).map a.eval = #[a.tmps.getD s undef] := by simp only [List.map_toArray, List.map_cons, List.map_nil, Act.eval]
theorem enter_Add : Enters Tryz.prog 30 := ⟨fun xs w => by go_simp⟩
theorem enter_Sub : Enters Tryz.prog 46 := ⟨fun xs w => by go_simp⟩
theorem enter_Mul : Enters Tryz.prog 50 := ⟨fun xs w => by go_simp⟩
theorem enter_Neg : Enters Tryz.prog 37 := ⟨fun xs w => by go_simp⟩
theorem enter_Cmp : Enters Tryz.prog 52 := ⟨fun xs w => by go_simp⟩
theorem enter_Sign : Enters Tryz.prog 27 := ⟨fun xs w => by go_simp⟩
theorem enter_Gcd : Enters Tryz.prog 48 := ⟨fun xs w => by go_simp⟩

variable {tys : Array TypeId} {s t : Nat} {y z : Int} {j k : Nat}
theorem le4 {z : Int} {k : Nat} (h : (z.natAbs : Int) < pw k) (hk : k ≤ 4000) : (z.natAbs : Int) < pw 4000 := Int.lt_of_lt_of_le h (pw_mono hk)
/-- An operation that is wanted. -/
theorem st_want {P : Program} {ops : Array Oper} {o : Oper} {X : Act → World → Prop} {Y : Prop} (hw : Region.wanted o (yielded ops a.tmps) = true) (h : o.wp P a w X Q) : if Region.wanted o (yielded ops a.tmps) then o.wp P a w X Q else Y := by
  rw [if_pos hw]; exact h
theorem st_unwant {P : Program} {ops : Array Oper} {o : Oper} {X : Act → World → Prop} {Y : Prop} (hw : Region.wanted o (yielded ops a.tmps) = false) (h : Y) : if Region.wanted o (yielded ops a.tmps) then o.wp P a w X Q else Y := by
  rw [if_neg (by simp [hw])]; exact h
end

theorem add_lt2 {y z : Int} {a b : Nat} (h : (y.natAbs : Int) < pw a) (k : (z.natAbs : Int) < pw b) : ((y + z).natAbs : Int) < pw (max a b + 1) := by
  have h1 : pw (max a b + 1) = 1000000000 * pw (max a b) := rfl
  have h2 := Int.lt_of_lt_of_le h (pw_mono (Nat.le_max_left a b))
  have h3 := Int.lt_of_lt_of_le k (pw_mono (Nat.le_max_right a b))
  omega
theorem sub_lt2 {y z : Int} {a b : Nat} (h : (y.natAbs : Int) < pw a) (k : (z.natAbs : Int) < pw b) : ((y - z).natAbs : Int) < pw (max a b + 1) := by
  have h1 : pw (max a b + 1) = 1000000000 * pw (max a b) := rfl
  have h2 := Int.lt_of_lt_of_le h (pw_mono (Nat.le_max_left a b))
  have h3 := Int.lt_of_lt_of_le k (pw_mono (Nat.le_max_right a b))
  omega
theorem gcd_lt2 {y z : Int} {a b : Nat} (h : (y.natAbs : Int) < pw a) (k : (z.natAbs : Int) < pw b) : (((Int.gcd y z : Int)).natAbs : Int) < pw (max a b) :=
  gcd_pw (Int.lt_of_lt_of_le h (pw_mono (Nat.le_max_left a b))) (Int.lt_of_lt_of_le k (pw_mono (Nat.le_max_right a b)))

end Go.Proofs.YtlcfldkmojpkpaaGreatDoor

/- A region that draws its order, walked by pure specs of its slots and an invariant on the world by stages; and the same within a round of a loop over an iterator. -/
namespace Go.Proofs.YtlcfldkmojpkpaaGreatDoor
open Go Go.RowKit

section
variable {P : Program} {Q : Exit → Act → World → Prop}

/-- Each operation waits only for such as stand ahead of it, and writes, if any, a slot of its own, below N. -/
def fitFrom (N : Nat) : Nat → List Nat → List Oper → Bool
  | _, _, [] => true
  | i, ds, o :: l => (o.after.toList.all fun e => decide (e.on < i)) && (match o.dst with | some d => !ds.contains d && decide (d < N) && fitFrom N (i + 1) (d :: ds) l | none => fitFrom N (i + 1) ds l)

theorem fitFrom_spec {N : Nat} : ∀ (l : List Oper) (i : Nat) (ds : List Nat), fitFrom N i ds l = true →
    ∀ j o, l[j]? = some o → (∀ e ∈ o.after, e.on < i + j) ∧ ∀ d : Nat, o.dst = some d → d ∉ ds ∧ d < N ∧ ∀ k o', k < j → l[k]? = some o' → o'.dst ≠ some d
  | [], _, _, _, j, o, h => by simp at h
  | x :: l, i, ds, hg, j, o, h => by
    simp only [fitFrom, Bool.and_eq_true] at hg
    obtain ⟨hon, hd⟩ := hg
    cases hx : x.dst with
    | none =>
      simp only [hx] at hd
      cases j with
      | zero =>
        simp at h
        subst h
        refine ⟨fun e he => ?_, fun d hd' => by rw [hx] at hd'; cases hd'⟩
        have := List.all_eq_true.1 hon e (by simpa using he)
        simpa using this
      | succ j =>
        have h' : l[j]? = some o := by simpa using h
        obtain ⟨h1, h2⟩ := fitFrom_spec l (i + 1) ds hd j o h'
        refine ⟨fun e he => by have := h1 e he; omega, fun d hd' => ?_⟩
        obtain ⟨h3, h4, h5⟩ := h2 d hd'
        refine ⟨h3, h4, fun k o' hk ho' => ?_⟩
        cases k with
        | zero => simp at ho'; subst ho'; rw [hx]; simp
        | succ k => exact h5 k o' (by omega) (by simpa using ho')
    | some d0 =>
      simp only [hx, Bool.and_eq_true, decide_eq_true_eq] at hd
      obtain ⟨⟨hB, hN⟩, hr⟩ := hd
      have hB' : d0 ∉ ds := by simpa using hB
      cases j with
      | zero =>
        simp at h
        subst h
        refine ⟨fun e he => ?_, fun d hd' => ?_⟩
        · have := List.all_eq_true.1 hon e (by simpa using he)
          simpa using this
        · rw [hx] at hd'
          have e0 : d0 = d := Option.some.inj hd'
          subst e0
          exact ⟨hB', hN, fun k _ hk => absurd hk (by omega)⟩
      | succ j =>
        have h' : l[j]? = some o := by simpa using h
        obtain ⟨h1, h2⟩ := fitFrom_spec l (i + 1) (d0 :: ds) hr j o h'
        refine ⟨fun e he => by have := h1 e he; omega, fun d hd' => ?_⟩
        obtain ⟨h3, h4, h5⟩ := h2 d hd'
        refine ⟨fun hm => h3 (List.mem_cons_of_mem _ hm), h4, fun k o' hk ho' => ?_⟩
        cases k with
        | zero =>
          simp at ho'; subst ho'; rw [hx]
          intro e
          have e0 : d0 = d := Option.some.inj e
          exact h3 (e0 ▸ List.mem_cons_self)
        | succ k => exact h5 k o' (by omega) (by simpa using ho')

/-- Whatever order is picked: specs of the slots, and an invariant of what has come up, the frame and the world. -/
theorem steps_any {l : List Oper} {a0 : Act} {w0 : World} (N : Nat) (kept : List Nat) (Φ : Nat → Value → Prop) (J : Array Bool → Act → World → Prop)
    (hg : fitFrom N 0 kept l = true) (hN : a0.tmps.size = N) (h0 : J (Array.replicate l.length false) a0 w0)
    (hstep : ∀ i o, l[i]? = some o → ∀ (listed : Array Bool) (a : Act) (w : World), listed.size = l.length → listed.getD i true = false →
      (∀ j o', l[j]? = some o' → listed.getD j false = true → ∀ k, (preds o').contains k = true → listed.getD k false = true) →
      a.defers = a0.defers → a.tmps.size = N → (∀ k, k ∈ kept → a.tmps[k]? = a0.tmps[k]?) →
      (∀ j, (preds o).contains j = true → listed.getD j false = true ∧ Φ j (slotOf l.toArray a j)) → J listed a w →
      if Region.wanted o (yielded l.toArray a.tmps) then o.wp P a w (fun a' w' => ∃ v, a' = a.put o.dst v ∧ (o.dst.isSome = true → Φ i v) ∧ J (listed.setIfInBounds i true) a' w') Q
      else (o.dst.isSome = true → Φ i undef) ∧ J (listed.setIfInBounds i true) (a.put o.dst undef) w)
    (hsome : ∀ i o, l[i]? = some o → o.dst = none → ∀ v, Φ i v)
    (hend : ∀ (listed : Array Bool) (a : Act) (w : World), listed.size = l.length → (∀ i, i < l.length → listed.getD i false = true) → a.defers = a0.defers → a.tmps.size = N → (∀ k, k ∈ kept → a.tmps[k]? = a0.tmps[k]?) → (∀ i, i < l.length → Φ i (slotOf l.toArray a i)) → J listed a w → Q .normal a w) :
    wpAny P .any l.toArray Q l.toArray.size (Array.replicate l.toArray.size false) a0 w0 := by
  let I : Array Bool → Act → World → Prop := fun listed a w => listed.size = l.length ∧ (∀ j o', l[j]? = some o' → listed.getD j false = true → ∀ k, (preds o').contains k = true → listed.getD k false = true) ∧
    a.defers = a0.defers ∧ a.tmps.size = N ∧ (∀ k, k ∈ kept → a.tmps[k]? = a0.tmps[k]?) ∧ (∀ i, listed.getD i false = true → Φ i (slotOf l.toArray a i)) ∧ J listed a w
  have hspec := fitFrom_spec l 0 kept hg
  refine wpAny_inv (md := .any) I ?_ ?_ _ _ _ _ ?_ ?_
  · rintro listed a w i ⟨hsz, hdown, hdf, hn, hbase, hΦ, hJ⟩ hr
    obtain ⟨hun, o, ho, hpre⟩ := mem_ready.1 hr
    have hol : l[i]? = some o := by simpa using ho
    have hilt : i < l.length := (List.getElem?_eq_some_iff.1 hol).1
    have hpre' : ∀ j, (preds o).contains j = true → listed.getD j false = true := fun j hj => by
      obtain ⟨e, he, rfl⟩ := preds_spec hj
      exact hpre e he.1 he.2
    have hs := hstep i o hol listed a w hsz hun hdown hdf hn hbase (fun j hj => ⟨hpre' j hj, hΦ j (hpre' j hj)⟩) hJ
    have hdown' : ∀ j o', l[j]? = some o' → (listed.setIfInBounds i true).getD j false = true → ∀ k, (preds o').contains k = true → (listed.setIfInBounds i true).getD k false = true := by
      intro j o' ho' hj k hk
      by_cases e : i = j
      · subst e
        rw [hol] at ho'
        cases ho'
        exact getD_set_true (hpre' k hk)
      · rw [getD_set_ne false e] at hj
        exact getD_set_true (hdown j o' ho' hj k hk)
    have keep : ∀ w' v, (o.dst.isSome = true → Φ i v) → J (listed.setIfInBounds i true) (a.put o.dst v) w' → I (listed.setIfInBounds i true) (a.put o.dst v) w' := by
      intro w' v hv hJ'
      refine ⟨by simpa using hsz, hdown', ?_, ?_, ?_, ?_, hJ'⟩
      · cases hd : o.dst <;> simpa [Act.put] using hdf
      · cases hd : o.dst <;> simpa [Act.put] using hn
      · intro k hk
        cases hd : o.dst with
        | none => exact hbase k hk
        | some d =>
          simp only [Act.put]
          rw [Array.getElem?_setIfInBounds_ne (fun (e : d = k) => ((hspec i o hol).2 d hd).1 (e.symm ▸ hk))]
          exact hbase k hk
      · intro j hj
        by_cases e : i = j
        · subst e
          cases hd : o.dst with
          | none => exact hsome i o hol hd _
          | some d =>
            rw [← hd, slot_put_same ho hd (by have := ((hspec i o hol).2 d hd).2.1; omega)]
            exact hv (by simp [hd])
        · rw [getD_set_ne false e] at hj
          have hj' := hΦ j hj
          have hjlt : j < l.length := by
            rcases Nat.lt_or_ge j listed.size with h | h
            · omega
            · simp [Array.getElem?_eq_none h] at hj
          have hoj : l[j]? = some l[j] := List.getElem?_eq_getElem hjlt
          have hoj' : l.toArray[j]? = some l[j] := by simp [hjlt]
          cases hd : o.dst with
          | none => exact hj'
          | some d =>
            cases hd' : (l[j]).dst with
            | none => exact hsome j _ hoj hd' _
            | some d' =>
              have hne : d ≠ d' := by
                intro ee
                subst ee
                rcases Nat.lt_or_gt_of_ne e with h | h
                · exact ((hspec j _ hoj).2 d hd').2.2 i o h hol hd
                · exact ((hspec i _ hol).2 d hd).2.2 j _ h hoj hd'
              rw [slot_put_other hoj' hd' hne]
              exact hj'
    unfold wpOp
    simp only [ho]
    split
    · rename_i hw
      simp only [hw, if_true] at hs
      refine .inl (Oper.wp_mono ?_ hs)
      rintro a' w' ⟨v, rfl, hv, hJ'⟩
      exact keep w' v hv hJ'
    · rename_i hw
      simp only [hw] at hs
      exact keep w undef hs.1 hs.2
  · rintro listed a w ⟨hsz, hdown, hdf, hn, hbase, hΦ, hJ⟩ hr
    have hall : ∀ i, i < l.length → listed.getD i false = true := by
      intro i
      induction i using Nat.strongRecOn with
      | ind i ih =>
        intro hi
        cases hl : listed.getD i true with
        | true =>
          have : i < listed.size := by omega
          simpa [this] using hl
        | false =>
          exfalso
          have hoi : l[i]? = some l[i] := List.getElem?_eq_getElem hi
          have : i ∈ Region.ready .any l.toArray listed := by
            refine mem_ready.2 ⟨hl, l[i], by simp [hi], fun e he _ => ?_⟩
            have := (hspec i _ hoi).1 e he
            exact ih e.on (by omega) (by omega)
          rw [hr] at this
          cases this
    exact hend listed a w hsz hall hdf hn hbase (fun i hi => hΦ i (hall i hi)) hJ
  · unfold toCome
    exact Nat.le_trans (List.length_filter_le _ _) (by simp)
  · have hf : ∀ i, (Array.replicate l.toArray.size false).getD i false = true → False := by
      intro i hi
      rcases Nat.lt_or_ge i l.length with h | h
      · simp [h] at hi
      · simp [h] at hi
    exact ⟨by simp, fun j _ _ hj => (hf j hj).elim, rfl, hN, fun _ _ => rfl, fun i hi => (hf i hi).elim, by simpa using h0⟩

/-- Nothing but the normal end. -/
def only (R : Act → World → Prop) : Exit → Act → World → Prop
  | .normal, a, w => R a w
  | _, _, _ => False

theorem Oper.wpIn_round {o : Oper} {a : Act} {w : World} {K K' : Act → World → Prop} {R : Act → World → Prop} {lp n : Nat} (hd : ∀ c, o.op ≠ .defer c) (hk : ∀ a w, K a w → K' a w)
    (h : o.wp P a w K (only R)) : o.wpIn (Fence.wide.inRound lp) n P a w K' Q := by
  refine ⟨fun _ _ => trivial, ?_⟩
  rw [Oper.semAt_eq _ _ _ hd]
  unfold Oper.wp at h
  generalize (execOp a.eval o).run P w = r at *
  cases r with
  | ok x w' =>
    cases x <;> simp only [Oper.upon] at h <;> simp only [Oper.uponIn]
    case value v => exact hk _ _ h
    case skip => exact hk _ _ h
    case defer d => exact hk _ _ h
    case enter f args =>
      refine ⟨fun hh => by simp [Fence.inRound, Fence.wide] at hh, CallsIn.inRound lp (callsIn_wide.2 (Calls.mono h fun e w'' he => ?_))⟩
      cases e with
      | returned v => exact hk _ _ he
      | panicked c => exact he.elim
      | outgrown => obtain ⟨_, _, hh⟩ := he; exact hh.elim
    case row row args =>
      refine ⟨fun hh => by simp [Fence.inRound, Fence.wide] at hh, fun c cs _ => ?_⟩
      obtain ⟨v, w'', h1, h2⟩ := h c cs
      exact ⟨v, w'', hk _ _ h1, stepsIn_wide.2 h2⟩
  | halt x w' => cases x <;> simp only [Oper.upon] at h <;> exact h.elim

theorem wpAnyIn_round {ops : Array Oper} {R : Act → World → Prop} {lp n : Nat} (hd : ∀ (i : Nat) (o : Oper), ops[i]? = some o → ∀ c, o.op ≠ .defer c) (hq : ∀ a w, R a w → Q .normal a w) :
    ∀ fuel listed a w, wpAny P .any ops (only R) fuel listed a w → wpAnyIn (Fence.wide.inRound lp) n P .any ops Q fuel listed a w
  | 0, _, _, _, h => ⟨h.1, hq _ _ h.2⟩
  | fuel + 1, listed, a, w, h => by
    refine ⟨fun h0 => hq _ _ (h.1 h0), fun i hi => ?_⟩
    have h1 := h.2 i hi
    unfold wpOp at h1
    unfold wpOpIn
    split
    · rename_i ho; simp only [ho] at h1; exact wpAnyIn_round hd hq fuel _ _ _ h1
    · rename_i o ho
      simp only [ho] at h1
      split
      · rename_i hw
        simp only [hw, if_true] at h1
        rcases h1 with h1 | ⟨_, _, _, h1⟩
        · exact Oper.wpIn_round (hd i o ho) (fun a' w' h' => wpAnyIn_round hd hq fuel _ a' w' h') h1
        · exact h1.elim
      · rename_i hw
        simp only [hw] at h1
        exact ⟨fun _ _ => trivial, wpAnyIn_round hd hq fuel _ _ _ h1⟩

def noDefer : List Oper → Bool
  | [] => true
  | o :: l => (match o.op with | .defer _ => false | _ => true) && noDefer l
theorem noDefer_spec : ∀ (l : List Oper), noDefer l = true → ∀ (i : Nat) (o : Oper), l[i]? = some o → ∀ c, o.op ≠ .defer c
  | [], _, i, o, h => by simp at h
  | x :: l, hn, i, o, h => by
    simp only [noDefer, Bool.and_eq_true] at hn
    cases i with
    | zero => simp at h; subst h; intro c e; rw [e] at hn; simp at hn
    | succ i => exact noDefer_spec l hn.2 i o (by simpa using h)

/-- A region that draws, within a round. -/
theorem region_round {id : Nat} {l : List Oper} {a : Act} {w : World} {R : Act → World → Prop} {lp n : Nat} (hm : P.follows .mixedOrders = true) (hd : noDefer l = true) (hq : ∀ a w, R a w → Q .normal a w)
    (h : wpAny P .any l.toArray (only R) l.toArray.size (Array.replicate l.toArray.size false) a { w with drawn := w.drawn + 1 }) :
    (Code.region id l.toArray true).wpIn (Fence.wide.inRound lp) n P Q a w :=
  wpIn_region_any hm (wpAnyIn_round (fun i o ho => noDefer_spec l hd i o (by simpa using ho)) hq _ _ _ _ h)

end
end Go.Proofs.YtlcfldkmojpkpaaGreatDoor

/- A region 'x = f(.. x ..)' that draws its order: all operations but the last two run in one stage; the last but one makes the new value, the last one stores it. -/
namespace Go.Proofs.YtlcfldkmojpkpaaGreatDoor
open Go Go.RowKit

section
variable {P : Program} {Q : Exit → Act → World → Prop}

/-- Those that come ahead of some of a list, in so many steps. -/
def ancs (l : List Oper) : Nat → List Nat → List Nat
  | 0, s => s
  | k + 1, s => ancs l k (s ++ s.flatMap fun i => ((l[i]?).map preds).getD [])
theorem ancs_listed {l : List Oper} {listed : Array Bool} (hdown : ∀ j o', l[j]? = some o' → listed.getD j false = true → ∀ k, (preds o').contains k = true → listed.getD k false = true) :
    ∀ (k : Nat) (s : List Nat), (∀ i ∈ s, listed.getD i false = true) → ∀ i ∈ ancs l k s, listed.getD i false = true
  | 0, _, h => h
  | k + 1, s, h => ancs_listed hdown k _ (fun i hi => by
      rcases List.mem_append.1 hi with hi | hi
      · exact h i hi
      · obtain ⟨j, hj, hij⟩ := List.mem_flatMap.1 hi
        cases ho : l[j]? with
        | none => simp [ho] at hij
        | some o => simp [ho] at hij; exact hdown j o ho (h j hj) i (by simpa using hij))

/-- The region's form: every operation below c comes ahead of c, c ahead of the last one, c + 1; no guards. -/
def collB (l : List Oper) (c : Nat) : Bool :=
  decide (l.length = c + 2) && (l.all fun o => o.guard.isNone) && ((List.range c).all fun i => (ancs l c [c]).contains i) && ((l[c + 1]?).map fun o => (preds o).contains c && o.dst.isNone).getD false && ((l.take (c + 1)).all fun o => o.dst.isSome)

theorem coll_any {l : List Oper} {a0 : Act} {w0 : World} (c N : Nat) (kept : List Nat) (Φ : Nat → Value → Prop) (A : World → Prop) (B C : Value → World → Prop)
    (hg : fitFrom N 0 kept l = true) (hB : collB l c = true) (hN : a0.tmps.size = N) (h0 : A w0)
    (hpre : ∀ i, i < c → ∀ (a : Act) (w : World), (∀ k, k ∈ kept → a.tmps[k]? = a0.tmps[k]?) → (∀ j, (preds (l.getD i default)).contains j = true → Φ j (slotOf l.toArray a j)) → A w →
      (l.getD i default).wp P a w (fun a' w' => ∃ v, a' = a.put (l.getD i default).dst v ∧ Φ i v ∧ A w') Q)
    (hmake : ∀ (a : Act) (w : World), (∀ k, k ∈ kept → a.tmps[k]? = a0.tmps[k]?) → (∀ j, (preds (l.getD c default)).contains j = true → Φ j (slotOf l.toArray a j)) → A w →
      (l.getD c default).wp P a w (fun a' w' => ∃ v, a' = a.put (l.getD c default).dst v ∧ Φ c v ∧ B v w') Q)
    (hstore : ∀ (a : Act) (w : World), (∀ k, k ∈ kept → a.tmps[k]? = a0.tmps[k]?) → Φ c (slotOf l.toArray a c) → B (slotOf l.toArray a c) w →
      (l.getD (c + 1) default).wp P a w (fun a' w' => a' = a ∧ C (slotOf l.toArray a c) w') Q)
    (hend : ∀ (a : Act) (w : World), a.defers = a0.defers → a.tmps.size = N → (∀ k, k ∈ kept → a.tmps[k]? = a0.tmps[k]?) → (∀ i, i < c + 1 → Φ i (slotOf l.toArray a i)) → C (slotOf l.toArray a c) w → Q .normal a w) :
    wpAny P .any l.toArray Q l.toArray.size (Array.replicate l.toArray.size false) a0 w0 := by
  simp only [collB, Bool.and_eq_true, decide_eq_true_eq] at hB
  obtain ⟨⟨⟨⟨hlen, hguard⟩, hanc⟩, hlast⟩, hdst⟩ := hB
  have hg0 : ∀ (i : Nat) (o : Oper), l[i]? = some o → o.guard = none := fun i o ho => by
    have := List.all_eq_true.1 hguard o (List.mem_of_getElem? ho)
    simpa using this
  have hlast' : ∃ o, l[c + 1]? = some o ∧ (preds o).contains c = true ∧ o.dst = none := by
    cases h : l[c + 1]? with
    | none => simp [h] at hlast
    | some o => simp [h] at hlast; exact ⟨o, rfl, by simpa using hlast.1, hlast.2⟩
  obtain ⟨ol, hol, hpl, hdl⟩ := hlast'
  have hds : ∀ (i : Nat) (o : Oper), i < c + 1 → l[i]? = some o → ∃ d, o.dst = some d := fun i o hi ho => by
    have h1 : (l.take (c + 1))[i]? = some o := by rw [List.getElem?_take, if_pos hi]; exact ho
    have := List.all_eq_true.1 hdst o (List.mem_of_getElem? h1)
    exact Option.isSome_iff_exists.1 (by simpa using this)
  have hspec := fitFrom_spec l 0 kept hg
  have hgd : ∀ (i : Nat) (o : Oper), l[i]? = some o → l.getD i default = o := fun i o ho => by simp [List.getD_eq_getElem?_getD, ho]
  -- the slot of c behind the other operations
  have hslot : ∀ (i : Nat) (o : Oper) (a : Act) (v : Value), i ≠ c → l[i]? = some o → slotOf l.toArray (a.put o.dst v) c = slotOf l.toArray a c := fun i o a v hic ho => by
    have hcl : c < l.length := by omega
    have hoc : l[c]? = some l[c] := List.getElem?_eq_getElem hcl
    obtain ⟨dc, hdc⟩ := hds c _ (by omega) hoc
    cases hd : o.dst with
    | none => rfl
    | some d =>
      have hoc' : l.toArray[c]? = some l[c] := by simp [hcl]
      refine slot_put_other hoc' hdc ?_
      intro e
      subst e
      rcases Nat.lt_or_gt_of_ne hic with h | h
      · exact ((hspec c _ hoc).2 d hdc).2.2 i o h ho hd
      · exact ((hspec i _ ho).2 d hd).2.2 c _ h hoc hdc
  let J : Array Bool → Act → World → Prop := fun listed a w => if listed.getD (c + 1) false = true then C (slotOf l.toArray a c) w else if listed.getD c false = true then B (slotOf l.toArray a c) w else A w
  refine steps_any N kept (fun i v => i < c + 1 → Φ i v) J hg hN ?_ ?_ ?_ ?_
  · show if _ then _ else _
    rw [if_neg (by simp [hlen]), if_neg (by simp [hlen])]
    exact h0
  · intro i o ho listed a w hsz hun hdown hdf hn hk hp hJ
    have hil : i < l.length := (List.getElem?_eq_some_iff.1 ho).1
    have hunf : listed.getD i false = false := by
      have : i < listed.size := by omega
      simpa [this] using hun
    have hw : Region.wanted o (yielded l.toArray a.tmps) = true := by simp [Region.wanted, hg0 i o ho]
    rw [if_pos hw]
    have hdc : ∀ (j : Nat) (o' : Oper), l[j]? = some o' → (∀ k, (preds o').contains k = true → k < j) := fun j o' ho' k hk => by
      obtain ⟨e, he, rfl⟩ := preds_spec hk
      have := (hspec j o' ho').1 e he.1
      omega
    have hs1 : listed.getD c false = true → ∀ j, j < c → listed.getD j false = true := fun hc j hj => by
      have h1 := ancs_listed hdown c [c] (by simpa using hc) j
      exact h1 (by have := List.all_eq_true.1 hanc j (List.mem_range.2 hj); simpa using this)
    have hs2 : listed.getD (c + 1) false = true → listed.getD c false = true := fun h => hdown (c + 1) ol hol h c hpl
    rcases Nat.lt_trichotomy i c with hic | hic | hic
    · have hcf : listed.getD c false = false := by
        cases h : listed.getD c false with
        | false => rfl
        | true => have := hs1 h i hic; rw [hunf] at this; exact this.symm ▸ rfl
      have hcf2 : listed.getD (c + 1) false = false := by
        cases h : listed.getD (c + 1) false with
        | false => rfl
        | true => have := hs2 h; rw [hcf] at this; exact this.symm ▸ rfl
      have hA : A w := by
        have := hJ
        simp only [J, hcf, hcf2] at this
        simpa using this
      have h1 := hpre i hic a w hk (by rw [hgd i o ho]; exact fun j hj => (hp j hj).2 (by have := hdc i o ho j hj; omega)) hA
      rw [hgd i o ho] at h1
      refine Oper.wp_mono ?_ h1
      rintro a' w' ⟨v, rfl, hv, hA'⟩
      refine ⟨v, rfl, fun _ _ => hv, ?_⟩
      show if _ then _ else _
      rw [getD_set_ne false (by omega : i ≠ c + 1), getD_set_ne false (by omega : i ≠ c), hcf, hcf2]
      simpa using hA'
    · subst hic
      have hcf2 : listed.getD (i + 1) false = false := by
        cases h : listed.getD (i + 1) false with
        | false => rfl
        | true => have := hs2 h; rw [hunf] at this; exact this.symm ▸ rfl
      have hA : A w := by
        have := hJ
        simp only [J, hunf, hcf2] at this
        simpa using this
      have h1 := hmake a w hk (by rw [hgd i o ho]; exact fun j hj => (hp j hj).2 (by have := hdc i o ho j hj; omega)) hA
      rw [hgd i o ho] at h1
      refine Oper.wp_mono ?_ h1
      rintro a' w' ⟨v, rfl, hv, hB'⟩
      refine ⟨v, rfl, fun _ _ => hv, ?_⟩
      obtain ⟨d, hd⟩ := hds i o (by omega) ho
      show if _ then _ else _
      rw [getD_set_ne false (by omega : i ≠ i + 1), hcf2]
      have : (listed.setIfInBounds i true).getD i false = true := by
        have : i < listed.size := by omega
        simp [this]
      rw [this, slot_put_same (by simpa using ho) hd (by have := ((hspec i o ho).2 d hd).2.1; omega)]
      simpa using hB'
    · have hie : i = c + 1 := by omega
      subst hie
      rw [hol] at ho
      cases ho
      have hcl : listed.getD c false = true := (hp c hpl).1
      have hB' : B (slotOf l.toArray a c) w := by
        have := hJ
        simp only [J, hunf, hcl] at this
        simpa using this
      have h1 := hstore a w hk ((hp c hpl).2 (by omega)) hB'
      rw [hgd _ _ hol] at h1
      refine Oper.wp_mono ?_ h1
      rintro a' w' ⟨rfl, hC⟩
      refine ⟨undef, by rw [hdl]; rfl, fun h => by rw [hdl] at h; simp at h, ?_⟩
      show if _ then _ else _
      have : (listed.setIfInBounds (c + 1) true).getD (c + 1) false = true := by
        have : c + 1 < listed.size := by omega
        simp [this]
      rw [this]
      simpa using hC
  · intro i o ho hd v hi
    obtain ⟨d, hd'⟩ := hds i o hi ho
    rw [hd] at hd'
    cases hd'
  · intro listed a w hsz hall hdf hn hk hΦ hJ
    refine hend a w hdf hn hk (fun i hi => hΦ i (by omega) hi) ?_
    have := hJ
    simp only [J, hall (c + 1) (by omega)] at this
    simpa using this

end
end Go.Proofs.YtlcfldkmojpkpaaGreatDoor

namespace Go.Proofs.YtlcfldkmojpkpaaGreatDoor
open Go.RowKit Go.Shelf Go.Sort Go.Lib

set_option maxRecDepth 100000 in
set_option maxHeartbeats 4000000 in
theorem fmtU_in (u : Nat) (hu : 100 ≤ u) (hu64 : u < 18446744073709551616) (w : World) (htab : Lib.TabIs Tryz.prog w "internal/strconv.uint64pow10" .u64 Lib.pow10Tab) :
    Calls Tryz.prog 101 #[.int .u64 u, .int .i64 10] w fun e w' => e = .returned (.string ⟨(Lib.decDigits u).toArray⟩) ∧ Below w.heap.size w w' := by
  have hu1 : 1 ≤ u := by omega
  have hnd20 : Lib.nDigits u ≤ 20 := by have := Lib.numDigits_eq u hu1 hu64; split at this <;> omega
  have hal : Tryz.prog.arrayLen 122 = 24 := by simp [Program.arrayLen, Tryz.underlying122]
  have hsl : ∀ W, (Instr.sliceAt 122 (.pointer (some ⟨w.heap.size, 0, none⟩)) none (some (.int .i64 (Lib.nDigits u : Int))) none).run Tryz.prog W = .ok (.slice (some ⟨w.heap.size, 0, none⟩) (Lib.nDigits u) 24) W := fun W => by
    rw [run_sliceAt_array_h W 122 ⟨w.heap.size, 0, none⟩ (by simp [Program.arrayLen, Program.elem, Tryz.underlying122]) .i64 (Lib.nDigits u : Int) (by omega) (by rw [hal]; omega)]
    go_simp
  have hH0 := Lib.holds_zero0 w 122 (Lib.nDigits u) (by omega)
  have hfmt := Tryz.internal_strconv_formatBase10 w.heap.size 0 24 u (Array.replicate (Lib.nDigits u) 0) (w.alloc (.cells Lib.zeros24 122)) hH0 (by rw [Array.size_replicate]; exact Lib.lt_pow_nDigits u) hu64 (by rw [Array.size_replicate]; omega)
  rw [Array.size_replicate] at hfmt
  have HH0 := hide hH0
  have HF := hide hfmt
  have HN := hide (Tryz.internal_strconv_numDigits u hu1 hu64 _ (Lib.tabIs_alloc htab (.cells Lib.zeros24 122)))
  have iu : (100 : Int) ≤ (u : Int) := by omega
  clear hH0 hal hfmt
  go_enter Tryz.func101, Tryz.ntmps101
  go_wp2_with fail
  refine (unhide HN).mono ?_
  rintro e w1 ⟨rfl, rfl⟩
  go_wp2_with fail
  refine (unhide HF).mono ?_
  rintro e w2 ⟨rfl, k, v', dk, hw2, hF⟩
  have hcv : (convert 76 9 (.slice (some ⟨w.heap.size, 0, none⟩) (Lib.nDigits u) 24)).run Tryz.prog w2 = .ok (.string ⟨(Lib.decDigits u).toArray⟩) w2 := by
    refine conv8 w2 w.heap.size 24 (Lib.nDigits u) (Lib.decDigits u) (Lib.decDigits_length u) fun j hj => ?_
    have h7 := Lib.row_is_numeral hF j hj
    rw [h7, hw2, World.cell?_drewN]
    have h8 := cell?_putRow (fun (b : UInt8) => Value.int .u8 (b.toNat : Int)) (w.alloc (.cells Lib.zeros24 122)) w.heap.size 0 (Array.replicate (Lib.nDigits u) 0) dk (unhide HH0) (by rw [hF.size, Array.size_replicate]) j (by rw [hF.size]; rw [Lib.decDigits_length] at hj; exact hj)
    rwa [Nat.zero_add] at h8
  obtain ⟨os, eo⟩ := Lib.fin_at w (.cells Lib.zeros24 122) dk k 0
  have hnx : Below w.heap.size w w2 := by rw [hw2, eo]; exact Lib.below_grow w.heap.size w (Nat.le_refl _) k os
  clear hw2 eo HH0 HF HN hF
  go_wp2
  go_ret
  exact ⟨rfl, hnx⟩

set_option maxRecDepth 100000 in
set_option maxHeartbeats 800000 in
theorem fmtU_any (u : Nat) (hu : 100 ≤ u) (hu64 : u < 18446744073709551616) (w : World) (htab : Lib.TabIs Tryz.prog w "internal/strconv.uint64pow10" .u64 Lib.pow10Tab) :
    Calls Tryz.prog 80 #[.int .u64 u, .int .i64 10] w fun e w' => e = .returned (.string ⟨(Lib.decDigits u).toArray⟩) ∧ Below w.heap.size w w' := by
  have H := hide (fmtU_in u hu hu64 w htab)
  clear htab
  go_enter Tryz.func80, Tryz.ntmps80
  go_wp2_with fail
  refine (unhide H).mono ?_
  rintro e w1 ⟨rfl, hb⟩
  go_wp2
  go_ret
  exact ⟨rfl, hb⟩

set_option maxRecDepth 100000 in
set_option maxHeartbeats 800000 in
/-- strconv.AppendUint onto a row of the call's own. -/
theorem appU_any (B n u : Nat) (hu64 : u < 18446744073709551616) (sv : Value) (xs : List Value) (w : World) (hown : w.ownsRow B 5 1 sv n xs) (hBw : B ≤ w.heap.size) (hlim : n + 20 ≤ 140737488355328)
    (htab : Lib.TabIs Tryz.prog w "internal/strconv.uint64pow10" .u64 Lib.pow10Tab) :
    Calls Tryz.prog 78 #[sv, .int .u64 u, .int .i64 10] w fun e w' => ∃ v', e = .returned v' ∧ w'.ownsRow B 5 1 v' (n + (Lib.decDigits u).length) (xs ++ Lib.byteCells (Lib.decDigits u)) ∧ Below B w w' ∧ Lib.OthersKept 5 none w w' := by
  have H : Hid (Calls Tryz.prog 99 #[sv, .int .u64 u, .int .i64 10] w fun e w' => ∃ v', e = .returned v' ∧ w'.ownsRow B 5 1 v' (n + (Lib.decDigits u).length) (xs ++ Lib.byteCells (Lib.decDigits u)) ∧ Below B w w' ∧ Lib.OthersKept 5 none w w') := by
    by_cases h : u < 100
    · exact (Tryz.internal_strconv_AppendUint_10_small B n u h sv xs w hown hBw hlim).mono fun e w' h => h
    · exact (Tryz.internal_strconv_AppendUint_10_big B n u (by omega) hu64 sv xs w hown hBw hlim htab).mono fun e w' h => h
  clear htab hown
  go_enter Tryz.func78, Tryz.ntmps78
  go_wp2_with fail
  refine (unhide H).mono ?_
  rintro e w1 ⟨v', rfl, ho, hb, hk⟩
  go_wp2
  go_ret
  exact ⟨_, rfl, ho, hb, hk⟩

end Go.Proofs.YtlcfldkmojpkpaaGreatDoor

/- The decimal text of a number out of its digits to the base of a thousand millions. -/
namespace Go.Proofs.YtlcfldkmojpkpaaGreatDoor
open Go.RowKit

/-- The last k decimal digits. -/
def pad : Nat → Nat → List UInt8
  | 0, _ => []
  | k + 1, d => pad k (d / 10) ++ [UInt8.ofNat (48 + d % 10)]
theorem pad_length (k d : Nat) : (pad k d).length = k := by
  induction k generalizing d with
  | zero => rfl
  | succ k ih => simp [pad, ih]
theorem dd_pad (n k d : Nat) (hn : 1 ≤ n) (hd : d < 10 ^ k) : Lib.decDigits (n * 10 ^ k + d) = Lib.decDigits n ++ pad k d := by
  induction k generalizing d with
  | zero => simp at hd; subst hd; simp [pad]
  | succ k ih =>
    have h1 : 1 ≤ 10 ^ k := Nat.pow_pos (by omega)
    have h2 : n * 10 ^ (k + 1) = 10 * (n * 10 ^ k) := by rw [Nat.pow_succ]; simp only [Nat.mul_comm, Nat.mul_left_comm]
    have h3 : 1 ≤ n * 10 ^ k := Nat.mul_le_mul hn h1
    rw [Lib.decDigits, dif_neg (by omega)]
    have e1 : (n * 10 ^ (k + 1) + d) / 10 = n * 10 ^ k + d / 10 := by omega
    have e2 : (n * 10 ^ (k + 1) + d) % 10 = d % 10 := by omega
    rw [e1, e2, ih (d / 10) (by rw [Nat.pow_succ] at hd; omega), List.append_assoc]
    rfl
theorem dd_one : Lib.decDigits 1 = [49] := by rw [Lib.decDigits, dif_pos (by omega)]; rfl
theorem dd_drop (d : Nat) (hd : d < 1000000000) : Lib.decDigits (1000000000 + d) = 49 :: pad 9 d := by
  have := dd_pad 1 9 d (by omega) (by simpa using hd)
  rw [dd_one] at this
  simpa using this

/-- The text when the digits at these places have come. -/
def amT (zs : List Int) (t : Nat) (pre : List (Fin zs.length)) : List UInt8 := Lib.decDigits t ++ pre.flatMap (fun i => pad 9 (dg zs i.1).toNat)
theorem amT_nil (zs : List Int) (t : Nat) : amT zs t [] = Lib.decDigits t := by simp [amT]
theorem amT_snoc (zs : List Int) (t : Nat) (pre : List (Fin zs.length)) (i : Fin zs.length) : amT zs t (pre ++ [i]) = amT zs t pre ++ pad 9 (dg zs i.1).toNat := by simp [amT]
theorem amT_length (zs : List Int) (t : Nat) (pre : List (Fin zs.length)) : (amT zs t pre).length = (Lib.decDigits t).length + 9 * pre.length := by
  induction pre with
  | nil => simp [amT]
  | cons x l ih => simp only [amT, List.flatMap_cons, List.length_append, pad_length, List.length_cons] at *; omega
theorem amT_take (zs : List Int) (t : Nat) (hd : Dig zs) (ht : 1 ≤ t) (k : Nat) (hk : k ≤ zs.length) :
    amT zs t ((dn zs.length).take k) = Lib.decDigits (val (zs.drop (zs.length - k) ++ [(t : Int)])).toNat ∧ 1 ≤ (val (zs.drop (zs.length - k) ++ [(t : Int)])).toNat := by
  induction k with
  | zero => simp [amT, val]; exact ht
  | succ k ih =>
    obtain ⟨ih1, ih2⟩ := ih (by omega)
    rw [dn_take_succ _ _ (by omega), amT_snoc, ih1]
    have e : zs.drop (zs.length - (k + 1)) = (dg zs (zs.length - 1 - k)) :: zs.drop (zs.length - k) := by
      have h1 : zs.length - (k + 1) < zs.length := by omega
      rw [List.drop_eq_getElem_cons h1]
      rw [show zs.length - 1 - k = zs.length - (k + 1) by omega, dg, List.getElem?_eq_getElem h1, show zs.length - (k + 1) + 1 = zs.length - k by omega]
      simp
    rw [e, List.cons_append]
    simp only [val]
    obtain ⟨d0, d1⟩ := hd.dg (zs.length - 1 - k)
    generalize val (zs.drop (zs.length - k) ++ [(t : Int)]) = V at *
    have e2 : (dg zs (zs.length - 1 - k) + 1000000000 * V).toNat = V.toNat * 10 ^ 9 + (dg zs (zs.length - 1 - k)).toNat := by simp only [Nat.reducePow]; omega
    rw [e2, dd_pad _ 9 _ ih2 (by simp only [Nat.reducePow]; omega)]
    exact ⟨rfl, by omega⟩
theorem amT_all (zs : List Int) (t : Nat) (hd : Dig zs) (ht : 1 ≤ t) : amT zs t (dn zs.length) = Lib.decDigits (val (zs ++ [(t : Int)])).toNat := by
  have := (amT_take zs t hd ht zs.length (Nat.le_refl _)).1
  rw [List.take_of_length_le (by rw [dn_length]; omega)] at this
  simpa using this

end Go.Proofs.YtlcfldkmojpkpaaGreatDoor

/- Operations one by one: addresses, conversions, sums, slices, stores. -/
namespace Go.Proofs.YtlcfldkmojpkpaaGreatDoor
open Go Go.RowKit

section
variable {P : Program} {Q : Exit → Act → World → Prop} {K : Act → World → Prop} {a : Act} {w w' : World} {dst : Option Tmp} {ty : TypeId} {pos : String} {af : Array Edge} {gd : Option (Nat × Bool)} {x y : Operand} {vx vy v : Value}
theorem op_indexAddr {t : TypeId} (hx : a.eval x = vx) (hy : a.eval y = vy) (hr : (Instr.indexAt t vx vy).run P w = .ok v w) (h : K (a.put dst v) w) : Oper.wp P ⟨dst, .indexAddr t x y, ty, pos, af, gd⟩ a w K Q := by
  unfold Oper.wp
  simp [execOp, hx, hy, hr, Oper.upon, h]
theorem op_convert {s t : TypeId} (hx : a.eval x = vx) (hr : (convert s t vx).run P w = .ok v w) (h : K (a.put dst v) w) : Oper.wp P ⟨dst, .convert s t x, ty, pos, af, gd⟩ a w K Q := by
  unfold Oper.wp
  simp [execOp, hx, hr, Oper.upon, h]
theorem op_sliceLo {t : TypeId} {z : Operand} {vz : Value} (hx : a.eval x = vx) (hz : a.eval z = vz) (hr : (Instr.sliceAt t vx (some vz) none none).run P w = .ok v w) (h : K (a.put dst v) w) : Oper.wp P ⟨dst, .slice t x (some z) none none, ty, pos, af, gd⟩ a w K Q := by
  unfold Oper.wp
  simp [execOp, hx, hz, hr, Oper.upon, h]
theorem op_store {t : TypeId} (hx : a.eval x = vx) (hy : a.eval y = vy) (hr : (Instr.storeAt t vx vy).run P w = .ok () w') (h : K a w') : Oper.wp P ⟨none, .store t x y, ty, pos, af, gd⟩ a w K Q := by
  unfold Oper.wp
  simp [execOp, hx, hy, hr, Oper.upon, Act.put, h]
theorem op_bin {o : BinOp} {t u : TypeId} (hx : a.eval x = vx) (hy : a.eval y = vy) (hg : (eqGuard o t x y vx vy).run P w = .ok () w) (hr : (binOp o t vx vy).run P w = .ok v w) (h : K (a.put dst v) w) : Oper.wp P ⟨dst, .binOp o t x y u, ty, pos, af, gd⟩ a w K Q := by
  unfold Oper.wp
  simp [execOp, hx, hy, hg, hr, Oper.upon, h]
theorem op_append {s t : TypeId} (hx : a.eval x = vx) (hy : a.eval y = vy) (hr : (Builtin.append_ #[s, t] ty #[vx, vy]).run P w = .ok v w') (h : K (a.put dst v) w') : Oper.wp P ⟨dst, .call ⟨.builtin .append, #[x, y], #[s, t]⟩, ty, pos, af, gd⟩ a w K Q := by
  unfold Oper.wp
  simp [execOp, resolve, hx, hy, invoke, builtin, hr, Oper.upon, h]
end
theorem tmp_get {a : Act} {d : Nat} {v : Value} (hd : d < a.tmps.size) (h : a.tmps.getD d undef = v) : a.tmps[d]? = some v := by
  rw [Array.getD_eq_getD_getElem?] at h
  rw [Array.getElem?_eq_getElem hd] at h ⊢
  simpa using h
theorem eval_kept {a a0 : Act} {t : Nat} {v : Value} (h : a.tmps[t]? = a0.tmps[t]?) (h0 : a0.tmps[t]? = some v) : a.eval (.tmp t) = v := by simp [Act.eval, h, h0]
theorem load_bytes {w : World} {r : Nat} {v : Value} (h : w.cell? ⟨r, 0, none⟩ = some v) : (Instr.loadAt 76 (.pointer (some ⟨r, 0, none⟩))).run Tryz.prog w = .ok v w := by go_simp
theorem load_u32 {w : World} {r o : Nat} {v : Value} (h : w.cell? ⟨r, o, none⟩ = some v) : (Instr.loadAt 88 (.pointer (some ⟨r, o, none⟩))).run Tryz.prog w = .ok v w := by go_simp
theorem conv_u32u64 {w : World} {n : Nat} (h : n < 4294967296) : (convert 88 86 (.int .u32 (n : Int))).run Tryz.prog w = .ok (.int .u64 (n : Int)) w := by
  go_simp
  simp only [IntKind.wrap_u64]
  omega
theorem index_u32 {w : World} {b off n c k : Nat} (h : k < n) : (Instr.indexAt 24 (.slice (some ⟨b, off, none⟩) n c) (.int .i64 (k : Int))).run Tryz.prog w = .ok (.pointer (some ⟨b, off + k, none⟩)) w := by
  have h0 : (0 : Int) ≤ (k : Int) := by omega
  have h1 : (k : Int) < (n : Int) := by omega
  go_simp
theorem store_bytes {w : World} {r : Nat} {u : Value} {g n c : Nat} (h : w.cell? ⟨r, 0, none⟩ = some u) (hf : w.frozen? ⟨r, 0, none⟩ = false) : (Instr.storeAt 76 (.pointer (some ⟨r, 0, none⟩)) (.slice (some ⟨g, 0, none⟩) n c)).run Tryz.prog w = .ok () (w.setCell ⟨r, 0, none⟩ (.slice (some ⟨g, 0, none⟩) n c)) := by go_simp

end Go.Proofs.YtlcfldkmojpkpaaGreatDoor

/- appendMag: the decimal digits of a magnitude behind a row of bytes. -/
namespace Go.Proofs.YtlcfldkmojpkpaaGreatDoor
open Go.RowKit Go.Shelf

theorem ownsRow_slice {w : World} {base : Nat} {e : TypeId} {size : Nat} {v : Value} {n : Nat} {xs : List Value} (h : w.ownsRow base e size v n xs) : ∃ a c, v = .slice a n c := by
  rcases h.2 with ⟨rfl, h0⟩ | ⟨g, cap, _, rfl, _⟩
  · exact ⟨none, 0, by rw [h0]⟩
  · exact ⟨_, _, rfl⟩
theorem dd_pos (u : Nat) : 1 ≤ (Lib.decDigits u).length := by
  rw [Lib.decDigits]
  split <;> simp
theorem act_lit {a : Act} (vs : List Value) (hs : a.tmps.size = vs.length) (hd : a.defers = []) (h : ∀ k, k < vs.length → a.tmps[k]? = vs[k]?) : a = { tmps := vs.toArray, defers := [] } := by
  obtain ⟨ts, ds⟩ := a
  obtain rfl : ds = [] := hd
  congr 1
  apply Array.ext_getElem?
  intro k
  by_cases hk : k < vs.length
  · rw [h k hk]; simp
  · rw [Array.getElem?_eq_none (by have : ts.size = vs.length := hs; omega)]; simp; omega
theorem enter_AppU : Enters Tryz.prog 78 := ⟨fun xs w => by go_simp⟩
theorem enter_FmtU : Enters Tryz.prog 80 := ⟨fun xs w => by go_simp⟩

/-- What the slots of the first line hold. -/
def amP (ao : Option Addr) (n co b off cap L t m : Nat) : Nat → Value → Prop
  | 0, v => v = .slice ao n co
  | 1, v => v = .slice (some ⟨b, off, none⟩) (L + 1) cap
  | 2, v => v = .int .i64 (L : Int)
  | 3, v => v = .pointer (some ⟨b, off + L, none⟩)
  | 4, v => v = .int .u32 (t : Int)
  | 5, v => v = .int .u64 (t : Int)
  | 6, v => ∃ g c, v = .slice (some ⟨g, 0, none⟩) (m + 1) c
  | _, _ => True

set_option maxRecDepth 100000 in
theorem am_first (Bc n : Nat) (ao : Option Addr) (co : Nat) (bs : List Value) (b off cap : Nat) (zs : List Int) (t m r : Nat) (w0 : World) (a0 : Act) (hN : a0.tmps.size = 32) (hD : a0.defers = [])
    (h1 : a0.tmps[1]? = some (.slice (some ⟨b, off, none⟩) (zs.length + 1) cap)) (h2 : a0.tmps[2]? = some (.pointer (some ⟨r, 0, none⟩))) (h5 : a0.tmps[5]? = some (.int .i64 (zs.length : Int)))
    (hm : n + (Lib.decDigits t).length = m + 1) (hn : n ≤ 1000) (ht2 : t < 1000000000) (hbox : Boxed w0 r 76 (.slice ao n co)) (hown : w0.ownsRow Bc 5 1 (.slice ao n co) n bs) (hBc : Bc ≤ w0.heap.size) (hr : Bc ≤ r) (hct : w0.cell? ⟨b, off + zs.length, none⟩ = some (.int .u32 (t : Int))) (hT : Tab w0) :
    (Code.region 2 (regionOf Tryz.f55 2).toArray true).wp Tryz.prog (nrm (fun a W => a.defers = [] ∧ a.tmps.size = 32 ∧ (∀ k, k ∈ [0, 1, 2, 3, 4, 5, 6, 7, 8, 9, 10, 18, 19, 20, 21, 22, 23, 24, 25, 26, 27, 28, 29, 30, 31] → a.tmps[k]? = a0.tmps[k]?) ∧ (∀ i, i < 7 → amP ao n co b off cap zs.length t m i (slotOf (regionOf Tryz.f55 2).toArray a i)) ∧
      Boxed W r 76 (a.tmps.getD 17 undef) ∧ W.ownsRow Bc 5 1 (a.tmps.getD 17 undef) (m + 1) (bs ++ Lib.byteCells (Lib.decDigits t)) ∧ Below Bc w0 W ∧ Lib.OthersKept 5 (some r) w0 W)) a0 w0 := by
  refine wp_region_any (by kernel_rfl) ?_
  refine coll_any 6 32 [0, 1, 2, 3, 4, 5, 6, 7, 8, 9, 10, 18, 19, 20, 21, 22, 23, 24, 25, 26, 27, 28, 29, 30, 31] (amP ao n co b off cap zs.length t m)
    (fun W => W = w0.drew)
    (fun v W => Boxed W r 76 (.slice ao n co) ∧ W.ownsRow Bc 5 1 v (m + 1) (bs ++ Lib.byteCells (Lib.decDigits t)) ∧ Below Bc w0 W ∧ Lib.OthersKept 5 none w0 W)
    (fun v W => Boxed W r 76 v ∧ W.ownsRow Bc 5 1 v (m + 1) (bs ++ Lib.byteCells (Lib.decDigits t)) ∧ Below Bc w0 W ∧ Lib.OthersKept 5 (some r) w0 W)
    (by kernel_rfl) (by kernel_rfl) hN rfl ?_ ?_ ?_ ?_
  · intro i hi a w hk hp hA
    subst hA
    match i, hi with
    | 0, _ => exact op_load (eval_kept (hk 2 (by decide)) h2) (load_bytes hbox.cell) ⟨_, rfl, rfl, rfl⟩
    | 1, _ => exact op_move ⟨_, rfl, eval_kept (hk 1 (by decide)) h1, rfl⟩
    | 2, _ => exact op_move ⟨_, rfl, eval_kept (hk 5 (by decide)) h5, rfl⟩
    | 3, _ =>
      have p1 : a.tmps.getD 12 undef = .slice (some ⟨b, off, none⟩) (zs.length + 1) cap := hp 1 rfl
      have p2 : a.tmps.getD 13 undef = .int .i64 (zs.length : Int) := hp 2 rfl
      exact op_indexAddr (a := a) p1 p2 (index_u32 (by omega)) ⟨_, rfl, rfl, rfl⟩
    | 4, _ =>
      have p3 : a.tmps.getD 14 undef = .pointer (some ⟨b, off + zs.length, none⟩) := hp 3 rfl
      exact op_load (a := a) p3 (load_u32 hct) ⟨_, rfl, rfl, rfl⟩
    | 5, _ =>
      have p4 : a.tmps.getD 15 undef = .int .u32 (t : Int) := hp 4 rfl
      exact op_convert (a := a) p4 (conv_u32u64 (by omega)) ⟨_, rfl, rfl, rfl⟩
  · intro a w hk hp hA
    subst hA
    have p0 : a.tmps.getD 11 undef = .slice ao n co := hp 0 rfl
    have p5 : a.tmps.getD 16 undef = .int .u64 (t : Int) := hp 5 rfl
    refine op_call enter_AppU ?_
    have e : (#[Operand.tmp 11, .tmp 16, .const (.int .i64 10)]).map a.eval = #[.slice ao n co, .int .u64 (t : Int), .int .i64 10] := by
      simp only [List.map_toArray, List.map_cons, List.map_nil, Act.eval, p0, p5]
    rw [e]
    refine Calls.mono (appU_any Bc n t (by omega) _ bs _ hown.drew hBc (by omega) hT.drew) ?_
    rintro e w' ⟨v, rfl, ho, hb, hk'⟩
    rw [hm] at ho
    obtain ⟨g, c, rfl⟩ := ownsRow_succ ho
    exact ⟨_, rfl, _, rfl, ⟨g, c, rfl⟩, hk' r _ hbox (by simp) (by intro c fz h; cases h), ho, ((Below.refl _ w0).drew).trans hb, hk'⟩
  · intro a w hk hv hB
    obtain ⟨g, c, e6⟩ := hv
    obtain ⟨hbx, ho, hb, hk'⟩ := hB
    have e6' : a.tmps.getD 17 undef = .slice (some ⟨g, 0, none⟩) (m + 1) c := e6
    rw [e6] at ho
    refine op_store (a := a) (eval_kept (hk 2 (by decide)) h2) e6' (store_bytes hbx.cell hbx.frozen) ⟨rfl, ?_⟩
    rw [e6]
    have hne := hbx.not_row (by decide) ho
    refine ⟨hbx.set _, ho.kept (grownBy_setCell' w r _) (.inr (fun e => hne e.symm)), ?_, ?_⟩
    · exact hb.setCell (p := ⟨r, 0, none⟩) hr _
    · exact Lib.OthersKept.setCell (fun k o h _ ho' => hk' k o h (by simp) ho') ⟨r, 0, none⟩ rfl _
  · intro a w hd hn' hk hΦ hC
    exact nrm_mk ⟨hd.trans hD, hn', hk, hΦ, hC⟩

end Go.Proofs.YtlcfldkmojpkpaaGreatDoor

/- appendMag: one round. -/
namespace Go.Proofs.YtlcfldkmojpkpaaGreatDoor
open Go.RowKit Go.Shelf

theorem grownBy_of_below {W w : World} (h : Below W.heap.size W w) : W.grownBy w none := ⟨h.os, h.tape, h.output, h.size, fun k hk _ => h.block k hk⟩
theorem ownsRow_below {W w : World} {base : Nat} {e : TypeId} {size : Nat} {v : Value} {n : Nat} {xs : List Value} (h : W.ownsRow base e size v n xs) (hb : Below W.heap.size W w) : w.ownsRow base e size v n xs :=
  h.kept (grownBy_of_below hb) (by cases v.ownBlock <;> simp)
theorem boxed_below {W w : World} {B : Nat} {t : TypeId} {v : Value} (h : Boxed W B t v) (hb : Below W.heap.size W w) : Boxed w B t v := (hb.block B h.lt).trans h
theorem keepsOthers_below {W w : World} (hb : Below W.heap.size W w) : KeepsOthers W w := KeepsOthers.of_grownBy (grownBy_of_below hb) (fun _ _ h => by cases h)
theorem othersKept_below {W w : World} (e : TypeId) (b : Option Nat) (hb : Below W.heap.size W w) : Lib.OthersKept e b W w := fun k _ hk _ _ => (hb.block k (Array.getElem?_eq_some_iff.1 hk).1).trans hk
theorem row_cells {W : World} {base : Nat} {e : TypeId} {size : Nat} {v : Value} {n : Nat} {xs : List Value} (h : W.ownsRow base e size v n xs) (g : Nat) (hg : v.ownBlock = some g) : ∃ c fz, W.heap[g]? = some (.cells c e fz) := by
  rcases h.2 with ⟨rfl, _⟩ | ⟨g', cap, cur, rfl, _, hgb, _⟩
  · simp [Value.ownBlock] at hg
  · obtain rfl : g' = g := by simpa [Value.ownBlock] using hg
    exact ⟨_, _, hgb⟩
theorem strCells_of (l : List UInt8) : Lib.strCells ⟨l.toArray⟩ = Lib.byteCells l := by simp [Lib.strCells, Lib.byteCells]
theorem conv_i32u64 {w : World} {d : Int} (h0 : 0 ≤ d) (h : d < 1000000000) : (convert 88 86 (.int .u32 d)).run Tryz.prog w = .ok (.int .u64 d) w := by
  go_simp
  simp only [IntKind.wrap_u64]
  omega
theorem add_u64 {w : World} {d : Int} (h0 : 0 ≤ d) (h : d < 1000000000) : (binOp .add 86 (.int .u64 1000000000) (.int .u64 d)).run Tryz.prog w = .ok (.int .u64 (1000000000 + d)) w := by
  go_simp
  try (simp only [IntKind.wrap_u64]; omega)
theorem slice1 {w : World} {c : UInt8} {l : List UInt8} : (Instr.sliceAt 9 (.string ⟨(c :: l).toArray⟩) (some (.int .i64 1)) none none).run Tryz.prog w = .ok (.string ⟨l.toArray⟩) w := by
  go_simp
  rw [if_pos (by omega)]
  congr 2
  apply ByteArray.ext
  simp [ByteArray.data_extract]

/-- What the slots of a round hold. -/
def arP (g k c : Nat) (d : Int) : Nat → Value → Prop
  | 0, v => v = .slice (some ⟨g, 0, none⟩) k c
  | 1, v => v = .int .u32 d
  | 2, v => v = .int .u64 d
  | 3, v => v = .int .u64 (1000000000 + d)
  | 4, v => v = .string ⟨(49 :: pad 9 d.toNat).toArray⟩
  | 5, v => v = .string ⟨(pad 9 d.toNat).toArray⟩
  | 6, v => ∃ g' c', v = .slice (some ⟨g', 0, none⟩) (k + 9) c'
  | _, _ => True

set_option maxRecDepth 100000 in
theorem am_round {Q : Exit → Act → World → Prop} (lp fu Bc k g c r : Nat) (xs : List Value) (d : Int) (W : World) (a0 : Act) (hN : a0.tmps.size = 32)
    (h2 : a0.tmps[2]? = some (.pointer (some ⟨r, 0, none⟩))) (h7 : a0.tmps[7]? = some (.int .u32 d)) (hd0 : 0 ≤ d) (hd1 : d < 1000000000) (hk9 : k ≤ 1000000)
    (hbox : Boxed W r 76 (.slice (some ⟨g, 0, none⟩) k c)) (hown : W.ownsRow Bc 5 1 (.slice (some ⟨g, 0, none⟩) k c) k xs) (hBc : Bc ≤ W.heap.size) (hr : Bc ≤ r) (hT : Tab W)
    (hQ : ∀ a W', (∃ v, Boxed W' r 76 v ∧ W'.ownsRow Bc 5 1 v (k + 9) (xs ++ Lib.byteCells (pad 9 d.toNat)) ∧ ∃ g' c', v = .slice (some ⟨g', 0, none⟩) (k + 9) c') → KeepsOthers W W' → Below Bc W W' → Lib.OthersKept 5 (some r) W W' → Q .normal a W') :
    (Code.region 5 (regionOf Tryz.f55 5).toArray true).wpIn (Fence.wide.inRound lp) fu Tryz.prog Q a0 W := by
  refine region_round (R := fun a W' => ∃ v, (Boxed W' r 76 v ∧ W'.ownsRow Bc 5 1 v (k + 9) (xs ++ Lib.byteCells (pad 9 d.toNat)) ∧ ∃ g' c', v = .slice (some ⟨g', 0, none⟩) (k + 9) c') ∧ KeepsOthers W W' ∧ Below Bc W W' ∧ Lib.OthersKept 5 (some r) W W')
    (by kernel_rfl) (by kernel_rfl) (fun a W' ⟨v, h1, h2, h3, h4⟩ => hQ a W' ⟨v, h1⟩ h2 h3 h4) ?_
  refine coll_any 6 32 [0, 1, 2, 3, 4, 5, 6, 7, 8, 9, 10, 11, 12, 13, 14, 15, 16, 17, 18, 19, 20, 21, 22, 23, 31] (arP g k c d)
    (fun w => Below W.heap.size W w)
    (fun v w => Boxed w r 76 (.slice (some ⟨g, 0, none⟩) k c) ∧ w.ownsRow Bc 5 1 v (k + 9) (xs ++ Lib.byteCells (pad 9 d.toNat)) ∧ KeepsOthers W w ∧ Below Bc W w ∧ Lib.OthersKept 5 none W w)
    (fun v w => Boxed w r 76 v ∧ w.ownsRow Bc 5 1 v (k + 9) (xs ++ Lib.byteCells (pad 9 d.toNat)) ∧ KeepsOthers W w ∧ Below Bc W w ∧ Lib.OthersKept 5 (some r) W w)
    (by kernel_rfl) (by kernel_rfl) hN (Below.refl _ W).drew ?_ ?_ ?_ ?_
  · intro i hi a w hk hp hA
    match i, hi with
    | 0, _ => exact op_load (eval_kept (hk 2 (by decide)) h2) (load_bytes (boxed_below hbox hA).cell) ⟨_, rfl, rfl, hA⟩
    | 1, _ => exact op_move ⟨_, rfl, eval_kept (hk 7 (by decide)) h7, hA⟩
    | 2, _ =>
      have p : a.tmps.getD 25 undef = .int .u32 d := hp 1 rfl
      exact op_convert (a := a) p (conv_i32u64 hd0 hd1) ⟨_, rfl, rfl, hA⟩
    | 3, _ =>
      have p : a.tmps.getD 26 undef = .int .u64 d := hp 2 rfl
      exact op_bin (a := a) rfl p (by go_simp) (add_u64 hd0 hd1) ⟨_, rfl, rfl, hA⟩
    | 4, _ =>
      have p : a.tmps.getD 27 undef = .int .u64 (1000000000 + d) := hp 3 rfl
      refine op_call enter_FmtU ?_
      have e : (#[Operand.tmp 27, .const (.int .i64 10)]).map a.eval = #[.int .u64 ((1000000000 + d.toNat : Nat) : Int), .int .i64 10] := by
        have e0 : ((1000000000 + d.toNat : Nat) : Int) = 1000000000 + d := by omega
        rw [e0]
        simp only [List.map_toArray, List.map_cons, List.map_nil, Act.eval, p]
      rw [e]
      refine Calls.mono (fmtU_any (1000000000 + d.toNat) (by omega) (by omega) w (hT.below hA)) ?_
      rintro e w' ⟨rfl, hb⟩
      rw [dd_drop _ (by omega)]
      exact ⟨_, rfl, _, rfl, rfl, hA.trans (hb.mono hA.size)⟩
    | 5, _ =>
      have p : a.tmps.getD 28 undef = .string ⟨(49 :: pad 9 d.toNat).toArray⟩ := hp 4 rfl
      exact op_sliceLo (a := a) p rfl slice1 ⟨_, rfl, rfl, hA⟩
  · intro a w hk hp hA
    have p0 : a.tmps.getD 24 undef = .slice (some ⟨g, 0, none⟩) k c := hp 0 rfl
    have p5 : a.tmps.getD 29 undef = .string ⟨(pad 9 d.toNat).toArray⟩ := hp 5 rfl
    obtain ⟨i0, hi, hz0, hz1, hz2⟩ := info_parts info8
    have hsz : (⟨(pad 9 d.toNat).toArray⟩ : ByteArray).size = 9 := by show (pad 9 d.toNat).toArray.size = 9; rw [List.size_toArray, pad_length]
    have ho := ownsRow_below hown hA
    obtain ⟨v, w', hrun, hown', hgr, _⟩ := Lib.run_append_own_string (P := Tryz.prog) (w := w) Bc 76 9 76 5 i0 Tryz.underlying76 Tryz.underlying9 hi hz0 hz1 hz2 _ _ _ ho ⟨(pad 9 d.toNat).toArray⟩ (by rw [hsz]; unfold maxLen; omega) (by rw [hsz]; omega) (Nat.le_trans hBc hA.size)
    rw [hsz, strCells_of] at hown'
    obtain ⟨g', c', rfl⟩ := ownsRow_succ hown'
    have hbx := boxed_below hbox hA
    refine op_append (a := a) p0 p5 hrun ⟨_, rfl, ⟨g', c', rfl⟩, hbx.kept hgr (hbx.not_row (by decide) ho), hown', ?_, ?_, ?_⟩
    · exact (keepsOthers_below hA).trans (KeepsOthers.of_grownBy hgr fun j _ ej hj => by
        obtain ⟨cc, fz, hc⟩ := row_cells ho j ej
        rw [hc] at hj; cases hj; rfl)
    · exact (hA.mono hBc).grown hgr (Nat.le_trans hBc hA.size) (fun j ej => (ho.lt j ej).1)
    · exact (othersKept_below _ _ hA).grown hgr (fun j ej => row_cells ho j ej)
  · intro a w hk hv hB
    obtain ⟨g', c', e6⟩ := hv
    obtain ⟨hbx, ho, hko, hb, hk'⟩ := hB
    have e6' : a.tmps.getD 30 undef = .slice (some ⟨g', 0, none⟩) (k + 9) c' := e6
    rw [e6] at ho
    refine op_store (a := a) (eval_kept (hk 2 (by decide)) h2) e6' (store_bytes hbx.cell hbx.frozen) ⟨rfl, ?_⟩
    rw [e6]
    have hne := hbx.not_row (by decide) ho
    exact ⟨hbx.set _, ho.kept (grownBy_setCell' w r _) (.inr (fun e => hne e.symm)), hko.trans (KeepsOthers.setCell _ _ _), hb.setCell (p := ⟨r, 0, none⟩) hr _, Lib.OthersKept.setCell (fun k o h _ ho' => hk' k o h (by simp) ho') ⟨r, 0, none⟩ rfl _⟩
  · intro a w hd hn' hk hΦ hC
    obtain ⟨hbx, ho, hko, hb, hk'⟩ := hC
    exact ⟨_, ⟨hbx, ho, hΦ 6 (by decide)⟩, hko, hb, hk'⟩

end Go.Proofs.YtlcfldkmojpkpaaGreatDoor

/- appendMag, whole; String of any number. -/
namespace Go.Proofs.YtlcfldkmojpkpaaGreatDoor
open Go.RowKit Go.Shelf
attribute [local go_sem] Oper.semAt_some

theorem boxed_own {β : Type} (B : Nat) (t : TypeId) (v : Value) : Own (fun (_ : β) W => Boxed W B t v) := by
  rintro s X Y row hv hg hrow
  refine hv.kept hg (fun e' => ?_)
  obtain ⟨o, ho, hc⟩ := hrow B e'.symm
  rw [show X.heap[B]? = _ from hv] at ho
  cases ho
  cases hc

set_option maxRecDepth 100000 in
set_option maxHeartbeats 2000000 in
theorem appendMag_any (Bc n : Nat) (sv : Value) (bs : List Value) (b off cap : Nat) (zs : List Int) (t : Nat) (w : World) (hown : w.ownsRow Bc 5 1 sv n bs) (hBc : Bc ≤ w.heap.size) (hn : n ≤ 1000) (hb : b < Bc)
    (hat : At w b off (zs ++ [(t : Int)])) (hd : Dig zs) (ht : 1 ≤ t) (ht2 : t < 1000000000) (hl : zs.length ≤ 10000) (hcap : zs.length + 1 ≤ cap) (hT : ∀ w', Below Bc w w' → Tab w') :
    Calls Tryz.prog 55 #[sv, .slice (some ⟨b, off, none⟩) (zs.length + 1) cap] w fun e w' => ∃ v', e = .returned v' ∧
      w'.ownsRow Bc 5 1 v' (n + (Lib.decDigits (val (zs ++ [(t : Int)])).toNat).length) (bs ++ Lib.byteCells (Lib.decDigits (val (zs ++ [(t : Int)])).toNat)) ∧ Below Bc w w' := by
  obtain ⟨ao, co, rfl⟩ := ownsRow_slice hown
  have hct := hat.at (k := zs.length) rfl
  have bO := Boxed.new w 76 (.slice ao n co)
  have hB0 : Below w.heap.size w (w.alloc (.cells #[.slice ao n co] 76)) := (Below.refl _ w).alloc (Nat.le_refl _) _
  have hown0 := hown.alloc (Obj.cells #[.slice ao n co] 76)
  have hl1 : ((zs.length : Int) + 1) - 1 = zs.length := by omega
  have hT0 : Tab (w.alloc (.cells #[.slice ao n co] 76)) := hT _ (hB0.mono hBc)
  have hct0 : (w.alloc (.cells #[.slice ao n co] 76)).cell? ⟨b, off + zs.length, none⟩ = some (.int .u32 (t : Int)) := (hB0.cell (p := ⟨b, off + zs.length, none⟩) (by simp; omega)).trans hct
  obtain ⟨m, hm⟩ : ∃ m, n + (Lib.decDigits t).length = m + 1 := ⟨n + (Lib.decDigits t).length - 1, by have := dd_pos t; omega⟩
  have hdl : (Lib.decDigits t).length ≤ 20 := by
    have h1 := Lib.decDigits_length t
    have h2 := Lib.numDigits_eq t ht (by omega)
    split at h2 <;> omega
  have HR := hide (fun a0 h1 h2 h3 h4 h5 => am_first Bc n ao co bs b off cap zs t m w.heap.size (w.alloc (.cells #[.slice ao n co] 76)) a0 h1 h2 h3 h4 h5 hm hn ht2 bO hown0 (by simp; omega) hBc hct0 hT0)
  have HM := hide hm
  have HL := hide hdl
  clear hm hT0 hct0 hown0 bO hct hdl
  refine (callsIn_wide (n := 10)).1 ?_
  refine callsIn_of_wp_marks Tryz.func55 rfl trivial ?_ rfl
  simp only [Tryz.ntmps55, List.size_toArray, List.length_cons, List.length_nil, Nat.reduceAdd, Nat.reduceSub, Array.replicate_succ, Array.replicate_zero, List.push_toArray, List.append_toArray, List.nil_append, List.cons_append]
  gi_wp2_with fail
  refine wpIn_mono (wpIn_wide.2 (unhide HR _ rfl rfl rfl rfl rfl)) ?_
  intro e a' W2 h9
  obtain ⟨rfl, hd2, hn2, hk2, hΦ, hbx, ho, hb2, hko⟩ := nrm_out h9
  clear HR h9
  obtain ⟨g, c, e6⟩ := hΦ 6 (by decide)
  have e17 : a'.tmps.getD 17 undef = .slice (some ⟨g, 0, none⟩) (m + 1) c := e6
  rw [e17] at hbx ho
  obtain rfl := act_lit [.slice ao n co, .slice (some ⟨b, off, none⟩) (zs.length + 1) cap, .pointer (some ⟨w.heap.size, 0, none⟩), undef, .slice none 0 0, .int .i64 (zs.length : Int), undef, undef, .slice (some ⟨b, off, none⟩) (zs.length + 1) cap, .int .i64 ((zs.length : Int) + 1), .int .i64 (zs.length : Int), .slice ao n co, .slice (some ⟨b, off, none⟩) (zs.length + 1) cap, .int .i64 (zs.length : Int), .pointer (some ⟨b, off + zs.length, none⟩), .int .u32 (t : Int), .int .u64 (t : Int), .slice (some ⟨g, 0, none⟩) (m + 1) c, undef, undef, undef, undef, undef, undef, undef, undef, undef, undef, undef, undef, undef, undef] hn2 hd2 (fun k hk => by
    match k, hk with
    | 0, _ => exact (hk2 0 (by decide)).trans rfl
    | 1, _ => exact (hk2 1 (by decide)).trans rfl
    | 2, _ => exact (hk2 2 (by decide)).trans rfl
    | 3, _ => exact (hk2 3 (by decide)).trans rfl
    | 4, _ => exact (hk2 4 (by decide)).trans rfl
    | 5, _ => exact (hk2 5 (by decide)).trans rfl
    | 6, _ => exact (hk2 6 (by decide)).trans rfl
    | 7, _ => exact (hk2 7 (by decide)).trans rfl
    | 8, _ => exact (hk2 8 (by decide)).trans rfl
    | 9, _ => exact (hk2 9 (by decide)).trans rfl
    | 10, _ => exact (hk2 10 (by decide)).trans rfl
    | 11, _ => exact tmp_get (by omega) (hΦ 0 (by decide))
    | 12, _ => exact tmp_get (by omega) (hΦ 1 (by decide))
    | 13, _ => exact tmp_get (by omega) (hΦ 2 (by decide))
    | 14, _ => exact tmp_get (by omega) (hΦ 3 (by decide))
    | 15, _ => exact tmp_get (by omega) (hΦ 4 (by decide))
    | 16, _ => exact tmp_get (by omega) (hΦ 5 (by decide))
    | 17, _ => exact tmp_get (by omega) e17
    | 18, _ => exact (hk2 18 (by decide)).trans rfl
    | 19, _ => exact (hk2 19 (by decide)).trans rfl
    | 20, _ => exact (hk2 20 (by decide)).trans rfl
    | 21, _ => exact (hk2 21 (by decide)).trans rfl
    | 22, _ => exact (hk2 22 (by decide)).trans rfl
    | 23, _ => exact (hk2 23 (by decide)).trans rfl
    | 24, _ => exact (hk2 24 (by decide)).trans rfl
    | 25, _ => exact (hk2 25 (by decide)).trans rfl
    | 26, _ => exact (hk2 26 (by decide)).trans rfl
    | 27, _ => exact (hk2 27 (by decide)).trans rfl
    | 28, _ => exact (hk2 28 (by decide)).trans rfl
    | 29, _ => exact (hk2 29 (by decide)).trans rfl
    | 30, _ => exact (hk2 30 (by decide)).trans rfl
    | 31, _ => exact (hk2 31 (by decide)).trans rfl
    | k + 32, hk => exact absurd hk (by simp))
  clear hk2 hΦ e6 e17 hn2 hd2
  have hB2 : Below Bc w W2 := (hB0.mono hBc).trans hb2
  have hTW : Tab W2 := hT _ hB2
  have hi0 : (0 : Int) ≤ (zs.length : Int) := by omega
  have hi1 : (zs.length : Int) ≤ (cap : Int) := by omega
  gi_wp2_with fail
  refine ⟨trivial, (callsIn_wide.2 (back_any _ _ _ _)).mono ?_⟩
  rintro e w' ⟨rfl, rfl⟩
  gi_wp2
  have bN := Boxed.new W2 24 (.slice (some ⟨b, off, none⟩) zs.length cap)
  have hB3 : Below W2.heap.size W2 (W2.alloc (.cells #[.slice (some ⟨b, off, none⟩) zs.length cap] 24)) := (Below.refl _ W2).alloc (Nat.le_refl _) _
  have hbW : b < W2.heap.size := by have := hB2.size; omega
  have hBcW : Bc ≤ W2.heap.size := by have := hB2.size; omega
  have hrW : w.heap.size < W2.heap.size := hbx.lt
  have hI : zs ≠ [] → ∃ off', some (⟨b, off, none⟩ : Addr) = some ⟨b, off', none⟩ ∧ At (W2.alloc (.cells #[.slice (some ⟨b, off, none⟩) zs.length cap] 24)) b off' zs := fun _ =>
    ⟨off, rfl, fun j hj => by
      rw [hB3.cell (p := ⟨b, off + j, none⟩) hbW, hB2.cell (p := ⟨b, off + j, none⟩) hb, hat j (by simp; omega), List.getElem?_append_left hj]⟩
  refine wpIn_rangeFunc_ownG rfl (by decide) (gf := 100) (lb := #[.pointer (some ⟨W2.heap.size, 0, none⟩)]) rfl trivial (enters_of Tryz.func100 (by kernel_rfl) rfl)
    (back_stops W2.heap.size b (some ⟨b, off, none⟩) cap zs (by omega) _ (by simp) (by simp; omega) bN.cell hI) kp2_t (kp2_b (by simp) (by simp; omega)) (Below.refl _ _) (fun _ => rfl)
    (fun pre W => (∃ v, Boxed W w.heap.size 76 v ∧ W.ownsRow Bc 5 1 v (m + 1 + 9 * pre.length) (bs ++ Lib.byteCells (amT zs t pre)) ∧ ∃ g c, v = .slice (some ⟨g, 0, none⟩) (m + 1 + 9 * pre.length) c) ∧ Boxed W W2.heap.size 24 (.slice (some ⟨b, off, none⟩) zs.length cap) ∧ Below Bc w W)
    (fun _ _ _ => False)
    (OwnFrom.and (Own.from (holdsRow_own Bc w.heap.size 76 5 1 (fun pre : List (Fin zs.length) => m + 1 + 9 * pre.length) (fun pre => bs ++ Lib.byteCells (amT zs t pre)) (fun pre v => ∃ g c, v = .slice (some ⟨g, 0, none⟩) (m + 1 + 9 * pre.length) c)) _) (OwnFrom.and (Own.from (boxed_own _ _ _) _) (ownFrom_below hBc (by simp; omega))))
    (fun _ _ _ _ _ hs _ _ => hs)
    ⟨⟨_, hbx.alloc _, by simpa [amT_nil] using ho.alloc _, g, c, by simp⟩, bN, hB2.trans (hB3.mono hBcW)⟩
    (fun x => { tmps := #[.slice ao n co, .slice (some ⟨b, off, none⟩) (zs.length + 1) cap, .pointer (some ⟨w.heap.size, 0, none⟩), undef, .slice none 0 0, .int .i64 (zs.length : Int), undef, .int .u32 (dg zs x.1), .slice (some ⟨b, off, none⟩) (zs.length + 1) cap, .int .i64 ((zs.length : Int) + 1), .int .i64 (zs.length : Int), .slice ao n co, .slice (some ⟨b, off, none⟩) (zs.length + 1) cap, .int .i64 (zs.length : Int), .pointer (some ⟨b, off + zs.length, none⟩), .int .u32 (t : Int), .int .u64 (t : Int), .slice (some ⟨g, 0, none⟩) (m + 1) c, .slice (some ⟨b, off, none⟩) (zs.length + 1) cap, .int .i64 (zs.length : Int), .slice (some ⟨b, off, none⟩) zs.length cap, .func (.func 100) #[] #[.pointer (some ⟨W2.heap.size, 0, none⟩)], .int .i64 (x.1 : Int), .int .u32 (dg zs x.1), undef, undef, undef, undef, undef, undef, undef, undef], defers := [] }) ?assign ?body ?done ?stop
  case assign =>
    intro l x W K hK
    gi_wp2
    exact hK
  case body =>
    rintro l pre x W ⟨⟨v, hb1, ho1, g1, c1, rfl⟩, hb3, hBW⟩ hpl
    obtain ⟨hd0, hd1⟩ := hd.dg x.1
    gi_wp2_with fail
    refine am_round l _ Bc (m + 1 + 9 * pre.length) g1 c1 w.heap.size _ (dg zs x.1) W _ rfl rfl rfl hd0 hd1 (by have := unhide HM; have := unhide HL; omega) hb1 ho1 (by have := hBW.size; omega) hBc (hT W hBW) ?_
    intro a' W' ⟨v, hv, hov, g', c', e⟩ hko' hb' hk'
    subst e
    have e1 : m + 1 + 9 * (pre ++ [x]).length = m + 1 + 9 * pre.length + 9 := by simp; omega
    have e2 : bs ++ Lib.byteCells (amT zs t (pre ++ [x])) = (bs ++ Lib.byteCells (amT zs t pre)) ++ Lib.byteCells (pad 9 (dg zs x.1).toNat) := by rw [amT_snoc]; simp [Lib.byteCells]
    have hb3' : Boxed W' W2.heap.size 24 (.slice (some ⟨b, off, none⟩) zs.length cap) := hk' _ _ hb3 (by simp; omega) (by intro c fz h; cases h)
    refine ⟨hko'.from _, ⟨hb3'.trans hb3.symm, hb'.block b hb⟩, ⟨_, hv, ?_, g', c', ?_⟩, hb3', hBW.trans hb'⟩
    · rw [e1, e2]; exact hov
    · rw [e1]
  case done =>
    rintro D ys W hD rfl ⟨⟨v, hb1, ho1, g1, c1, rfl⟩, _, hBW⟩ hK
    have kO := hb1.cell
    clear hb1
    gi_wp2
    refine ⟨by simp, .inl ⟨_, _, rfl, run_takeDeferred hK, ?_⟩⟩
    have hal := amT_all zs t hd ht
    have hle := amT_length zs t (dn zs.length)
    rw [hal] at ho1 hle
    have e1 : n + (Lib.decDigits (val (zs ++ [(t : Int)])).toNat).length = m + 1 + 9 * (dn zs.length).length := by have := unhide HM; omega
    rw [e1]
    exact ⟨_, results_tmp rfl _ _ _, _, rfl, ownsRow_putObj ho1 _ hK rfl, hBW.trans ((belowK_b (w := w) (Nat.le_refl _) W D _ _ (by simp at hD; omega) hK rfl rfl).mono hBc)⟩
  case stop =>
    rintro D c pre W _ _ h _
    exact h.elim

end Go.Proofs.YtlcfldkmojpkpaaGreatDoor

/- String of any number. -/
namespace Go.Proofs.YtlcfldkmojpkpaaGreatDoor
open Go.RowKit Go.Shelf
attribute [local go_sem] eqnil_some eqnil_none nenil_some nenil_none

theorem conv_row {W : World} {Bc : Nat} {v : Value} {l : List UInt8} {n : Nat} (hn : n = l.length) (hp : 0 < n) (h : W.ownsRow Bc 5 1 v n (Lib.byteCells l)) :
    ∃ g c, v = .slice (some ⟨g, 0, none⟩) n c ∧ (convert 76 9 v).run Tryz.prog W = .ok (.string ⟨l.toArray⟩) W := by
  obtain ⟨k, rfl⟩ : ∃ k, n = k + 1 := ⟨n - 1, by omega⟩
  obtain ⟨g, c, rfl⟩ := ownsRow_succ h
  refine ⟨g, c, rfl, conv8 W g c (k + 1) l hn.symm fun j hj => ?_⟩
  rw [h.cellAt j (by omega)]
  simp [Lib.byteCells, hj]

/-- The digits of a great number: the top one is at least 1. -/
theorem great_form {xs : List Int} (hd : Dig xs) (hn : Norm xs) (hne : xs ≠ []) : ∃ zs t, xs = zs ++ [((t : Nat) : Int)] ∧ Dig zs ∧ 1 ≤ t ∧ t < 1000000000 := by
  refine ⟨xs.dropLast, (xs.getLast hne).toNat, ?_, fun x hx => hd x ((List.dropLast_subset xs) hx), ?_, ?_⟩
  · have h := hd _ (List.getLast_mem hne)
    rw [Int.toNat_of_nonneg h.1]
    exact (List.dropLast_concat_getLast hne).symm
  · have h := hd _ (List.getLast_mem hne)
    have := hn hne
    omega
  · have h := hd _ (List.getLast_mem hne)
    omega

set_option maxRecDepth 100000 in
set_option maxHeartbeats 2000000 in
theorem str_great (s : Int) (b off cap : Nat) (zs : List Int) (t : Nat) (w : World) (hs : s = -1 ∨ s = 1) (hb : b < w.heap.size) (hat : At w b off (zs ++ [(t : Int)])) (hd : Dig zs) (ht : 1 ≤ t) (ht2 : t < 1000000000) (hl : zs.length ≤ 10000) (hcap : zs.length + 1 ≤ cap) (hT : Tab w) :
    Calls Tryz.prog 22 #[.agg #[.int .i64 s, .slice (some ⟨b, off, none⟩) (zs.length + 1) cap]] w fun e w' => e = .returned (.string ⟨((if s < 0 then [45] else []) ++ Lib.decDigits (val (zs ++ [(t : Int)])).toNat).toArray⟩) ∧ Below w.heap.size w w' := by
  obtain ⟨i0, hi, hz0, hz1, hz2⟩ := info_parts info8
  have hTB := Lib.tabBelow_of_tabIs hT
  have bX := Bx.new w s (some ⟨b, off, none⟩) (zs.length + 1) cap
  have hbw : Below w.heap.size w (w.alloc (.cells #[.int .i64 s, .slice (some ⟨b, off, none⟩) (zs.length + 1) cap] 26)) := (Below.refl _ w).alloc (Nat.le_refl _) _
  obtain ⟨k0, k1, f0, f1⟩ := bX.facts
  rcases hs with rfl | rfl
  · have HC := hide (fun (W : World) (hB : Below w.heap.size w W) (v : Value) (ho : W.ownsRow w.heap.size 5 1 v 1 (Lib.byteCells [45])) => appendMag_any w.heap.size 1 v (Lib.byteCells [45]) b off cap zs t W ho hB.size (by omega) hb (fun j hj => (hB.cell (p := ⟨b, off + j, none⟩) hb).trans (hat j hj)) hd ht ht2 hl hcap (fun w' h => hTB w' (hB.trans h)))
    clear hT hat hTB
    go_enter Tryz.func22, Tryz.ntmps22
    go_wp2_with (at_builtin; refine wpList_append_own _ rfl _ _ 76 rfl w.heap.size 5 i0 (.int .u8 0) 1 1 Tryz.underlying76 hi hz0 hz1 hz2 rfl (by decide) _ _ _ rfl (World.ownsRow_nil _ _ _ _) ⟨w.heap.size + 1, 0, none⟩ 1 1 [.int .u8 45] rfl rfl ?c1 ?c2 ?c3 ?c4 ?c5 ?_)
    case c1 =>
      intro j u hj
      have hj0 : j = 0 := by
        have := (List.getElem?_eq_some_iff.1 hj).1
        simpa using this
      subst hj0
      obtain rfl : Value.int .u8 45 = u := by simpa using hj
      have e := (Boxed.new (w.alloc (.cells #[.int .i64 (-1), .slice (some ⟨b, off, none⟩) (zs.length + 1) cap] 26)) 5 (.int .u8 45)).cell
      rw [World.size_alloc] at e
      exact e
    case c2 => exact one8 _
    case c3 => unfold maxLen; omega
    case c4 => omega
    case c5 => simp; omega
    intro v' w2 hown' hgrow _
    have hB2 : Below w.heap.size w w2 := (hbw.alloc hbw.size (.cells #[.int .u8 45] 5)).grown hgrow (by simp; omega) (fun k hk => by simp [Value.ownBlock] at hk)
    have bX2 : Bx w2 w.heap.size (.agg #[.int .i64 (-1), .slice (some ⟨b, off, none⟩) (zs.length + 1) cap]) := by
      obtain ⟨n', a', l', c', e1, e2⟩ := bX.alloc (.cells #[.int .u8 45] 5)
      exact ⟨n', a', l', c', e1, (hgrow.block _ (by simp; omega) (by simp [Value.ownBlock])).trans e2⟩
    have ho2 : w2.ownsRow w.heap.size 5 1 v' 1 (Lib.byteCells [45]) := hown'
    obtain ⟨g, c, rfl⟩ := ownsRow_succ ho2
    have HC2 := hide (unhide HC w2 hB2 _ ho2)
    obtain ⟨k0, k1, f0, f1⟩ := bX2.facts
    clear HC hown' hgrow bX2 bX ho2
    go_wp2_with fail
    refine (unhide HC2).mono ?_
    rintro e w3 ⟨v3, rfl, ho3, hb3⟩
    have hbc : Lib.byteCells [45] ++ Lib.byteCells (Lib.decDigits (val (zs ++ [(t : Int)])).toNat) = Lib.byteCells ([45] ++ Lib.decDigits (val (zs ++ [(t : Int)])).toNat) := by simp [Lib.byteCells]
    rw [hbc] at ho3
    obtain ⟨g3, c3, rfl, hcv⟩ := conv_row (by simp; omega) (by omega) ho3
    have hB3 := hB2.trans hb3
    clear ho3 hb3 HC2 hbc
    go_wp2
    go_ret
    exact ⟨rfl, hB3⟩
  · have HC := hide (fun (W : World) (hB : Below w.heap.size w W) => appendMag_any w.heap.size 0 (.slice none 0 0) [] b off cap zs t W (World.ownsRow_nil _ _ _ _) hB.size (by omega) hb (fun j hj => (hB.cell (p := ⟨b, off + j, none⟩) hb).trans (hat j hj)) hd ht ht2 hl hcap (fun w' h => hTB w' (hB.trans h)))
    clear hT hat hTB
    go_enter Tryz.func22, Tryz.ntmps22
    go_wp2_with fail
    refine (unhide HC _ hbw).mono ?_
    rintro e w3 ⟨v3, rfl, ho3, hb3⟩
    rw [List.nil_append, Nat.zero_add] at ho3
    obtain ⟨g3, c3, rfl, hcv⟩ := conv_row (by simp) (by have := dd_pos (val (zs ++ [(t : Int)])).toNat; omega) ho3
    have hB3 := hbw.trans hb3
    clear ho3 hb3 HC
    go_wp2
    go_ret
    exact ⟨rfl, hB3⟩

/-- String of any number. -/
theorem str_any (v : Value) (z : Int) (w : World) (hT : Tab w) (h : IsI w v z) (hz : (z.natAbs : Int) < pw 4000) :
    Calls Tryz.prog 22 #[v] w fun e w' => e = .returned (.string ⟨(Lib.itoa z).toArray⟩) ∧ Below w.heap.size w w' := by
  rcases h with ⟨rfl, h0, h1⟩ | ⟨b, off, cap, xs, rfl, h1, h2, h3, h4, h5, h6, h7⟩
  · exact str_small z w hT h0 h1
  · have hne : xs ≠ [] := IsI.ne_nil h6 h7
    have hln := len_le h4 h5 (k := 4000) (by omega)
    obtain ⟨zs, t, rfl, hd, ht, ht2⟩ := great_form h4 h5 hne
    have hl' : zs.length + 1 ≤ 4000 := by simpa using hln
    have := str_great (if z < 0 then -1 else 1) b off cap zs t w (by split <;> simp) h2 h3 hd ht ht2 (by omega) (by simpa using h1) hT
    have e1 : (zs ++ [(t : Int)]).length = zs.length + 1 := by simp
    rw [e1]
    refine Calls.mono this ?_
    rintro e w' ⟨rfl, hb⟩
    refine ⟨?_, hb⟩
    congr 3
    rw [h6]
    unfold Lib.itoa
    by_cases hn : z < 0
    · simp [hn]
    · simp [hn]; congr 1; omega

end Go.Proofs.YtlcfldkmojpkpaaGreatDoor
