/- A region that draws its order, walked by a spec an operation: whatever order is picked, each operation finds what those that it waits for have left, and leaves what its own spec says. -/
import Derived.Orders
import Derived.Below
namespace Go.Proofs.YtpkpkpjhpkndnaaDoor
open Go Go.RowKit

section
variable {P : Program} {ops : Array Oper} {Q : Exit → Act → World → Prop} {md : Region.Mode}

theorem filter_lt (p q : Nat → Bool) (hqp : ∀ j, q j = true → p j = true) (i : Nat) (hp : p i = true) (hq : q i = false) :
    ∀ l : List Nat, i ∈ l → (l.filter q).length < (l.filter p).length := by
  have hle : ∀ l : List Nat, (l.filter q).length ≤ (l.filter p).length := by
    intro l
    induction l with
    | nil => simp
    | cons x l ih =>
      simp only [List.filter_cons]
      cases hx : q x with
      | true => simp [hqp x hx, ih]
      | false =>
        cases p x with
        | true => simp; omega
        | false => simpa using ih
  intro l
  induction l with
  | nil => intro h; cases h
  | cons x l ih =>
    intro h
    rcases List.mem_cons.1 h with rfl | h
    · simp only [List.filter_cons, hp, hq]
      have := hle l
      simp
      omega
    · have := ih h
      simp only [List.filter_cons]
      cases hx : q x with
      | true => simp [hqp x hx, this]
      | false =>
        cases p x with
        | true => simp; omega
        | false => simpa using this

/-- How many have not come up. -/
def toCome (ops : Array Oper) (listed : Array Bool) : Nat := ((List.range ops.size).filter fun i => !listed.getD i true).length

theorem toCome_lt {listed : Array Bool} {i : Nat} (h : i ∈ Region.ready md ops listed) : toCome ops (listed.setIfInBounds i true) < toCome ops listed := by
  obtain ⟨h0, o, ho, _⟩ := mem_ready.1 h
  have hi : i < ops.size := (Array.getElem?_eq_some_iff.1 ho).1
  refine filter_lt _ _ ?_ i ?_ ?_ _ (List.mem_range.2 hi)
  · intro j hj
    by_cases e : i = j
    · subst e; simp [h0]
    · rw [getD_set_ne true e] at hj; exact hj
  · simp [h0]
  · by_cases hs : i < listed.size
    · simp [hs]
    · simp [Array.getElem?_eq_none (Nat.le_of_not_lt hs)] at h0

theorem ready_nil_of_toCome {listed : Array Bool} (h : toCome ops listed = 0) : Region.ready md ops listed = [] := by
  apply List.eq_nil_iff_forall_not_mem.2
  intro i hi
  have := toCome_lt hi
  omega

/-- An invariant that each operation hands on, in whatever order. -/
theorem wpAny_inv (I : Array Bool → Act → World → Prop)
    (hstep : ∀ listed a w i, I listed a w → i ∈ Region.ready md ops listed → wpOp P ops Q i (fun a' w' => I (listed.setIfInBounds i true) a' w') a w)
    (hend : ∀ listed a w, I listed a w → Region.ready md ops listed = [] → Q .normal a w) :
    ∀ fuel listed a w, toCome ops listed ≤ fuel → I listed a w → wpAny P md ops Q fuel listed a w := by
  intro fuel
  induction fuel with
  | zero => intro listed a w h hI; exact ⟨ready_nil_of_toCome (by omega), hend _ _ _ hI (ready_nil_of_toCome (by omega))⟩
  | succ fuel ih =>
    intro listed a w h hI
    refine ⟨fun hr => hend _ _ _ hI hr, fun i hi => wpOp_mono (fun a' w' h' => ih _ a' w' ?_ h') (hstep _ _ _ _ hI hi)⟩
    have := toCome_lt hi
    omega

/-- The slot that operation i writes. -/
def slotOf (ops : Array Oper) (a : Act) (i : Nat) : Value := a.tmps.getD (((ops[i]?).bind (·.dst)).getD 0) undef

/-- Each operation waits only for such as stand ahead of it, and writes a slot of its own, below N; 'ds': the slots that those ahead of it write. -/
def goodFrom (N : Nat) : Nat → List Nat → List Oper → Bool
  | _, _, [] => true
  | i, ds, o :: l => (o.after.toList.all fun e => decide (e.on < i)) && (match o.dst with | some d => !ds.contains d && decide (d < N) && goodFrom N (i + 1) (d :: ds) l | none => false)

theorem goodFrom_spec {N : Nat} : ∀ (l : List Oper) (i : Nat) (ds : List Nat), goodFrom N i ds l = true →
    ∀ j o, l[j]? = some o → (∀ e ∈ o.after, e.on < i + j) ∧ ∃ d : Nat, o.dst = some d ∧ d ∉ ds ∧ d < N ∧ ∀ k o', k < j → l[k]? = some o' → ∃ d' : Nat, o'.dst = some d' ∧ d' ≠ d
  | [], _, _, _, j, o, h => by simp at h
  | x :: l, i, ds, hg, j, o, h => by
    simp only [goodFrom, Bool.and_eq_true] at hg
    obtain ⟨hon, hd⟩ := hg
    cases hx : x.dst with
    | none => simp [hx] at hd
    | some d =>
      simp only [hx, Bool.and_eq_true, decide_eq_true_eq] at hd
      obtain ⟨⟨hB, hN⟩, hr⟩ := hd
      have hB' : d ∉ ds := by simpa using hB
      cases j with
      | zero =>
        simp at h
        subst h
        refine ⟨fun e he => ?_, d, hx, hB', hN, fun k _ hk => absurd hk (by omega)⟩
        have := List.all_eq_true.1 hon e (by simpa using he)
        simpa using this
      | succ j =>
        have h' : l[j]? = some o := by simpa using h
        obtain ⟨h1, d2, h2, h3, h4, h5⟩ := goodFrom_spec l (i + 1) (d :: ds) hr j o h'
        refine ⟨fun e he => by have := h1 e he; omega, d2, h2, fun hm => h3 (List.mem_cons_of_mem _ hm), h4, fun k o' hk ho' => ?_⟩
        cases k with
        | zero => simp at ho'; subst ho'; exact ⟨d, hx, fun e => h3 (e ▸ List.mem_cons_self)⟩
        | succ k => exact h5 k o' (by omega) (by simpa using ho')

theorem slot_put_same {a : Act} {i : Nat} {o : Oper} {d : Nat} {v : Value} (ho : ops[i]? = some o) (hd : o.dst = some d) (hlt : d < a.tmps.size) :
    slotOf ops (a.put o.dst v) i = v := by
  simp [slotOf, ho, hd, Act.put, hlt]

theorem slot_put_other {a : Act} {i : Nat} {o' : Oper} {d d' : Nat} {v : Value} (ho' : ops[i]? = some o') (hd' : o'.dst = some d') (hne : d ≠ d') :
    slotOf ops (a.put (some d) v) i = slotOf ops a i := by
  simp [slotOf, ho', hd', Act.put, Array.getElem?_setIfInBounds_ne hne]

/-- Those that an operation waits for, whatever the order. -/
def preds (o : Oper) : List Nat := (o.after.toList.filter (Region.binds .any)).map (·.on)
theorem preds_spec {o : Oper} {j : Nat} (h : (preds o).contains j = true) : ∃ e, (e ∈ o.after ∧ Region.binds .any e = true) ∧ e.on = j := by
  have h1 : j ∈ preds o := by simpa using h
  obtain ⟨e, he, rfl⟩ := List.mem_map.1 h1
  obtain ⟨h2, h3⟩ := List.mem_filter.1 he
  exact ⟨e, ⟨by simpa using h2, h3⟩, rfl⟩

/-- **A region that draws, by a spec an operation.** 'kept': slots that the region does not write. -/
theorem region_specs {id : Nat} {l : List Oper} {a0 : Act} {w0 : World} (N : Nat) (kept : List Nat) (Φ : Nat → World → Value → Prop)
    (hm : P.follows .mixedOrders = true) (hg : goodFrom N 0 kept l = true) (hN : a0.tmps.size = N)
    (hmono : ∀ i w w' v, Φ i w v → Below w.heap.size w w' → Φ i w' v)
    (hstep : ∀ i o, l[i]? = some o → ∀ (a : Act) (w : World), Below w0.heap.size w0 w → a.defers = a0.defers → a.tmps.size = N → (∀ k, k ∈ kept → a.tmps[k]? = a0.tmps[k]?) →
      (∀ j, (preds o).contains j = true → Φ j w (slotOf l.toArray a j)) →
      if Region.wanted o (yielded l.toArray a.tmps) then o.wp P a w (fun a' w' => ∃ v, a' = a.put o.dst v ∧ Below w.heap.size w w' ∧ Φ i w' v) Q else Φ i w undef)
    (hend : ∀ (a : Act) (w : World), Below w0.heap.size w0 w → a.defers = a0.defers → a.tmps.size = N → (∀ k, k ∈ kept → a.tmps[k]? = a0.tmps[k]?) → (∀ i, i < l.length → Φ i w (slotOf l.toArray a i)) → Q .normal a w) :
    (Code.region id l.toArray true).wp P Q a0 w0 := by
  refine wp_region_any hm ?_
  let I : Array Bool → Act → World → Prop := fun listed a w => listed.size = l.length ∧ Below w0.heap.size w0 w ∧ a.defers = a0.defers ∧ a.tmps.size = N ∧ (∀ k, k ∈ kept → a.tmps[k]? = a0.tmps[k]?) ∧
    ∀ i, listed.getD i false = true → Φ i w (slotOf l.toArray a i)
  have hspec := goodFrom_spec l 0 kept hg
  refine wpAny_inv (md := .any) I ?_ ?_ _ _ _ _ ?_ ?_
  · rintro listed a w i ⟨hsz, hb, hdf, hn, hbase, hΦ⟩ hr
    obtain ⟨h0, o, ho, hpre⟩ := mem_ready.1 hr
    have hol : l[i]? = some o := by simpa using ho
    obtain ⟨hon, d, hd, hBd, hdN, hbefore⟩ := hspec i o hol
    have hilt : i < l.length := (List.getElem?_eq_some_iff.1 hol).1
    have hs := hstep i o hol a w hb hdf hn hbase (fun j hj => by
      obtain ⟨e, he, rfl⟩ := preds_spec hj
      exact hΦ _ (hpre e he.1 he.2))
    have keep : ∀ w' v, Below w.heap.size w w' → Φ i w' v → I (listed.setIfInBounds i true) (a.put o.dst v) w' := by
      intro w' v hb' hv
      refine ⟨by simpa using hsz, hb.trans (hb'.mono hb.size), ?_, ?_, ?_, ?_⟩
      · rw [hd]; exact hdf
      · rw [hd]; simpa [Act.put] using hn
      · intro k hk
        rw [hd]
        simp only [Act.put]
        rw [Array.getElem?_setIfInBounds_ne (fun (e : d = k) => hBd (e.symm ▸ hk))]
        exact hbase k hk
      · intro j hj
        by_cases e : i = j
        · subst e
          rw [slot_put_same ho hd (by omega)]
          exact hv
        · rw [getD_set_ne false e] at hj
          have hj' := hmono _ _ _ _ (hΦ j hj) hb'
          have hjlt : j < l.length := by
            rcases Nat.lt_or_ge j listed.size with h | h
            · omega
            · simp [Array.getElem?_eq_none h] at hj
          have hoj : l[j]? = some l[j] := List.getElem?_eq_getElem hjlt
          have hoj' : l.toArray[j]? = some l[j] := by simp [hjlt]
          obtain ⟨_, d', hd', _, _, hbef'⟩ := hspec j _ hoj
          have hne : d ≠ d' := by
            rcases Nat.lt_or_gt_of_ne e with h | h
            · obtain ⟨d2, h2, h3⟩ := hbef' i o h hol
              rw [hd] at h2
              have h4 : d = d2 := Option.some.inj h2
              omega
            · obtain ⟨d2, h2, h3⟩ := hbefore j _ h hoj
              rw [hd'] at h2
              have h4 : d' = d2 := Option.some.inj h2
              omega
          rw [hd, slot_put_other hoj' hd' hne]
          exact hj'
    unfold wpOp
    simp only [ho]
    split
    · rename_i hw
      simp only [hw, if_true] at hs
      refine .inl (Oper.wp_mono ?_ hs)
      rintro a' w' ⟨v, rfl, hb', hv⟩
      exact keep w' v hb' hv
    · rename_i hw
      simp only [hw] at hs
      exact keep w undef (Below.refl _ _) hs
  · rintro listed a w ⟨hsz, hb, hdf, hn, hbase, hΦ⟩ hr
    refine hend a w hb hdf hn hbase ?_
    have : ∀ i, i < l.length → listed.getD i false = true := by
      intro i
      induction i using Nat.strongRecOn with
      | ind i ih =>
        intro hi
        cases hl : listed.getD i true with
        | true =>
          have : i < listed.size := by omega
          simpa [this] using hl
        | false =>
          exfalso
          have hoi : l[i]? = some l[i] := List.getElem?_eq_getElem hi
          have : i ∈ Region.ready .any l.toArray listed := by
            refine mem_ready.2 ⟨hl, l[i], by simp [hi], fun e he _ => ?_⟩
            obtain ⟨hon, _⟩ := hspec i _ hoi
            have := hon e he
            exact ih e.on (by omega) (by omega)
          rw [hr] at this
          cases this
    intro i hi
    exact hΦ i (this i hi)
  · unfold toCome
    exact Nat.le_trans (List.length_filter_le _ _) (by simp)
  · refine ⟨by simp, ⟨rfl, rfl, rfl, Nat.le_refl _, fun _ _ => rfl⟩, rfl, hN, fun _ _ => rfl, ?_⟩
    intro i hi
    exfalso
    rcases Nat.lt_or_ge i l.length with h | h
    · simp [h] at hi
    · simp [h] at hi

/-- Of each operation of a list, with its number. -/
def Each (C : Nat → Oper → Prop) : Nat → List Oper → Prop
  | _, [] => True
  | i, o :: l => C i o ∧ Each C (i + 1) l
theorem Each.at {C : Nat → Oper → Prop} : ∀ (l : List Oper) (k : Nat), Each C k l → ∀ i o, l[i]? = some o → C (k + i) o
  | [], _, _, i, o, h => by simp at h
  | x :: l, k, hE, i, o, h => by
    cases i with
    | zero => simp at h; subst h; exact hE.1
    | succ i =>
      have := Each.at l (k + 1) hE.2 i o (by simpa using h)
      rwa [show k + 1 + i = k + (i + 1) by omega] at this

/-! ### The operations, one by one -/
section
variable {o : Oper} {a : Act} {w : World} {K : Act → World → Prop} {dst : Option Tmp} {ty : TypeId} {pos : String} {af : Array Edge} {gd : Option (Nat × Bool)}

theorem wanted_none (h : o.guard = none) : Region.wanted o (yielded ops a.tmps) = true := by simp [Region.wanted, h]
theorem yielded_slot {g : Nat} {b : Bool} (hs : slotOf ops a g = .bool b) (hd : ((ops[g]?).bind (·.dst)).isSome = true) : yielded ops a.tmps g = some b := by
  obtain ⟨d, hd⟩ := Option.isSome_iff_exists.1 hd
  unfold slotOf at hs
  rw [hd] at hs
  unfold yielded
  rw [hd]
  simp only [Option.getD_some, Option.bind_some] at *
  cases h : a.tmps[d]? with
  | none => simp [h, undef] at hs
  | some v => simp [h] at hs; rw [hs]
theorem wanted_slot {g : Nat} {b : Bool} (h : o.guard = some (g, b)) (hs : slotOf ops a g = .bool b) (hd : ((ops[g]?).bind (·.dst)).isSome = true) : Region.wanted o (yielded ops a.tmps) = true := by
  simp [Region.wanted, h, yielded_slot hs hd]
theorem unwanted_slot {g : Nat} {b c : Bool} (h : o.guard = some (g, b)) (hs : slotOf ops a g = .bool c) (hne : c ≠ b) (hd : ((ops[g]?).bind (·.dst)).isSome = true) : Region.wanted o (yielded ops a.tmps) = false := by
  simp [Region.wanted, h, yielded_slot hs hd, hne]

theorem op_move {x : Operand} (h : K (a.put dst (a.eval x)) w) : Oper.wp P ⟨dst, .move x, ty, pos, af, gd⟩ a w K Q := h
theorem op_assign {x : Operand} (h : K (a.put dst (a.eval x)) w) : Oper.wp P ⟨dst, .assign x, ty, pos, af, gd⟩ a w K Q := h
theorem op_pick {c x y : Operand} {b : Bool} (hc : a.eval c = .bool b) (h : K (a.put dst (if b then a.eval x else a.eval y)) w) : Oper.wp P ⟨dst, .pick c x y, ty, pos, af, gd⟩ a w K Q := by
  unfold Oper.wp
  simp only [execOp, hc]
  exact h
theorem op_load {t : TypeId} {x : Operand} {p v : Value} (hx : a.eval x = p) (hr : (Instr.loadAt t p).run P w = .ok v w) (h : K (a.put dst v) w) : Oper.wp P ⟨dst, .load t x, ty, pos, af, gd⟩ a w K Q := by
  unfold Oper.wp
  simp [execOp, hx, hr, Oper.upon, h]
end

end
end Go.Proofs.YtpkpkpjhpkndnaaDoor
