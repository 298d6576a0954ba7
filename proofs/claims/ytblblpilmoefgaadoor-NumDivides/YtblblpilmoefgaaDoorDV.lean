/- A region 'x, y := f(..), g(..)' whose variables are boxed: it draws its order. -/
import Derived.Test.YtblblpilmoefgaaDoorTX

namespace Go.Proofs.YtblblpilmoefgaaDoor
open Go Go.RowKit

section
variable {P : Program} {Q : Exit → Act → World → Prop}
/-- Each operation waits only for such as stand ahead of it, and writes, if any, a slot of its own, below N. -/
def fitF (N : Nat) : Nat → List Nat → List Oper → Bool
  | _, _, [] => true
  | i, ds, o :: l => (o.after.toList.all fun e => !Region.binds .any e || decide (e.on < i)) && (match o.dst with | some d => !ds.contains d && decide (d < N) && fitF N (i + 1) (d :: ds) l | none => fitF N (i + 1) ds l)

theorem fitF_spec {N : Nat} : ∀ (l : List Oper) (i : Nat) (ds : List Nat), fitF N i ds l = true →
    ∀ j o, l[j]? = some o → (∀ e ∈ o.after, Region.binds .any e = true → e.on < i + j) ∧ ∀ d : Nat, o.dst = some d → d ∉ ds ∧ d < N ∧ ∀ k o', k < j → l[k]? = some o' → o'.dst ≠ some d
  | [], _, _, _, j, o, h => by simp at h
  | x :: l, i, ds, hg, j, o, h => by
    simp only [fitF, Bool.and_eq_true] at hg
    obtain ⟨hon, hd⟩ := hg
    cases hx : x.dst with
    | none =>
      simp only [hx] at hd
      cases j with
      | zero =>
        simp at h
        subst h
        refine ⟨fun e he hb => ?_, fun d hd' => by rw [hx] at hd'; cases hd'⟩
        have := List.all_eq_true.1 hon e (by simpa using he)
        simpa [hb] using this
      | succ j =>
        have h' : l[j]? = some o := by simpa using h
        obtain ⟨h1, h2⟩ := fitF_spec l (i + 1) ds hd j o h'
        refine ⟨fun e he hb => by have := h1 e he hb; omega, fun d hd' => ?_⟩
        obtain ⟨h3, h4, h5⟩ := h2 d hd'
        refine ⟨h3, h4, fun k o' hk ho' => ?_⟩
        cases k with
        | zero => simp at ho'; subst ho'; rw [hx]; simp
        | succ k => exact h5 k o' (by omega) (by simpa using ho')
    | some d0 =>
      simp only [hx, Bool.and_eq_true, decide_eq_true_eq] at hd
      obtain ⟨⟨hB, hN⟩, hr⟩ := hd
      have hB' : d0 ∉ ds := by simpa using hB
      cases j with
      | zero =>
        simp at h
        subst h
        refine ⟨fun e he hb => ?_, fun d hd' => ?_⟩
        · have := List.all_eq_true.1 hon e (by simpa using he)
          simpa [hb] using this
        · rw [hx] at hd'
          have e0 : d0 = d := Option.some.inj hd'
          subst e0
          exact ⟨hB', hN, fun k _ hk => absurd hk (by omega)⟩
      | succ j =>
        have h' : l[j]? = some o := by simpa using h
        obtain ⟨h1, h2⟩ := fitF_spec l (i + 1) (d0 :: ds) hr j o h'
        refine ⟨fun e he hb => by have := h1 e he hb; omega, fun d hd' => ?_⟩
        obtain ⟨h3, h4, h5⟩ := h2 d hd'
        refine ⟨fun hm => h3 (List.mem_cons_of_mem _ hm), h4, fun k o' hk ho' => ?_⟩
        cases k with
        | zero =>
          simp at ho'; subst ho'; rw [hx]
          intro e
          have e0 : d0 = d := Option.some.inj e
          exact h3 (e0 ▸ List.mem_cons_self)
        | succ k => exact h5 k o' (by omega) (by simpa using ho')

/-- Whatever order is picked: specs of the slots, and an invariant of what has come up, the frame and the world. -/
theorem stepsF {l : List Oper} {a0 : Act} {w0 : World} (N : Nat) (kept : List Nat) (Φ : Nat → Value → Prop) (J : Array Bool → Act → World → Prop)
    (hg : fitF N 0 kept l = true) (hN : a0.tmps.size = N) (h0 : J (Array.replicate l.length false) a0 w0)
    (hstep : ∀ i o, l[i]? = some o → ∀ (listed : Array Bool) (a : Act) (w : World), listed.size = l.length → listed.getD i true = false →
      (∀ j o', l[j]? = some o' → listed.getD j false = true → ∀ k, (preds o').contains k = true → listed.getD k false = true) →
      a.defers = a0.defers → a.tmps.size = N → (∀ k, k ∈ kept → a.tmps[k]? = a0.tmps[k]?) →
      (∀ j, (preds o).contains j = true → listed.getD j false = true ∧ Φ j (slotOf l.toArray a j)) → J listed a w →
      if Region.wanted o (yielded l.toArray a.tmps) then o.wp P a w (fun a' w' => ∃ v, a' = a.put o.dst v ∧ (o.dst.isSome = true → Φ i v) ∧ J (listed.setIfInBounds i true) a' w') Q
      else (o.dst.isSome = true → Φ i undef) ∧ J (listed.setIfInBounds i true) (a.put o.dst undef) w)
    (hsome : ∀ i o, l[i]? = some o → o.dst = none → ∀ v, Φ i v)
    (hend : ∀ (listed : Array Bool) (a : Act) (w : World), listed.size = l.length → (∀ i, i < l.length → listed.getD i false = true) → a.defers = a0.defers → a.tmps.size = N → (∀ k, k ∈ kept → a.tmps[k]? = a0.tmps[k]?) → (∀ i, i < l.length → Φ i (slotOf l.toArray a i)) → J listed a w → Q .normal a w) :
    wpAny P .any l.toArray Q l.toArray.size (Array.replicate l.toArray.size false) a0 w0 := by
  let I : Array Bool → Act → World → Prop := fun listed a w => listed.size = l.length ∧ (∀ j o', l[j]? = some o' → listed.getD j false = true → ∀ k, (preds o').contains k = true → listed.getD k false = true) ∧
    a.defers = a0.defers ∧ a.tmps.size = N ∧ (∀ k, k ∈ kept → a.tmps[k]? = a0.tmps[k]?) ∧ (∀ i, listed.getD i false = true → Φ i (slotOf l.toArray a i)) ∧ J listed a w
  have hspec := fitF_spec l 0 kept hg
  refine wpAny_inv (md := .any) I ?_ ?_ _ _ _ _ ?_ ?_
  · rintro listed a w i ⟨hsz, hdown, hdf, hn, hbase, hΦ, hJ⟩ hr
    obtain ⟨hun, o, ho, hpre⟩ := mem_ready.1 hr
    have hol : l[i]? = some o := by simpa using ho
    have hilt : i < l.length := (List.getElem?_eq_some_iff.1 hol).1
    have hpre' : ∀ j, (preds o).contains j = true → listed.getD j false = true := fun j hj => by
      obtain ⟨e, he, rfl⟩ := preds_spec hj
      exact hpre e he.1 he.2
    have hs := hstep i o hol listed a w hsz hun hdown hdf hn hbase (fun j hj => ⟨hpre' j hj, hΦ j (hpre' j hj)⟩) hJ
    have hdown' : ∀ j o', l[j]? = some o' → (listed.setIfInBounds i true).getD j false = true → ∀ k, (preds o').contains k = true → (listed.setIfInBounds i true).getD k false = true := by
      intro j o' ho' hj k hk
      by_cases e : i = j
      · subst e
        rw [hol] at ho'
        cases ho'
        exact getD_set_true (hpre' k hk)
      · rw [getD_set_ne false e] at hj
        exact getD_set_true (hdown j o' ho' hj k hk)
    have keep : ∀ w' v, (o.dst.isSome = true → Φ i v) → J (listed.setIfInBounds i true) (a.put o.dst v) w' → I (listed.setIfInBounds i true) (a.put o.dst v) w' := by
      intro w' v hv hJ'
      refine ⟨by simpa using hsz, hdown', ?_, ?_, ?_, ?_, hJ'⟩
      · cases hd : o.dst <;> simpa [Act.put] using hdf
      · cases hd : o.dst <;> simpa [Act.put] using hn
      · intro k hk
        cases hd : o.dst with
        | none => exact hbase k hk
        | some d =>
          simp only [Act.put]
          rw [Array.getElem?_setIfInBounds_ne (fun (e : d = k) => ((hspec i o hol).2 d hd).1 (e.symm ▸ hk))]
          exact hbase k hk
      · intro j hj
        by_cases e : i = j
        · subst e
          cases hd : o.dst with
          | none => exact hsome i o hol hd _
          | some d =>
            rw [← hd, slot_put_same ho hd (by have := ((hspec i o hol).2 d hd).2.1; omega)]
            exact hv (by simp [hd])
        · rw [getD_set_ne false e] at hj
          have hj' := hΦ j hj
          have hjlt : j < l.length := by
            rcases Nat.lt_or_ge j listed.size with h | h
            · omega
            · simp [Array.getElem?_eq_none h] at hj
          have hoj : l[j]? = some l[j] := List.getElem?_eq_getElem hjlt
          have hoj' : l.toArray[j]? = some l[j] := by simp [hjlt]
          cases hd : o.dst with
          | none => exact hj'
          | some d =>
            cases hd' : (l[j]).dst with
            | none => exact hsome j _ hoj hd' _
            | some d' =>
              have hne : d ≠ d' := by
                intro ee
                subst ee
                rcases Nat.lt_or_gt_of_ne e with h | h
                · exact ((hspec j _ hoj).2 d hd').2.2 i o h hol hd
                · exact ((hspec i _ hol).2 d hd).2.2 j _ h hoj hd'
              rw [slot_put_other hoj' hd' hne]
              exact hj'
    unfold wpOp
    simp only [ho]
    split
    · rename_i hw
      simp only [hw, if_true] at hs
      refine .inl (Oper.wp_mono ?_ hs)
      rintro a' w' ⟨v, rfl, hv, hJ'⟩
      exact keep w' v hv hJ'
    · rename_i hw
      simp only [hw] at hs
      exact keep w undef hs.1 hs.2
  · rintro listed a w ⟨hsz, hdown, hdf, hn, hbase, hΦ, hJ⟩ hr
    have hall : ∀ i, i < l.length → listed.getD i false = true := by
      intro i
      induction i using Nat.strongRecOn with
      | ind i ih =>
        intro hi
        cases hl : listed.getD i true with
        | true =>
          have : i < listed.size := by omega
          simpa [this] using hl
        | false =>
          exfalso
          have hoi : l[i]? = some l[i] := List.getElem?_eq_getElem hi
          have : i ∈ Region.ready .any l.toArray listed := by
            refine mem_ready.2 ⟨hl, l[i], by simp [hi], fun e he hb => ?_⟩
            have := (hspec i _ hoi).1 e he hb
            exact ih e.on (by omega) (by omega)
          rw [hr] at this
          cases this
    exact hend listed a w hsz hall hdf hn hbase (fun i hi => hΦ i (hall i hi)) hJ
  · unfold toCome
    exact Nat.le_trans (List.length_filter_le _ _) (by simp)
  · have hf : ∀ i, (Array.replicate l.toArray.size false).getD i false = true → False := by
      intro i hi
      rcases Nat.lt_or_ge i l.length with h | h
      · simp [h] at hi
      · simp [h] at hi
    exact ⟨by simp, fun j _ _ hj => (hf j hj).elim, rfl, hN, fun _ _ => rfl, fun i hi => (hf i hi).elim, by simpa using h0⟩
end

theorem op_alloc {P : Program} {Q : Exit → Act → World → Prop} {K : Act → World → Prop} {a : Act} {w w' : World} {dst : Option Tmp} {ty : TypeId} {pos : String} {af : Array Edge} {gd : Option (Nat × Bool)} {v : Value} {t : TypeId}
    (hr : (Instr.alloc t true (.tuple #[])).run P w = .ok v w') (h : K (a.put dst v) w') : Oper.wp P ⟨dst, .alloc t, ty, pos, af, gd⟩ a w K Q := by
  unfold Oper.wp
  simp [execOp, hr, Oper.upon, h]

theorem NB.put {W : World} {R r : Nat} {v : Value} (h : NB W R v) (hne : r ≠ R) (c0 c1 : Value) : NB ((W.setCell ⟨r, 0, none⟩ c0).setCell ⟨r, 1, none⟩ c1) R v := (h.other (p := ⟨r, 0, none⟩) hne c0).other (p := ⟨r, 1, none⟩) hne c1

def twoB (l : List Oper) (c p q : Nat) : Bool :=
  decide (l.length = c + 4) && decide (p < c) && decide (q < c) && (l.all fun o => o.guard.isNone) && ((l[c + 2]?).map fun o => (preds o).contains c && (preds o).contains p && o.dst.isNone).getD false && ((l[c + 3]?).map fun o => (preds o).contains (c + 1) && (preds o).contains q && o.dst.isNone).getD false && ((l.take (c + 2)).all fun o => o.dst.isSome)

theorem two_any {P : Program} {Q : Exit → Act → World → Prop} {l : List Oper} {a0 : Act} {w0 : World} (c p q N : Nat) (kept : List Nat) (Ψ : Nat → World → Value → Prop) (zq zr : Int)
    (hg : fitF N 0 kept l = true) (hB : twoB l c p q = true) (hN : a0.tmps.size = N)
    (hmono : ∀ i w w' v, Ψ i w v → Below w.heap.size w w' → Ψ i w' v)
    (hmonoP : ∀ i w v r u c0 c1, Ψ i w v → NB w r u → Ψ i ((w.setCell ⟨r, 0, none⟩ c0).setCell ⟨r, 1, none⟩ c1) v)
    (hq : ∀ w v, Ψ p w v → IsN w v zq) (hr : ∀ w v, Ψ q w v → IsN w v zr)
    (hpre : ∀ i, i < c → ∀ (a : Act) (w : World), (∀ k, k ∈ kept → a.tmps[k]? = a0.tmps[k]?) → (∀ j, (preds (l.getD i default)).contains j = true → Ψ j w (slotOf l.toArray a j)) → Below w0.heap.size w0 w →
      (l.getD i default).wp P a w (fun a' w' => ∃ v, a' = a.put (l.getD i default).dst v ∧ Below w.heap.size w w' ∧ Ψ i w' v) Q)
    (halloc : ∀ i, i = c ∨ i = c + 1 → ∀ (a : Act) (w : World), (l.getD i default).wp P a w (fun a' w' => a' = a.put (l.getD i default).dst (.pointer (some ⟨w.heap.size, 0, none⟩)) ∧ Below w.heap.size w w' ∧ ∃ u, NB w' w.heap.size u) Q)
    (hstA : ∀ (a : Act) (w : World) (r : Nat) (u : Value), slotOf l.toArray a c = .pointer (some ⟨r, 0, none⟩) → NB w r u → IsN w (slotOf l.toArray a p) zq →
      (l.getD (c + 2) default).wp P a w (fun a' w' => a' = a ∧ NB w' r (slotOf l.toArray a p) ∧ ∃ c0 c1, w' = (w.setCell ⟨r, 0, none⟩ c0).setCell ⟨r, 1, none⟩ c1) Q)
    (hstB : ∀ (a : Act) (w : World) (r : Nat) (u : Value), slotOf l.toArray a (c + 1) = .pointer (some ⟨r, 0, none⟩) → NB w r u → IsN w (slotOf l.toArray a q) zr →
      (l.getD (c + 3) default).wp P a w (fun a' w' => a' = a ∧ NB w' r (slotOf l.toArray a q) ∧ ∃ c0 c1, w' = (w.setCell ⟨r, 0, none⟩ c0).setCell ⟨r, 1, none⟩ c1) Q)
    (hend : ∀ (a : Act) (w : World) (rA rB : Nat) (vA vB : Value), a.defers = a0.defers → a.tmps.size = N → (∀ k, k ∈ kept → a.tmps[k]? = a0.tmps[k]?) → slotOf l.toArray a c = .pointer (some ⟨rA, 0, none⟩) → slotOf l.toArray a (c + 1) = .pointer (some ⟨rB, 0, none⟩) →
      rA ≠ rB → w0.heap.size ≤ rA → w0.heap.size ≤ rB → NB w rA vA → IsN w vA zq → NB w rB vB → IsN w vB zr → Below w0.heap.size w0 w → Q .normal a w) :
    wpAny P .any l.toArray Q l.toArray.size (Array.replicate l.toArray.size false) a0 w0 := by
  simp only [twoB, Bool.and_eq_true, decide_eq_true_eq] at hB
  obtain ⟨⟨⟨⟨⟨⟨hlen, hpc⟩, hqc⟩, hguard⟩, hd2⟩, hd3⟩, hdst⟩ := hB
  have hg0 : ∀ (i : Nat) (o : Oper), l[i]? = some o → o.guard = none := fun i o ho => by
    have := List.all_eq_true.1 hguard o (List.mem_of_getElem? ho)
    simpa using this
  have h2c : ∀ o, l[c + 2]? = some o → (preds o).contains c = true ∧ (preds o).contains p = true ∧ o.dst = none := fun o ho => by
    rw [ho] at hd2
    simp only [Option.map_some, Option.getD_some, Bool.and_eq_true, Option.isNone_iff_eq_none] at hd2
    exact ⟨hd2.1.1, hd2.1.2, hd2.2⟩
  have h3c : ∀ o, l[c + 3]? = some o → (preds o).contains (c + 1) = true ∧ (preds o).contains q = true ∧ o.dst = none := fun o ho => by
    rw [ho] at hd3
    simp only [Option.map_some, Option.getD_some, Bool.and_eq_true, Option.isNone_iff_eq_none] at hd3
    exact ⟨hd3.1.1, hd3.1.2, hd3.2⟩
  have hds : ∀ (i : Nat) (o : Oper), i < c + 2 → l[i]? = some o → ∃ d, o.dst = some d := fun i o hi ho => by
    have h1 : (l.take (c + 2))[i]? = some o := by rw [List.getElem?_take, if_pos hi]; exact ho
    have := List.all_eq_true.1 hdst o (List.mem_of_getElem? h1)
    exact Option.isSome_iff_exists.1 (by simpa using this)
  have hspec := fitF_spec l 0 kept hg
  have hgd : ∀ (i : Nat) (o : Oper), l[i]? = some o → l.getD i default = o := fun i o ho => by simp [List.getD_eq_getElem?_getD, ho]
  have hslot : ∀ (i j : Nat) (o : Oper) (a : Act) (v : Value), i ≠ j → j < c + 2 → l[i]? = some o → slotOf l.toArray (a.put o.dst v) j = slotOf l.toArray a j := fun i j o a v hij hj ho => by
    have hcl : j < l.length := by omega
    have hoc : l[j]? = some l[j] := List.getElem?_eq_getElem hcl
    obtain ⟨dc, hdc⟩ := hds j _ hj hoc
    cases hd : o.dst with
    | none => rfl
    | some d =>
      have hoc' : l.toArray[j]? = some l[j] := by simp [hcl]
      refine slot_put_other hoc' hdc ?_
      intro e
      subst e
      rcases Nat.lt_or_gt_of_ne hij with h | h
      · exact ((hspec j _ hoc).2 d hdc).2.2 i o h ho hd
      · exact ((hspec i _ ho).2 d hd).2.2 j _ h hoc hdc
  have hsame : ∀ (i : Nat) (o : Oper) (a : Act) (v : Value), i < c + 2 → a.tmps.size = N → l[i]? = some o → slotOf l.toArray (a.put o.dst v) i = v := fun i o a v hi hn ho => by
    obtain ⟨d, hd⟩ := hds i o hi ho
    rw [slot_put_same (by simpa using ho) hd (by have := ((hspec i o ho).2 d hd).2.1; omega)]
  have pinj : ∀ {r s : Nat}, (Value.pointer (some ⟨r, 0, none⟩) : Value) = .pointer (some ⟨s, 0, none⟩) → r = s := fun e9 => by
    injection e9 with e9
    injection e9 with e9
    injection e9 with e9
  let J : Array Bool → Act → World → Prop := fun listed a w => Below w0.heap.size w0 w ∧ (∀ j, j < c → listed.getD j false = true → Ψ j w (slotOf l.toArray a j)) ∧
    (listed.getD c false = true → ∃ r u, slotOf l.toArray a c = .pointer (some ⟨r, 0, none⟩) ∧ w0.heap.size ≤ r ∧ NB w r u ∧ (listed.getD (c + 2) false = true → IsN w u zq)) ∧
    (listed.getD (c + 1) false = true → ∃ r u, slotOf l.toArray a (c + 1) = .pointer (some ⟨r, 0, none⟩) ∧ w0.heap.size ≤ r ∧ NB w r u ∧ (listed.getD (c + 3) false = true → IsN w u zr)) ∧
    (listed.getD c false = true → listed.getD (c + 1) false = true → slotOf l.toArray a c ≠ slotOf l.toArray a (c + 1))
  refine stepsF N kept (fun _ _ => True) J hg hN ?_ ?_ (fun _ _ _ _ _ => trivial) ?_
  · have hf : ∀ j, (Array.replicate l.length false).getD j false = false := fun j => by
      by_cases h : j < l.length <;> simp [h]
    refine ⟨Below.refl _ _, fun j _ h => ?_, fun h => ?_, fun h => ?_, fun h => ?_⟩ <;> rw [hf] at h <;> cases h
  · intro i o ho listed a w hsz hun hdown hdf hn hk hp hJ
    have hil : i < l.length := (List.getElem?_eq_some_iff.1 ho).1
    have hunf : listed.getD i false = false := by
      have : i < listed.size := by omega
      simpa [this] using hun
    have hset : (listed.setIfInBounds i true).getD i false = true := by
      have : i < listed.size := by omega
      simp [this]
    have hw : Region.wanted o (yielded l.toArray a.tmps) = true := by simp [Region.wanted, hg0 i o ho]
    rw [if_pos hw]
    have hdc : ∀ (j : Nat) (o' : Oper), l[j]? = some o' → (∀ k, (preds o').contains k = true → k < j) := fun j o' ho' k hk => by
      obtain ⟨e, he, rfl⟩ := preds_spec hk
      have := (hspec j o' ho').1 e he.1 he.2
      omega
    have g2 : l[c + 2]? = some (l.getD (c + 2) default) := by simp [List.getD_eq_getElem?_getD, show c + 2 < l.length by omega]
    have g3 : l[c + 3]? = some (l.getD (c + 3) default) := by simp [List.getD_eq_getElem?_getD, show c + 3 < l.length by omega]
    have s2 : listed.getD (c + 2) false = true → listed.getD c false = true := fun h => hdown _ _ g2 h c (h2c _ g2).1
    have s3 : listed.getD (c + 3) false = true → listed.getD (c + 1) false = true := fun h => hdown _ _ g3 h (c + 1) (h3c _ g3).1
    obtain ⟨hb, hΨ, hA, hB, hne⟩ : J listed a w := hJ
    have nset : ∀ {j : Nat}, i ≠ j → (listed.setIfInBounds i true).getD j false = listed.getD j false := fun h => getD_set_ne false h
    by_cases i3 : i = c + 3
    · subst i3
      obtain ⟨l1, lq, dn⟩ := h3c o ho
      obtain ⟨rB, u, eB, lB, nB, _⟩ := hB (hp _ l1).1
      have hi := hr _ _ (hΨ q hqc (hp _ lq).1)
      have h4 := hstB a w rB u eB nB hi
      rw [hgd _ _ ho] at h4
      refine Oper.wp_mono ?_ h4
      rintro a' w' ⟨rfl, nB', c0, c1, rfl⟩
      refine ⟨undef, by rw [dn]; rfl, fun _ => trivial, below_put hb lB _ _, fun j hj hl => ?_, fun hl => ?_, fun _ => ⟨rB, _, eB, lB, nB', fun _ => hi.putN nB _ _⟩, fun hl hl' => ?_⟩
      · rw [nset (by omega)] at hl
        exact hmonoP _ _ _ _ _ _ _ (hΨ j hj hl) nB
      · rw [nset (by omega)] at hl
        obtain ⟨r, u', e, lr, n, hz⟩ := hA hl
        have hrr : rB ≠ r := fun e9 => hne hl (hp _ l1).1 (by rw [e, eB, e9])
        exact ⟨r, u', e, lr, n.put hrr _ _, fun h => (hz (by rwa [nset (by omega)] at h)).putN nB _ _⟩
      · rw [nset (by omega)] at hl hl'
        exact hne hl hl'
    · by_cases i2 : i = c + 2
      · subst i2
        obtain ⟨l1, lp, dn⟩ := h2c o ho
        obtain ⟨rA, u, eA, lA, nA, _⟩ := hA (hp _ l1).1
        have hi := hq _ _ (hΨ p hpc (hp _ lp).1)
        have h4 := hstA a w rA u eA nA hi
        rw [hgd _ _ ho] at h4
        refine Oper.wp_mono ?_ h4
        rintro a' w' ⟨rfl, nA', c0, c1, rfl⟩
        refine ⟨undef, by rw [dn]; rfl, fun _ => trivial, below_put hb lA _ _, fun j hj hl => ?_, fun _ => ⟨rA, _, eA, lA, nA', fun _ => hi.putN nA _ _⟩, fun hl => ?_, fun hl hl' => ?_⟩
        · rw [nset (by omega)] at hl
          exact hmonoP _ _ _ _ _ _ _ (hΨ j hj hl) nA
        · rw [nset (by omega)] at hl
          obtain ⟨r, u', e, lr, n, hz⟩ := hB hl
          have hrr : rA ≠ r := fun e9 => hne (hp _ l1).1 hl (by rw [e, eA, e9])
          exact ⟨r, u', e, lr, n.put hrr _ _, fun h => (hz (by rwa [nset (by omega)] at h)).putN nA _ _⟩
        · rw [nset (by omega)] at hl hl'
          exact hne hl hl'
      · by_cases ic1 : i = c + 1
        · subst ic1
          have h4 := halloc (c + 1) (.inr rfl) a w
          rw [hgd _ _ ho] at h4
          refine Oper.wp_mono ?_ h4
          rintro a' w' ⟨rfl, hb', u, nB⟩
          refine ⟨_, rfl, fun _ => trivial, hb.trans (hb'.mono hb.size), fun j hj hl => ?_, fun hl => ?_, fun _ => ⟨w.heap.size, u, hsame _ _ _ _ (by omega) hn ho, hb.size, nB, fun h => ?_⟩, fun hl _ => ?_⟩
          · rw [nset (by omega)] at hl
            rw [hslot (c + 1) j o a _ (by omega) (by omega) ho]
            exact hmono _ _ _ _ (hΨ j hj hl) hb'
          · rw [nset (by omega)] at hl
            obtain ⟨r, u', e, lr, n, hz⟩ := hA hl
            exact ⟨r, u', by rw [hslot (c + 1) c o a _ (by omega) (by omega) ho]; exact e, lr, n.below hb', fun h => (hz (by rwa [nset (by omega)] at h)).below hb'⟩
          · rw [nset (by omega)] at h
            have := s3 h
            rw [hunf] at this
            cases this
          · rw [nset (by omega)] at hl
            obtain ⟨r, u', e, lr, n, _⟩ := hA hl
            rw [hslot (c + 1) c o a _ (by omega) (by omega) ho, e, hsame _ _ _ _ (by omega) hn ho]
            intro e9
            have := n.lt
            have := pinj e9
            omega
        · by_cases ic : i = c
          · subst ic
            have h4 := halloc i (.inl rfl) a w
            rw [hgd _ _ ho] at h4
            refine Oper.wp_mono ?_ h4
            rintro a' w' ⟨rfl, hb', u, nB⟩
            refine ⟨_, rfl, fun _ => trivial, hb.trans (hb'.mono hb.size), fun j hj hl => ?_, fun _ => ⟨w.heap.size, u, hsame _ _ _ _ (by omega) hn ho, hb.size, nB, fun h => ?_⟩, fun hl => ?_, fun _ hl => ?_⟩
            · rw [nset (by omega)] at hl
              rw [hslot i j o a _ (by omega) (by omega) ho]
              exact hmono _ _ _ _ (hΨ j hj hl) hb'
            · rw [nset (by omega)] at h
              have := s2 h
              rw [hunf] at this
              cases this
            · rw [nset (by omega)] at hl
              obtain ⟨r, u', e, lr, n, hz⟩ := hB hl
              exact ⟨r, u', by rw [hslot i (i + 1) o a _ (by omega) (by omega) ho]; exact e, lr, n.below hb', fun h => (hz (by rwa [nset (by omega)] at h)).below hb'⟩
            · rw [nset (by omega)] at hl
              obtain ⟨r, u', e, lr, n, _⟩ := hB hl
              rw [hslot i (i + 1) o a _ (by omega) (by omega) ho, e, hsame _ _ _ _ (by omega) hn ho]
              intro e9
              have := n.lt
              have := pinj e9
              omega
          · have h4 := hpre i (by omega) a w hk (by rw [hgd i o ho]; exact fun j hj => hΨ j (by have := hdc i o ho j hj; omega) (hp j hj).1) hb
            rw [hgd i o ho] at h4
            refine Oper.wp_mono ?_ h4
            rintro a' w' ⟨v, rfl, hb', hv⟩
            refine ⟨v, rfl, fun _ => trivial, hb.trans (hb'.mono hb.size), fun j hj hl => ?_, fun hl => ?_, fun hl => ?_, fun hl hl' => ?_⟩
            · by_cases e : i = j
              · subst e
                rw [hsame _ _ _ _ (by omega) hn ho]
                exact hv
              · rw [nset e] at hl
                rw [hslot i j o a v e (by omega) ho]
                exact hmono _ _ _ _ (hΨ j hj hl) hb'
            · rw [nset (by omega)] at hl
              obtain ⟨r, u', e, lr, n, hz⟩ := hA hl
              exact ⟨r, u', by rw [hslot i c o a _ (by omega) (by omega) ho]; exact e, lr, n.below hb', fun h => (hz (by rwa [nset (by omega)] at h)).below hb'⟩
            · rw [nset (by omega)] at hl
              obtain ⟨r, u', e, lr, n, hz⟩ := hB hl
              exact ⟨r, u', by rw [hslot i (c + 1) o a _ (by omega) (by omega) ho]; exact e, lr, n.below hb', fun h => (hz (by rwa [nset (by omega)] at h)).below hb'⟩
            · rw [nset (by omega)] at hl hl'
              rw [hslot i c o a _ (by omega) (by omega) ho, hslot i (c + 1) o a _ (by omega) (by omega) ho]
              exact hne hl hl'
  · intro listed a w hsz hall hdf hn hk _ hJ
    obtain ⟨hb, _, hA, hB, hne⟩ : J listed a w := hJ
    obtain ⟨rA, vA, eA, lA, nA, qA⟩ := hA (hall c (by omega))
    obtain ⟨rB, vB, eB, lB, nB, qB⟩ := hB (hall (c + 1) (by omega))
    exact hend a w rA rB vA vB hdf hn hk eA eB (fun e => hne (hall c (by omega)) (hall (c + 1) (by omega)) (by rw [eA, eB, e])) lA lB nA (qA (hall (c + 2) (by omega))) nB (qB (hall (c + 3) (by omega))) hb

end Go.Proofs.YtblblpilmoefgaaDoor

/- The document's numbers: quotients. -/
namespace Go.Proofs.YtblblpilmoefgaaDoor
open Go Go.RowKit

theorem alloc_N {w : World} : (Instr.alloc 31 true (.tuple #[])).run Tryd.prog w = .ok (.pointer (some ⟨w.heap.size, 0, none⟩)) (w.alloc (.cells #[.bool false, .slice none 0 0] 31)) := by go_simp
theorem neq_bool {w : World} {x y : Bool} : (binOp .neq 4 (.bool x) (.bool y)).run Tryd.prog w = .ok (.bool (x != y)) w := by cases x <;> cases y <;> go_simp
theorem neq_guard {w : World} {x y : Bool} {s t : Nat} : (eqGuard .neq 4 (.tmp s) (.tmp t) (.bool x) (.bool y)).run Tryd.prog w = .ok () w := by go_simp
theorem st_storeN {Q : Exit → Act → World → Prop} {a : Act} {w : World} {t s r : Nat} {u v : Value} {z : Int} {ty : TypeId} {pos : String} {af : Array Edge} {gd : Option (Nat × Bool)} (ht : a.eval (.tmp t) = .pointer (some ⟨r, 0, none⟩)) (hs : a.eval (.tmp s) = v) (hb : NB w r u) (hi : IsN w v z) :
    Oper.wp Tryd.prog ⟨none, .store 31 (.tmp t) (.tmp s), ty, pos, af, gd⟩ a w (fun a' w' => a' = a ∧ NB w' r v ∧ ∃ c0 c1, w' = (w.setCell ⟨r, 0, none⟩ c0).setCell ⟨r, 1, none⟩ c1) Q := by
  obtain ⟨b1, a1, l1, c1, rfl⟩ := hi.form
  obtain ⟨_, _, k0, k1, f0, f1⟩ := NB.facts0 hb
  exact op_store (a := a) ht hs (storeN k0 k1 f0 f1) ⟨rfl, hb.set b1 a1 l1 c1, _, _, rfl⟩


def quoKept : List Nat := (List.range 52).filter fun k => ![24, 25, 26, 27, 28, 29, 30, 31, 32, 33, 34, 8, 9].contains k
set_option maxRecDepth 100000 in
theorem quoN_r4 {Q : Exit → Act → World → Prop} {a0 : Act} {w0 : World} (r2 r3 : Nat) (bx bc : Bool) (sx sy : Value) (qs rs : List Int) (hN : a0.tmps.size = 52)
    (t2 : a0.tmps[2]? = some (.pointer (some ⟨r2, 0, none⟩))) (t3 : a0.tmps[3]? = some (.pointer (some ⟨r3, 0, none⟩))) (t6 : a0.tmps[6]? = some sx) (t7 : a0.tmps[7]? = some sy)
    (k2 : w0.cell? ⟨r2, 0, none⟩ = some (.bool bx)) (k3 : w0.cell? ⟨r3, 0, none⟩ = some (.bool bc)) (l2 : r2 < w0.heap.size) (l3 : r3 < w0.heap.size)
    (nq : Ns w0 sx qs) (nr : Ns w0 sy rs) (dq : T4.Dig qs) (dr : T4.Dig rs) (lq : qs.length ≤ 100000) (lr : rs.length ≤ 100000)
    (hQ : ∀ (a : Act) (w : World) (rA rB : Nat) (vA vB : Value), a.defers = a0.defers → a.tmps.size = 52 → (∀ k, k ∈ quoKept → a.tmps[k]? = a0.tmps[k]?) → a.tmps.getD 8 undef = .pointer (some ⟨rA, 0, none⟩) → a.tmps.getD 9 undef = .pointer (some ⟨rB, 0, none⟩) →
      rA ≠ rB → w0.heap.size ≤ rA → w0.heap.size ≤ rB → NB w rA vA → IsN w vA (if (bx != bc) = true then -T4.val qs else T4.val qs) → NB w rB vB → IsN w vB (if bx = true then -T4.val rs else T4.val rs) → Below w0.heap.size w0 w → Q .normal a w) :
    (Code.region 4 (regionOf Tryd.f34 4).toArray true).wp Tryd.prog Q a0 w0 := by
  refine wp_region_any (by kernel_rfl) ?_
  have hD : Below w0.heap.size w0 w0.drew := (Below.refl _ w0).drew
  refine two_any 11 6 10 52 quoKept (fun i w v => match i with
      | 0 => v = .pointer (some ⟨r2, 0, none⟩) | 1 => v = .bool bx | 2 => v = .pointer (some ⟨r3, 0, none⟩) | 3 => v = .bool bc | 4 => v = .bool (bx != bc) | 5 => v = sx
      | 6 => IsN w v (if (bx != bc) = true then -T4.val qs else T4.val qs) | 7 => v = .pointer (some ⟨r2, 0, none⟩) | 8 => v = .bool bx | 9 => v = sy | 10 => IsN w v (if bx = true then -T4.val rs else T4.val rs) | _ => True)
    (if (bx != bc) = true then -T4.val qs else T4.val qs) (if bx = true then -T4.val rs else T4.val rs)
    (by kernel_rfl) (by kernel_rfl) hN ?_ ?_ (fun _ _ h => h) (fun _ _ h => h) ?_ ?_ ?_ ?_ ?_
  · intro i w w' v h hb
    match i, h with
    | 0, h => exact h
    | 1, h => exact h
    | 2, h => exact h
    | 3, h => exact h
    | 4, h => exact h
    | 5, h => exact h
    | 6, h => exact IsN.below h hb
    | 7, h => exact h
    | 8, h => exact h
    | 9, h => exact h
    | 10, h => exact IsN.below h hb
    | _ + 11, _ => trivial
  · intro i w v r u c0 c1 h hb
    match i, h with
    | 0, h => exact h
    | 1, h => exact h
    | 2, h => exact h
    | 3, h => exact h
    | 4, h => exact h
    | 5, h => exact h
    | 6, h => exact IsN.putN h hb _ _
    | 7, h => exact h
    | 8, h => exact h
    | 9, h => exact h
    | 10, h => exact IsN.putN h hb _ _
    | _ + 11, _ => trivial
  · intro i hi a w hk hp hA'
    have hA := hD.trans hA'
    match i, hi with
    | 0, _ => exact op_fieldAddr (eval_kept (hk 2 (by decide)) t2) fieldN0 ⟨_, rfl, Below.refl _ _, rfl⟩
    | 1, _ =>
      have p : a.tmps.getD 24 undef = .pointer (some ⟨r2, 0, none⟩) := hp 0 rfl
      exact op_load (a := a) p (load_boolN ((hA.cell (p := ⟨r2, 0, none⟩) l2).trans k2)) ⟨_, rfl, Below.refl _ _, rfl⟩
    | 2, _ => exact op_fieldAddr (eval_kept (hk 3 (by decide)) t3) fieldN0 ⟨_, rfl, Below.refl _ _, rfl⟩
    | 3, _ =>
      have p : a.tmps.getD 26 undef = .pointer (some ⟨r3, 0, none⟩) := hp 2 rfl
      exact op_load (a := a) p (load_boolN ((hA.cell (p := ⟨r3, 0, none⟩) l3).trans k3)) ⟨_, rfl, Below.refl _ _, rfl⟩
    | 4, _ =>
      have p : a.tmps.getD 25 undef = .bool bx := hp 1 rfl
      have q : a.tmps.getD 27 undef = .bool bc := hp 3 rfl
      exact op_bin (a := a) p q neq_guard neq_bool ⟨_, rfl, Below.refl _ _, rfl⟩
    | 5, _ => exact op_move ⟨_, rfl, Below.refl _ _, eval_kept (hk 6 (by decide)) t6⟩
    | 6, _ =>
      have p : a.tmps.getD 28 undef = .bool (bx != bc) := hp 4 rfl
      have q : a.tmps.getD 29 undef = sx := hp 5 rfl
      refine op_call enter_trimN ?_
      rw [args2, p, q]
      refine Calls.mono (trimN_is _ _ qs w (nq.below hA) dq lq) ?_
      rintro e w' ⟨r, rfl, hb, hi⟩
      exact ⟨_, rfl, _, rfl, hb, hi⟩
    | 7, _ => exact op_fieldAddr (eval_kept (hk 2 (by decide)) t2) fieldN0 ⟨_, rfl, Below.refl _ _, rfl⟩
    | 8, _ =>
      have p : a.tmps.getD 31 undef = .pointer (some ⟨r2, 0, none⟩) := hp 7 rfl
      exact op_load (a := a) p (load_boolN ((hA.cell (p := ⟨r2, 0, none⟩) l2).trans k2)) ⟨_, rfl, Below.refl _ _, rfl⟩
    | 9, _ => exact op_move ⟨_, rfl, Below.refl _ _, eval_kept (hk 7 (by decide)) t7⟩
    | 10, _ =>
      have p : a.tmps.getD 32 undef = .bool bx := hp 8 rfl
      have q : a.tmps.getD 33 undef = sy := hp 9 rfl
      refine op_call enter_trimN ?_
      rw [args2, p, q]
      refine Calls.mono (trimN_is _ _ rs w (nr.below hA) dr lr) ?_
      rintro e w' ⟨r, rfl, hb, hi⟩
      exact ⟨_, rfl, _, rfl, hb, hi⟩
  · rintro i (rfl | rfl) a w
    · exact op_alloc alloc_N ⟨rfl, (Below.refl _ w).alloc (Nat.le_refl _) _, _, NB.new w false none 0 0⟩
    · exact op_alloc alloc_N ⟨rfl, (Below.refl _ w).alloc (Nat.le_refl _) _, _, NB.new w false none 0 0⟩
  · intro a w r u e8 hb hi
    exact st_storeN (a := a) e8 rfl hb hi
  · intro a w r u e9 hb hi
    exact st_storeN (a := a) e9 rfl hb hi
  · intro a w rA rB vA vB hd hsz hk eA eB hne lA lB nA qA nB qB hb
    exact hQ a w rA rB vA vB hd hsz hk eA eB hne lA lB nA qA nB qB (hD.trans hb)


def quoKept8 : List Nat := (List.range 52).filter fun k => ![44, 45, 46].contains k
set_option maxRecDepth 100000 in
theorem quoN_r8 {Q : Exit → Act → World → Prop} {a0 : Act} {w0 : World} (B r8 : Nat) (v8 : Value) (z : Int) (hN : a0.tmps.size = 52)
    (t8 : a0.tmps[8]? = some (.pointer (some ⟨r8, 0, none⟩))) (n8 : NB w0 r8 v8) (i8 : IsN w0 v8 z) (hz : (z.natAbs : Int) < T4.pw 4000) (hB : B ≤ r8)
    (hQ : ∀ (a : Act) (w : World) (v : Value), a.defers = a0.defers → a.tmps.size = 52 → (∀ k, k ∈ quoKept8 → a.tmps[k]? = a0.tmps[k]?) → NB w r8 v → IsN w v (z + 1) → Below B w0 w → (∀ r u, r ≠ r8 → NB w0 r u → NB w r u) → (∀ u y, IsN w0 u y → IsN w u y) → Q .normal a w) :
    (Code.region 8 (regionOf Tryd.f34 8).toArray true).wp Tryd.prog Q a0 w0 := by
  refine wp_region_any (by kernel_rfl) ?_
  refine coll2_any 2 52 quoKept8 (fun i w v => match i with | 0 => v = v8 | 1 => IsN w v 1 | _ => True)
    (fun w => Below w0.heap.size w0 w)
    (fun v w => Below w0.heap.size w0 w ∧ IsN w v (z + 1))
    (fun v w => NB w r8 v ∧ IsN w v (z + 1) ∧ Below B w0 w ∧ (∀ r u, r ≠ r8 → NB w0 r u → NB w r u) ∧ (∀ u y, IsN w0 u y → IsN w u y))
    (by kernel_rfl) (by kernel_rfl) hN (Below.refl _ w0).drew ?_ ?_ ?_ ?_ ?_
  · intro i w w' v h hb
    match i, h with
    | 0, h => exact h
    | 1, h => exact IsN.below h hb
    | _ + 2, _ => trivial
  · intro i hi a w hk hp hA
    match i, hi with
    | 0, _ => exact op_load (a := a) (eval_kept (hk 8 (by decide)) t8) (load_NB (n8.below hA)) ⟨_, rfl, Below.refl _ _, rfl, hA⟩
    | 1, _ =>
      refine op_call enter_ofN ?_
      have e : (#[Operand.const (.int .i64 1)]).map a.eval = #[.int .i64 1] := by simp only [List.map_toArray, List.map_cons, List.map_nil, Act.eval]
      rw [e]
      refine Calls.mono (ofN_any 1 w (by omega) (by omega)) ?_
      rintro e w' ⟨r, rfl, hb, hi⟩
      exact ⟨_, rfl, _, rfl, hb, hi, hA.trans (hb.mono hA.size)⟩
  · intro a w hk hp hA
    have p : a.tmps.getD 44 undef = v8 := hp 0 rfl
    have q : IsN w (a.tmps.getD 45 undef) 1 := hp 1 rfl
    refine op_call enter_addN ?_
    rw [args2, p]
    refine Calls.mono (addN_any _ _ z 1 w (i8.below hA) q (Int.lt_of_lt_of_le hz (T4.pw_mono (by omega))) (by have := T4.pw_mono (show 1 ≤ 9000 by omega); have h1 : T4.pw 1 = 10000 := (by decide); omega)) ?_
    rintro e w' ⟨r, rfl, hb, hi⟩
    exact ⟨_, rfl, _, rfl, hA.trans (hb.mono hA.size), hi⟩
  · rintro a w hk ⟨hA, hi⟩
    have n8' := n8.below hA
    refine Oper.wp_mono ?_ (st_storeN (a := a) (eval_kept (hk 8 (by decide)) t8) rfl n8' hi)
    rintro a' w' ⟨rfl, hn, c0, c1, rfl⟩
    exact ⟨rfl, hn, hi.putN n8' _ _, below_put (hA.mono (Nat.le_trans hB (Nat.le_of_lt n8.lt))) hB _ _, fun r u hr h => (h.below hA).put (Ne.symm hr) _ _, fun u y h => (h.below hA).putN n8' _ _⟩
  · rintro a w hd hsz hk ⟨h1, h2, h3, h4, h5⟩
    exact hQ a w _ hd hsz hk h1 h2 h3 h4 h5


def quoKept9 : List Nat := (List.range 52).filter fun k => ![47, 48, 49].contains k
set_option maxRecDepth 100000 in
theorem quoN_r9 {Q : Exit → Act → World → Prop} {a0 : Act} {w0 : World} (B r8 : Nat) (v8 : Value) (z : Int) (hN : a0.tmps.size = 52)
    (t8 : a0.tmps[8]? = some (.pointer (some ⟨r8, 0, none⟩))) (n8 : NB w0 r8 v8) (i8 : IsN w0 v8 z) (hz : (z.natAbs : Int) < T4.pw 4000) (hB : B ≤ r8)
    (hQ : ∀ (a : Act) (w : World) (v : Value), a.defers = a0.defers → a.tmps.size = 52 → (∀ k, k ∈ quoKept9 → a.tmps[k]? = a0.tmps[k]?) → NB w r8 v → IsN w v (z - 1) → Below B w0 w → (∀ r u, r ≠ r8 → NB w0 r u → NB w r u) → (∀ u y, IsN w0 u y → IsN w u y) → Q .normal a w) :
    (Code.region 9 (regionOf Tryd.f34 9).toArray true).wp Tryd.prog Q a0 w0 := by
  refine wp_region_any (by kernel_rfl) ?_
  refine coll2_any 2 52 quoKept9 (fun i w v => match i with | 0 => v = v8 | 1 => IsN w v 1 | _ => True)
    (fun w => Below w0.heap.size w0 w)
    (fun v w => Below w0.heap.size w0 w ∧ IsN w v (z - 1))
    (fun v w => NB w r8 v ∧ IsN w v (z - 1) ∧ Below B w0 w ∧ (∀ r u, r ≠ r8 → NB w0 r u → NB w r u) ∧ (∀ u y, IsN w0 u y → IsN w u y))
    (by kernel_rfl) (by kernel_rfl) hN (Below.refl _ w0).drew ?_ ?_ ?_ ?_ ?_
  · intro i w w' v h hb
    match i, h with
    | 0, h => exact h
    | 1, h => exact IsN.below h hb
    | _ + 2, _ => trivial
  · intro i hi a w hk hp hA
    match i, hi with
    | 0, _ => exact op_load (a := a) (eval_kept (hk 8 (by decide)) t8) (load_NB (n8.below hA)) ⟨_, rfl, Below.refl _ _, rfl, hA⟩
    | 1, _ =>
      refine op_call enter_ofN ?_
      have e : (#[Operand.const (.int .i64 1)]).map a.eval = #[.int .i64 1] := by simp only [List.map_toArray, List.map_cons, List.map_nil, Act.eval]
      rw [e]
      refine Calls.mono (ofN_any 1 w (by omega) (by omega)) ?_
      rintro e w' ⟨r, rfl, hb, hi⟩
      exact ⟨_, rfl, _, rfl, hb, hi, hA.trans (hb.mono hA.size)⟩
  · intro a w hk hp hA
    have p : a.tmps.getD 47 undef = v8 := hp 0 rfl
    have q : IsN w (a.tmps.getD 48 undef) 1 := hp 1 rfl
    refine op_call enter_subN ?_
    rw [args2, p]
    refine Calls.mono (subN_any _ _ z 1 w (i8.below hA) q (Int.lt_of_lt_of_le hz (T4.pw_mono (by omega))) (by have := T4.pw_mono (show 1 ≤ 9000 by omega); have h1 : T4.pw 1 = 10000 := (by decide); omega)) ?_
    rintro e w' ⟨r, rfl, hb, hi⟩
    exact ⟨_, rfl, _, rfl, hA.trans (hb.mono hA.size), hi⟩
  · rintro a w hk ⟨hA, hi⟩
    have n8' := n8.below hA
    refine Oper.wp_mono ?_ (st_storeN (a := a) (eval_kept (hk 8 (by decide)) t8) rfl n8' hi)
    rintro a' w' ⟨rfl, hn, c0, c1, rfl⟩
    exact ⟨rfl, hn, hi.putN n8' _ _, below_put (hA.mono (Nat.le_trans hB (Nat.le_of_lt n8.lt))) hB _ _, fun r u hr h => (h.below hA).put (Ne.symm hr) _ _, fun u y h => (h.below hA).putN n8' _ _⟩
  · rintro a w hd hsz hk ⟨h1, h2, h3, h4, h5⟩
    exact hQ a w _ hd hsz hk h1 h2 h3 h4 h5


theorem two_out {P : Program} {Q : Exit → Act → World → Prop} {l : List Oper} {a0 : Act} {w0 w1 w2 : World} (N : Nat) (kept : List Nat) (va vb : Value)
    (hg : fitF N 0 kept l = true) (hl : l.length = 4) (hgu : (l.all fun o => o.guard.isNone) = true)
    (hp2 : (preds (l.getD 2 default)).contains 0 = true) (hp31 : (preds (l.getD 3 default)).contains 1 = true) (hp32 : (preds (l.getD 3 default)).contains 2 = true)
    (hd01 : (l.getD 0 default).dst.isSome = true ∧ (l.getD 1 default).dst.isSome = true ∧ (l.getD 2 default).dst = none ∧ (l.getD 3 default).dst = none) (hN : a0.tmps.size = N)
    (h0 : ∀ a : Act, (∀ k, k ∈ kept → a.tmps[k]? = a0.tmps[k]?) → (l.getD 0 default).wp P a w0 (fun a' w' => a' = a.put (l.getD 0 default).dst va ∧ w' = w0) Q)
    (h1 : ∀ (a : Act) (w : World), (∀ k, k ∈ kept → a.tmps[k]? = a0.tmps[k]?) → w = w0 ∨ w = w1 → (l.getD 1 default).wp P a w (fun a' w' => a' = a.put (l.getD 1 default).dst vb ∧ w' = w) Q)
    (h2 : ∀ a : Act, (∀ k, k ∈ kept → a.tmps[k]? = a0.tmps[k]?) → slotOf l.toArray a 0 = va → (l.getD 2 default).wp P a w0 (fun a' w' => a' = a ∧ w' = w1) Q)
    (h3 : ∀ a : Act, (∀ k, k ∈ kept → a.tmps[k]? = a0.tmps[k]?) → slotOf l.toArray a 1 = vb → (l.getD 3 default).wp P a w1 (fun a' w' => a' = a ∧ w' = w2) Q)
    (hend : ∀ a : Act, a.defers = a0.defers → a.tmps.size = N → (∀ k, k ∈ kept → a.tmps[k]? = a0.tmps[k]?) → Q .normal a w2) :
    wpAny P .any l.toArray Q l.toArray.size (Array.replicate l.toArray.size false) a0 w0 := by
  have hg0 : ∀ (i : Nat) (o : Oper), l[i]? = some o → o.guard = none := fun i o ho => by
    have := List.all_eq_true.1 hgu o (List.mem_of_getElem? ho)
    simpa using this
  have hgd : ∀ (i : Nat) (o : Oper), l[i]? = some o → l.getD i default = o := fun i o ho => by simp [List.getD_eq_getElem?_getD, ho]
  obtain ⟨d0, d1, d2, d3⟩ := hd01
  let Φ : Nat → Value → Prop := fun i v => (i = 0 → v = va) ∧ (i = 1 → v = vb)
  let J : Array Bool → Act → World → Prop := fun listed _ w => w = if listed.getD 3 false = true then w2 else if listed.getD 2 false = true then w1 else w0
  have hf : ∀ j, (Array.replicate l.length false).getD j false = false := fun j => by
    by_cases h : j < l.length <;> simp [h]
  refine stepsF N kept Φ J hg hN ?_ ?_ ?_ ?_
  · show w0 = if _ then _ else _
    rw [hf, hf]
    simp
  · intro i o ho listed a w hsz hun hdown hdf hn hk hp hJ
    have hil : i < 4 := by have := (List.getElem?_eq_some_iff.1 ho).1; omega
    have hunf : listed.getD i false = false := by
      have : i < listed.size := by omega
      simpa [this] using hun
    have hset : (listed.setIfInBounds i true).getD i false = true := by
      have : i < listed.size := by omega
      simp [this]
    have hw : Region.wanted o (yielded l.toArray a.tmps) = true := by simp [Region.wanted, hg0 i o ho]
    rw [if_pos hw]
    have e := hgd i o ho
    have g2 : l[2]? = some (l.getD 2 default) := by simp [List.getD_eq_getElem?_getD, hl]
    have g3 : l[3]? = some (l.getD 3 default) := by simp [List.getD_eq_getElem?_getD, hl]
    have s2 : listed.getD 2 false = true → listed.getD 0 false = true := fun h => hdown 2 _ g2 h 0 hp2
    have s3 : listed.getD 3 false = true → listed.getD 1 false = true ∧ listed.getD 2 false = true := fun h => ⟨hdown 3 _ g3 h 1 hp31, hdown 3 _ g3 h 2 hp32⟩
    have hJ' : w = if listed.getD 3 false = true then w2 else if listed.getD 2 false = true then w1 else w0 := hJ
    have ff : ∀ {b : Bool}, ¬ b = true → b = false := fun h => by simpa using h
    match i, hil with
    | 0, _ =>
      have n2 : listed.getD 2 false = false := ff fun h => by have := s2 h; rw [hunf] at this; cases this
      have n3 : listed.getD 3 false = false := ff fun h => by have := (s3 h).2; rw [n2] at this; cases this
      rw [n3, n2] at hJ'
      have hw0 : w = w0 := hJ'
      subst hw0
      have h := h0 a hk
      rw [e] at h
      refine Oper.wp_mono ?_ h
      rintro a' w' ⟨rfl, rfl⟩
      refine ⟨_, rfl, fun _ => ⟨fun _ => rfl, fun h => by cases h⟩, ?_⟩
      show _ = if _ then _ else _
      rw [getD_set_ne false (by decide : (0 : Nat) ≠ 3), getD_set_ne false (by decide : (0 : Nat) ≠ 2), n3, n2]
      rfl
    | 1, _ =>
      have n3 : listed.getD 3 false = false := ff fun h => by have := (s3 h).1; rw [hunf] at this; cases this
      have hw1 : w = w0 ∨ w = w1 := by
        rw [n3] at hJ'
        cases h : listed.getD 2 false with
        | true => rw [h] at hJ'; exact .inr hJ'
        | false => rw [h] at hJ'; exact .inl hJ'
      have h := h1 a w hk hw1
      rw [e] at h
      refine Oper.wp_mono ?_ h
      rintro a' w' ⟨rfl, rfl⟩
      refine ⟨_, rfl, fun _ => ⟨fun h => (by cases h), fun _ => rfl⟩, ?_⟩
      show _ = if _ then _ else _
      rw [getD_set_ne false (by decide : (1 : Nat) ≠ 3), getD_set_ne false (by decide : (1 : Nat) ≠ 2)]
      exact hJ'
    | 2, _ =>
      have n3 : listed.getD 3 false = false := ff fun h => by have := (s3 h).2; rw [hunf] at this; cases this
      rw [n3, hunf] at hJ'
      have hw0 : w = w0 := hJ'
      subst hw0
      have h := h2 a hk ((hp 0 (by rw [← e]; exact hp2)).2.1 rfl)
      rw [e] at h
      refine Oper.wp_mono ?_ h
      rintro a' w' ⟨rfl, rfl⟩
      refine ⟨undef, by rw [← e, d2]; rfl, fun h => (by rw [← e, d2] at h; cases h), ?_⟩
      show _ = if _ then _ else _
      rw [getD_set_ne false (by decide : (2 : Nat) ≠ 3), n3, hset]
      rfl
    | 3, _ =>
      have l2 : listed.getD 2 false = true := (hp 2 (by rw [← e]; exact hp32)).1
      rw [hunf, l2] at hJ'
      have hw0 : w = w1 := hJ'
      subst hw0
      have h := h3 a hk ((hp 1 (by rw [← e]; exact hp31)).2.2 rfl)
      rw [e] at h
      refine Oper.wp_mono ?_ h
      rintro a' w' ⟨rfl, rfl⟩
      refine ⟨undef, by rw [← e, d3]; rfl, fun h => (by rw [← e, d3] at h; cases h), ?_⟩
      show _ = if _ then _ else _
      rw [hset]
      rfl
  · intro i o ho hd v
    have hil : i < 4 := by have := (List.getElem?_eq_some_iff.1 ho).1; omega
    have e := hgd i o ho
    refine ⟨fun h => ?_, fun h => ?_⟩
    · subst h; rw [e, hd] at d0; cases d0
    · subst h; rw [e, hd] at d1; cases d1
  · intro listed a w hsz hall hdf hn hk _ hJ
    have hJ' : w = if listed.getD 3 false = true then w2 else if listed.getD 2 false = true then w1 else w0 := hJ
    rw [hall 3 (by omega)] at hJ'
    have hw : w = w2 := hJ'
    subst hw
    exact hend a hdf hn hk


theorem build_N {Q : Exit → Act → World → Prop} {K : Act → World → Prop} {a : Act} {w : World} {dst : Option Tmp} {ty : TypeId} {pos : String} {af : Array Edge} {gd : Option (Nat × Bool)} (h : K (a.put dst (.agg #[.bool false, .slice none 0 0])) w) : Oper.wp Tryd.prog ⟨dst, .build 31 #[], ty, pos, af, gd⟩ a w K Q := by
  unfold Oper.wp
  simp only [execOp]
  go_simp
  exact h
theorem NB.putSelf2 {w : World} {r : Nat} {u v : Value} {z : Int} (hb : NB w r u) (hi : IsN w v z) : ∃ c0 c1, (Instr.storeAt 31 (.pointer (some ⟨r, 0, none⟩)) v).run Tryd.prog w = .ok () ((w.setCell ⟨r, 0, none⟩ c0).setCell ⟨r, 1, none⟩ c1) ∧ NB ((w.setCell ⟨r, 0, none⟩ c0).setCell ⟨r, 1, none⟩ c1) r v := by
  obtain ⟨b1, a1, l1, c1, rfl⟩ := hi.form
  obtain ⟨_, _, k0, k1, f0, f1⟩ := NB.facts0 hb
  exact ⟨_, _, storeN k0 k1 f0 f1, hb.set b1 a1 l1 c1⟩
set_option maxRecDepth 100000 in
theorem quoN_r2 {Q : Exit → Act → World → Prop} {a0 : Act} {w0 : World} (B r4 r5 r9 : Nat) (v8 v9 u4 u5 : Value) (z8 z9 : Int) (hN : a0.tmps.size = 52)
    (t4 : a0.tmps[4]? = some (.pointer (some ⟨r4, 0, none⟩))) (t5 : a0.tmps[5]? = some (.pointer (some ⟨r5, 0, none⟩))) (hv8 : v8 = .agg #[.bool false, .slice none 0 0]) (t9 : a0.tmps[2]? = some (.pointer (some ⟨r9, 0, none⟩))) (n9 : NB w0 r9 v9)
    (i8 : IsN w0 v8 z8) (i9 : IsN w0 v9 z9) (n4 : NB w0 r4 u4) (n5 : NB w0 r5 u5) (h45 : r4 ≠ r5) (h49 : r4 ≠ r9) (b4 : B ≤ r4) (b5 : B ≤ r5)
    (hQ : ∀ (a : Act) (w : World), a.defers = a0.defers → a.tmps[4]? = some (.pointer (some ⟨r4, 0, none⟩)) → a.tmps[5]? = some (.pointer (some ⟨r5, 0, none⟩)) → NB w r4 v8 → NB w r5 v9 → IsN w v8 z8 → IsN w v9 z9 → Below B w0 w → Q .normal a w) :
    (Code.region 2 (regionOf Tryd.f34 2).toArray true).wp Tryd.prog Q a0 w0 := by
  refine wp_region_any (by kernel_rfl) ?_
  have hD : Below w0.heap.size w0 w0.drew := (Below.refl _ w0).drew
  have n4' := n4.below hD
  have i8' := i8.below hD
  obtain ⟨c0, c1, e1, m4⟩ := NB.putSelf2 n4' i8'
  have n5' := (n5.below hD).put h45 c0 c1
  have i9' := (i9.below hD).putN n4' c0 c1
  obtain ⟨d0, d1, e2, m5⟩ := NB.putSelf2 n5' i9'
  refine two_out 52 ((List.range 52).filter fun k => ![14, 15].contains k) v8 v9 (by kernel_rfl) (by kernel_rfl) (by kernel_rfl) (by kernel_rfl) (by kernel_rfl) (by kernel_rfl) ⟨by kernel_rfl, by kernel_rfl, by kernel_rfl, by kernel_rfl⟩ hN (w1 := (w0.drew.setCell ⟨r4, 0, none⟩ c0).setCell ⟨r4, 1, none⟩ c1) (w2 := (((w0.drew.setCell ⟨r4, 0, none⟩ c0).setCell ⟨r4, 1, none⟩ c1).setCell ⟨r5, 0, none⟩ d0).setCell ⟨r5, 1, none⟩ d1) ?_ ?_ ?_ ?_ ?_
  · intro a hk
    subst hv8
    exact build_N ⟨rfl, rfl⟩
  · rintro a w hk (rfl | rfl)
    · exact op_load (a := a) (eval_kept (hk 2 (by decide)) t9) (load_NB (n9.below hD)) ⟨rfl, rfl⟩
    · exact op_load (a := a) (eval_kept (hk 2 (by decide)) t9) (load_NB ((n9.below hD).put h49 c0 c1)) ⟨rfl, rfl⟩
  · intro a hk e
    exact op_store (a := a) (eval_kept (hk 4 (by decide)) t4) e e1 ⟨rfl, rfl⟩
  · intro a hk e
    exact op_store (a := a) (eval_kept (hk 5 (by decide)) t5) e e2 ⟨rfl, rfl⟩
  · intro a hd hsz hk
    exact hQ a _ hd ((hk 4 (by decide)).trans t4) ((hk 5 (by decide)).trans t5) (m4.put (Ne.symm h45) _ _) m5 ((i8'.putN n4' _ _).putN n5' _ _) (i9'.putN n5' _ _) (below_put (below_put (hD.mono (Nat.le_trans b4 (Nat.le_of_lt n4.lt))) b4 _ _) b5 _ _)


theorem NB.putSelf10 {w : World} {r : Nat} {u v : Value} {z : Int} (hb : NB w r u) (hi : IsN w v z) : ∃ c0 c1, (Instr.storeAt 31 (.pointer (some ⟨r, 0, none⟩)) v).run Tryd.prog w = .ok () ((w.setCell ⟨r, 0, none⟩ c0).setCell ⟨r, 1, none⟩ c1) ∧ NB ((w.setCell ⟨r, 0, none⟩ c0).setCell ⟨r, 1, none⟩ c1) r v := by
  obtain ⟨b1, a1, l1, c1, rfl⟩ := hi.form
  obtain ⟨_, _, k0, k1, f0, f1⟩ := NB.facts0 hb
  exact ⟨_, _, storeN k0 k1 f0 f1, hb.set b1 a1 l1 c1⟩
set_option maxRecDepth 100000 in
theorem quoN_r10 {Q : Exit → Act → World → Prop} {a0 : Act} {w0 : World} (B r4 r5 r8 r9 : Nat) (v8 v9 u4 u5 : Value) (z8 z9 : Int) (hN : a0.tmps.size = 52)
    (t4 : a0.tmps[4]? = some (.pointer (some ⟨r4, 0, none⟩))) (t5 : a0.tmps[5]? = some (.pointer (some ⟨r5, 0, none⟩))) (t8 : a0.tmps[8]? = some (.pointer (some ⟨r8, 0, none⟩))) (n8 : NB w0 r8 v8) (t9 : a0.tmps[9]? = some (.pointer (some ⟨r9, 0, none⟩))) (n9 : NB w0 r9 v9)
    (i8 : IsN w0 v8 z8) (i9 : IsN w0 v9 z9) (n4 : NB w0 r4 u4) (n5 : NB w0 r5 u5) (h45 : r4 ≠ r5) (h49 : r4 ≠ r9) (b4 : B ≤ r4) (b5 : B ≤ r5)
    (hQ : ∀ (a : Act) (w : World), a.defers = a0.defers → a.tmps[4]? = some (.pointer (some ⟨r4, 0, none⟩)) → a.tmps[5]? = some (.pointer (some ⟨r5, 0, none⟩)) → NB w r4 v8 → NB w r5 v9 → IsN w v8 z8 → IsN w v9 z9 → Below B w0 w → Q .normal a w) :
    (Code.region 10 (regionOf Tryd.f34 10).toArray true).wp Tryd.prog Q a0 w0 := by
  refine wp_region_any (by kernel_rfl) ?_
  have hD : Below w0.heap.size w0 w0.drew := (Below.refl _ w0).drew
  have n4' := n4.below hD
  have i8' := i8.below hD
  obtain ⟨c0, c1, e1, m4⟩ := NB.putSelf10 n4' i8'
  have n5' := (n5.below hD).put h45 c0 c1
  have i9' := (i9.below hD).putN n4' c0 c1
  obtain ⟨d0, d1, e2, m5⟩ := NB.putSelf10 n5' i9'
  refine two_out 52 ((List.range 52).filter fun k => ![50, 51].contains k) v8 v9 (by kernel_rfl) (by kernel_rfl) (by kernel_rfl) (by kernel_rfl) (by kernel_rfl) (by kernel_rfl) ⟨by kernel_rfl, by kernel_rfl, by kernel_rfl, by kernel_rfl⟩ hN (w1 := (w0.drew.setCell ⟨r4, 0, none⟩ c0).setCell ⟨r4, 1, none⟩ c1) (w2 := (((w0.drew.setCell ⟨r4, 0, none⟩ c0).setCell ⟨r4, 1, none⟩ c1).setCell ⟨r5, 0, none⟩ d0).setCell ⟨r5, 1, none⟩ d1) ?_ ?_ ?_ ?_ ?_
  · intro a hk
    exact op_load (a := a) (eval_kept (hk 8 (by decide)) t8) (load_NB (n8.below hD)) ⟨rfl, rfl⟩
  · rintro a w hk (rfl | rfl)
    · exact op_load (a := a) (eval_kept (hk 9 (by decide)) t9) (load_NB (n9.below hD)) ⟨rfl, rfl⟩
    · exact op_load (a := a) (eval_kept (hk 9 (by decide)) t9) (load_NB ((n9.below hD).put h49 c0 c1)) ⟨rfl, rfl⟩
  · intro a hk e
    exact op_store (a := a) (eval_kept (hk 4 (by decide)) t4) e e1 ⟨rfl, rfl⟩
  · intro a hk e
    exact op_store (a := a) (eval_kept (hk 5 (by decide)) t5) e e2 ⟨rfl, rfl⟩
  · intro a hd hsz hk
    exact hQ a _ hd ((hk 4 (by decide)).trans t4) ((hk 5 (by decide)).trans t5) (m4.put (Ne.symm h45) _ _) m5 ((i8'.putN n4' _ _).putN n5' _ _) (i9'.putN n5' _ _) (below_put (below_put (hD.mono (Nat.le_trans b4 (Nat.le_of_lt n4.lt))) b4 _ _) b5 _ _)

end Go.Proofs.YtblblpilmoefgaaDoor

/- The document's numbers: the walk of Quo. -/
namespace Go.Proofs.YtblblpilmoefgaaDoor
open Go Go.RowKit

theorem quo_math {z1 z2 q r : Int} (h : z1 = z2 * q + r) (h0 : 0 ≤ r) (h1 : r < (z2.natAbs : Int)) : z1 / z2 = q ∧ z1 % z2 = r := by
  rcases Int.lt_trichotomy z2 0 with hz | hz | hz
  · have h2 : (z2.natAbs : Int) = -z2 := by omega
    have h3 := (Int.ediv_emod_unique (a := z1) (b := -z2) (q := -q) (r := r) (by omega)).2 ⟨by rw [h, Int.neg_mul_neg]; omega, h0, by omega⟩
    rw [Int.ediv_neg, Int.emod_neg] at h3
    exact ⟨by omega, h3.2⟩
  · subst hz; simp at h1; omega
  · have h2 : (z2.natAbs : Int) = z2 := by omega
    exact (Int.ediv_emod_unique hz).2 ⟨by rw [h]; omega, h0, by omega⟩
theorem quo_fin {z1 z2 Q R q0 r0 : Int} (h : (z1.natAbs : Int) = Q * (z2.natAbs : Int) + R) (h0 : 0 ≤ R) (h1 : R < (z2.natAbs : Int))
    (hq : q0 = if (decide (z1 < 0) != decide (z2 < 0)) = true then -Q else Q) (hr : r0 = if decide (z1 < 0) = true then -R else R) :
    (¬ r0 < 0 → z1 / z2 = q0 ∧ z1 % z2 = r0) ∧ (r0 < 0 → z2 < 0 → z1 / z2 = q0 + 1 ∧ z1 % z2 = r0 + (z2.natAbs : Int)) ∧ (r0 < 0 → ¬ z2 < 0 → z1 / z2 = q0 - 1 ∧ z1 % z2 = r0 + (z2.natAbs : Int)) := by
  obtain ⟨X, hX⟩ : ∃ X : Int, X = z1.natAbs := ⟨_, rfl⟩
  obtain ⟨Y, hY⟩ : ∃ Y : Int, Y = z2.natAbs := ⟨_, rfl⟩
  rw [← hX, ← hY] at h
  rw [← hY] at h1 ⊢
  have m : ∀ q r : Int, z1 = z2 * q + r → 0 ≤ r → r < Y → z1 / z2 = q ∧ z1 % z2 = r := fun q r e e0 e1 => quo_math e e0 (by omega)
  by_cases s1 : z1 < 0
  · obtain rfl : z1 = -X := by omega
    by_cases s2 : z2 < 0
    · obtain rfl : z2 = -Y := by omega
      simp only [s1, s2, decide_true, bne_self_eq_false, Bool.false_eq_true, if_false, if_true] at hq hr
      subst hq hr
      refine ⟨fun g => m _ _ ?_ ?_ ?_, fun g _ => m _ _ ?_ ?_ ?_, fun _ g => absurd s2 g⟩ <;> first | omega | grind
    · obtain rfl : z2 = Y := by omega
      simp only [s1, s2, decide_true, decide_false, bne_iff_ne, ne_eq, Bool.true_eq_false, not_false_eq_true, if_true] at hq hr
      subst hq hr
      refine ⟨fun g => m _ _ ?_ ?_ ?_, fun _ g => absurd g s2, fun g _ => m _ _ ?_ ?_ ?_⟩ <;> first | omega | grind
  · obtain rfl : z1 = X := by omega
    by_cases s2 : z2 < 0
    · obtain rfl : z2 = -Y := by omega
      simp only [s1, s2, decide_true, decide_false, bne_iff_ne, ne_eq, Bool.false_eq_true, not_false_eq_true, if_true, if_false] at hq hr
      subst hq hr
      refine ⟨fun g => m _ _ ?_ ?_ ?_, fun g _ => by omega, fun g _ => by omega⟩ <;> first | omega | grind
    · obtain rfl : z2 = Y := by omega
      simp only [s1, s2, decide_false, bne_self_eq_false, Bool.false_eq_true, if_false] at hq hr
      subst hq hr
      refine ⟨fun g => m _ _ ?_ ?_ ?_, fun g _ => by omega, fun g _ => by omega⟩ <;> first | omega | grind

theorem res_NN {W : World} {fn : Func} {a : Act} {t s r q : Nat} {v u : Value} (hf : fn.results = #[.cell t 31, .cell s 31]) (ht : a.tmps[t]? = some (.pointer (some ⟨r, 0, none⟩))) (hs : a.tmps[s]? = some (.pointer (some ⟨q, 0, none⟩))) (hb : NB W r v) (hc : NB W q u) : (results fn a.tmps).run Tryd.prog W = .ok (.tuple #[v, u]) W := by
  obtain ⟨b, aa, l, c, rfl, _⟩ := id hb
  obtain ⟨b', aa', l', c', rfl, _⟩ := id hc
  obtain ⟨k0, k1, f0, f1⟩ := hb.facts
  obtain ⟨m0, m1, g0, g1⟩ := hc.facts
  simp [results, hf, ht, hs, go_sem, k0, k1, m0, m1]

set_option maxRecDepth 100000 in
set_option maxHeartbeats 8000000 in
theorem quoN_any (v1 v2 : Value) (z1 z2 : Int) (w : World) (h1 : IsN w v1 z1) (h2 : IsN w v2 z2) (b1 : (z1.natAbs : Int) < T4.pw 3000) (b2 : (z2.natAbs : Int) < T4.pw 3000) :
    Calls Tryd.prog 34 #[v1, v2] w fun e w' => ∃ q r, e = .returned (.tuple #[q, r]) ∧ Below w.heap.size w w' ∧ IsN w' q (z1 / z2) ∧ IsN w' r (z1 % z2) := by
  have hi1 := h1
  have hi2 := h2
  obtain ⟨a1, l1, c1, xs, rfl, n1, d1, m1, e1, q1⟩ := h1.small b1
  obtain ⟨a2, l2, c2, ys, rfl, n2, d2, m2, e2, q2⟩ := h2.small b2
  have x1 := (((NB.new w (decide (z1 < 0)) a1 l1 c1).alloc (.cells #[.bool (decide (z2 < 0)), .slice a2 l2 c2] 31)).alloc (.cells #[.bool false, .slice none 0 0] 31)).alloc (.cells #[.bool false, .slice none 0 0] 31)
  have x2 := ((NB.new (w.alloc (.cells #[.bool (decide (z1 < 0)), .slice a1 l1 c1] 31)) (decide (z2 < 0)) a2 l2 c2).alloc (.cells #[.bool false, .slice none 0 0] 31)).alloc (.cells #[.bool false, .slice none 0 0] 31)
  have x3 := (NB.new ((w.alloc (.cells #[.bool (decide (z1 < 0)), .slice a1 l1 c1] 31)).alloc (.cells #[.bool (decide (z2 < 0)), .slice a2 l2 c2] 31)) false none 0 0).alloc (.cells #[.bool false, .slice none 0 0] 31)
  have x4 := NB.new (((w.alloc (.cells #[.bool (decide (z1 < 0)), .slice a1 l1 c1] 31)).alloc (.cells #[.bool (decide (z2 < 0)), .slice a2 l2 c2] 31)).alloc (.cells #[.bool false, .slice none 0 0] 31)) false none 0 0
  simp only [World.size_alloc] at x2 x3 x4
  have hB : Below w.heap.size w ((((w.alloc (.cells #[.bool (decide (z1 < 0)), .slice a1 l1 c1] 31)).alloc (.cells #[.bool (decide (z2 < 0)), .slice a2 l2 c2] 31)).alloc (.cells #[.bool false, .slice none 0 0] 31)).alloc (.cells #[.bool false, .slice none 0 0] 31)) := ((((Below.refl _ w).alloc (Nat.le_refl _) _).alloc (by simp) _).alloc (by simp; omega) _).alloc (by simp; omega) _
  replace n1 := n1.below hB
  replace n2 := n2.below hB
  replace hi1 := hi1.below hB
  replace hi2 := hi2.below hB
  have hl2 := n2.len
  obtain ⟨k10, k11, f10, f11⟩ := x1.facts
  obtain ⟨k20, k21, f20, f21⟩ := x2.facts
  have X1 := hide x1
  have X2 := hide x2
  have X3 := hide x3
  have X4 := hide x4
  have HB := hide hB
  by_cases hz : z2 = 0
  · have q9 : z1 / z2 = 0 := by rw [hz]; exact Int.ediv_zero z1
    have r9 : z1 % z2 = z1 := by rw [hz]; exact Int.emod_zero z1
    rw [q9, r9]
    clear q9 r9
    have hl0 : l2 = 0 := by
      rw [hl2]
      exact (val_zero_iff d2 m2).1 (by rw [e2, hz]; rfl)
    subst hl0
    have HI := hide hi1
    have HZ := hide (show ∀ W, IsN W (.agg #[.bool false, .slice none 0 0]) 0 from fun W => ⟨none, 0, 0, [], rfl, ⟨none, 0, rfl, Nat.le_refl _, fun h => absurd rfl h⟩, T4.Dig.nil, T4.Norm.nil, rfl⟩)
    clear h1 h2 n1 n2 d1 d2 m1 m2 e1 e2 q1 q2 x1 x2 x3 x4 hB b1 b2 hi1 hi2 hl2 hz
    go_enter Tryd.func34, Tryd.ntmps34
    go_wp2_with fail
    refine quoN_r2 w.heap.size (w.heap.size + 1 + 1) (w.heap.size + 1 + 1 + 1) w.heap.size (.agg #[.bool false, .slice none 0 0]) _ _ _ 0 z1 rfl rfl rfl rfl rfl (unhide X1) (unhide HZ _) (unhide HI) (unhide X3) (unhide X4) (by omega) (by omega) (by omega) (by omega) ?_
    intro a W hd t4 t5 y4 y5 i4 i5 hbl
    have hB9 := (unhide HB).trans hbl
    clear k10 k11 f10 f11 k20 k21 f20 f21
    go_wp2
    refine bodyPost_ret (res_NN rfl t4 t5 y4 y5) hd ⟨_, _, rfl, hB9, ?_, ?_⟩
    · exact i4
    · exact i5
  · have hy : 0 < T4.val ys := by rw [e2]; omega
    have hl0 : l2 ≠ 0 := by
      intro e
      rw [hl2] at e
      have := (val_zero_iff d2 m2).2 e
      omega
    have hl0' : decide ((l2 : Int) = 0) = false := by simpa using hl0
    have HP := hide (partN_any _ _ xs ys _ n1 n2 d1 d2 (by omega) (by omega) hy)
    have HA := hide (show IsN ((((w.alloc (.cells #[.bool (decide (z1 < 0)), .slice a1 l1 c1] 31)).alloc (.cells #[.bool (decide (z2 < 0)), .slice a2 l2 c2] 31)).alloc (.cells #[.bool false, .slice none 0 0] 31)).alloc (.cells #[.bool false, .slice none 0 0] 31)) (.agg #[.bool false, .slice a2 l2 c2]) (z2.natAbs : Int) from ⟨a2, l2, c2, ys, by simp, n2, d2, m2, by rw [e2]; simp⟩)
    have HE := hide (And.intro e1 (And.intro e2 (And.intro b1 b2)))
    clear h1 h2 n1 n2 d1 d2 m1 m2 e1 e2 q1 q2 x1 x2 x3 x4 hB b1 b2 hi1 hi2 hl2 hy
    go_enter Tryd.func34, Tryd.ntmps34
    go_wp2_with fail
    refine (unhide HP).mono ?_
    rintro e w1 ⟨vq, vr, qs, rs, rfl, hb1, nq, nr, dq, dr, hval, hlt, lq, lr⟩
    have HV := hide (And.intro hval (And.intro hlt (And.intro (T4.val_nonneg dr) (T4.val_nonneg dq))))
    have Y1 := hide ((unhide X1).below hb1)
    have Y2 := hide ((unhide X2).below hb1)
    have Y3 := hide ((unhide X3).below hb1)
    have Y4 := hide ((unhide X4).below hb1)
    have HA1 := hide ((unhide HA).below hb1)
    have HB1 := hide ((unhide HB).trans (hb1.mono (unhide HB).size))
    have NQ := hide (And.intro nq (And.intro nr (And.intro dq (And.intro dr (And.intro lq lr)))))
    clear hb1 nq nr dq dr lq lr hval hlt k10 k11 f10 f11 k20 k21 f20 f21 HP X1 X2 X3 X4 HA HB hl0 hl0'
    go_wp2_with fail
    refine quoN_r4 w.heap.size (w.heap.size + 1) (decide (z1 < 0)) (decide (z2 < 0)) vq vr qs rs rfl rfl rfl rfl rfl (unhide Y1).facts.1 (unhide Y2).facts.1 (unhide Y1).lt (unhide Y2).lt (unhide NQ).1 (unhide NQ).2.1 (unhide NQ).2.2.1 (unhide NQ).2.2.2.1 (by have := (unhide NQ).2.2.2.2.1; omega) (by have := (unhide NQ).2.2.2.2.2; omega) ?_
    intro a' w2 rA rB vA vB hd hsz hk eA eB hne lA lB nA qA nB qB hb2
    obtain ⟨q0, hq0⟩ : ∃ q0, q0 = (if (decide (z1 < 0) != decide (z2 < 0)) = true then -T4.val qs else T4.val qs) := ⟨_, rfl⟩
    obtain ⟨r0, hr0⟩ : ∃ r0, r0 = (if decide (z1 < 0) = true then -T4.val rs else T4.val rs) := ⟨_, rfl⟩
    rw [← hq0] at qA
    rw [← hr0] at qB
    have HF := hide (quo_fin (z1 := z1) (z2 := z2) (Q := T4.val qs) (R := T4.val rs) (by rw [← (unhide HE).1, ← (unhide HE).2.1]; exact (unhide HV).1) (unhide HV).2.2.1 (by rw [← (unhide HE).2.1]; exact (unhide HV).2.1) hq0 hr0)
    have HQ0 := hide (show (q0.natAbs : Int) < T4.pw 4000 by
      have h1 := (unhide HV).1
      have h2 := (unhide HV).2.1
      have h3 := (unhide HV).2.2
      have h4 := (unhide HE).1
      have h5 := (unhide HE).2.2.1
      have h6 := T4.pw_mono (show 3000 ≤ 4000 by omega)
      have h7 := Int.mul_le_mul_of_nonneg_left (show 1 ≤ T4.val ys by omega) h3.2
      have h8 : (q0.natAbs : Int) = T4.val qs := by rw [hq0]; split <;> omega
      omega)
    have HR0 := hide (show (r0.natAbs : Int) < T4.pw 3000 by
      have h2 := (unhide HV).2.1
      have h3 := (unhide HV).2.2.1
      have h4 := (unhide HE).2.1
      have h5 := (unhide HE).2.2.2
      have h8 : (r0.natAbs : Int) = T4.val rs := by rw [hr0]; split <;> omega
      omega)
    have Z2 := hide ((unhide Y2).below hb2)
    have Z3 := hide ((unhide Y3).below hb2)
    have Z4 := hide ((unhide Y4).below hb2)
    have HA2 := hide ((unhide HA1).below hb2)
    have l13 := (unhide Y4).lt
    have l12 := (unhide Y3).lt
    have l11 := (unhide Y2).lt
    have HB2 := hide ((unhide HB1).trans (hb2.mono (unhide HB1).size))
    have HS1 := hide (unhide HB1).size
    have HE2 := hide (unhide HE).2.2.2
    clear hq0 hr0 HV HE Y1 Y2 Y3 Y4 HA1 hb2 NQ HB1
    obtain ⟨u10, e10⟩ : ∃ u, a'.tmps.getD 10 undef = u := ⟨_, rfl⟩
    obtain ⟨u11, e11⟩ : ∃ u, a'.tmps.getD 11 undef = u := ⟨_, rfl⟩
    obtain ⟨u12, e12⟩ : ∃ u, a'.tmps.getD 12 undef = u := ⟨_, rfl⟩
    obtain ⟨u13, e13⟩ : ∃ u, a'.tmps.getD 13 undef = u := ⟨_, rfl⟩
    obtain ⟨u14, e14⟩ : ∃ u, a'.tmps.getD 14 undef = u := ⟨_, rfl⟩
    obtain ⟨u15, e15⟩ : ∃ u, a'.tmps.getD 15 undef = u := ⟨_, rfl⟩
    obtain ⟨u16, e16⟩ : ∃ u, a'.tmps.getD 16 undef = u := ⟨_, rfl⟩
    obtain ⟨u17, e17⟩ : ∃ u, a'.tmps.getD 17 undef = u := ⟨_, rfl⟩
    obtain ⟨u18, e18⟩ : ∃ u, a'.tmps.getD 18 undef = u := ⟨_, rfl⟩
    obtain ⟨u19, e19⟩ : ∃ u, a'.tmps.getD 19 undef = u := ⟨_, rfl⟩
    obtain ⟨u20, e20⟩ : ∃ u, a'.tmps.getD 20 undef = u := ⟨_, rfl⟩
    obtain ⟨u21, e21⟩ : ∃ u, a'.tmps.getD 21 undef = u := ⟨_, rfl⟩
    obtain ⟨u22, e22⟩ : ∃ u, a'.tmps.getD 22 undef = u := ⟨_, rfl⟩
    obtain ⟨u23, e23⟩ : ∃ u, a'.tmps.getD 23 undef = u := ⟨_, rfl⟩
    obtain ⟨u24, e24⟩ : ∃ u, a'.tmps.getD 24 undef = u := ⟨_, rfl⟩
    obtain ⟨u25, e25⟩ : ∃ u, a'.tmps.getD 25 undef = u := ⟨_, rfl⟩
    obtain ⟨u26, e26⟩ : ∃ u, a'.tmps.getD 26 undef = u := ⟨_, rfl⟩
    obtain ⟨u27, e27⟩ : ∃ u, a'.tmps.getD 27 undef = u := ⟨_, rfl⟩
    obtain ⟨u28, e28⟩ : ∃ u, a'.tmps.getD 28 undef = u := ⟨_, rfl⟩
    obtain ⟨u29, e29⟩ : ∃ u, a'.tmps.getD 29 undef = u := ⟨_, rfl⟩
    obtain ⟨u30, e30⟩ : ∃ u, a'.tmps.getD 30 undef = u := ⟨_, rfl⟩
    obtain ⟨u31, e31⟩ : ∃ u, a'.tmps.getD 31 undef = u := ⟨_, rfl⟩
    obtain ⟨u32, e32⟩ : ∃ u, a'.tmps.getD 32 undef = u := ⟨_, rfl⟩
    obtain ⟨u33, e33⟩ : ∃ u, a'.tmps.getD 33 undef = u := ⟨_, rfl⟩
    obtain ⟨u34, e34⟩ : ∃ u, a'.tmps.getD 34 undef = u := ⟨_, rfl⟩
    obtain ⟨u35, e35⟩ : ∃ u, a'.tmps.getD 35 undef = u := ⟨_, rfl⟩
    obtain ⟨u36, e36⟩ : ∃ u, a'.tmps.getD 36 undef = u := ⟨_, rfl⟩
    obtain ⟨u37, e37⟩ : ∃ u, a'.tmps.getD 37 undef = u := ⟨_, rfl⟩
    obtain ⟨u38, e38⟩ : ∃ u, a'.tmps.getD 38 undef = u := ⟨_, rfl⟩
    obtain ⟨u39, e39⟩ : ∃ u, a'.tmps.getD 39 undef = u := ⟨_, rfl⟩
    obtain ⟨u40, e40⟩ : ∃ u, a'.tmps.getD 40 undef = u := ⟨_, rfl⟩
    obtain ⟨u41, e41⟩ : ∃ u, a'.tmps.getD 41 undef = u := ⟨_, rfl⟩
    obtain ⟨u42, e42⟩ : ∃ u, a'.tmps.getD 42 undef = u := ⟨_, rfl⟩
    obtain ⟨u43, e43⟩ : ∃ u, a'.tmps.getD 43 undef = u := ⟨_, rfl⟩
    obtain ⟨u44, e44⟩ : ∃ u, a'.tmps.getD 44 undef = u := ⟨_, rfl⟩
    obtain ⟨u45, e45⟩ : ∃ u, a'.tmps.getD 45 undef = u := ⟨_, rfl⟩
    obtain ⟨u46, e46⟩ : ∃ u, a'.tmps.getD 46 undef = u := ⟨_, rfl⟩
    obtain ⟨u47, e47⟩ : ∃ u, a'.tmps.getD 47 undef = u := ⟨_, rfl⟩
    obtain ⟨u48, e48⟩ : ∃ u, a'.tmps.getD 48 undef = u := ⟨_, rfl⟩
    obtain ⟨u49, e49⟩ : ∃ u, a'.tmps.getD 49 undef = u := ⟨_, rfl⟩
    obtain ⟨u50, e50⟩ : ∃ u, a'.tmps.getD 50 undef = u := ⟨_, rfl⟩
    obtain ⟨u51, e51⟩ : ∃ u, a'.tmps.getD 51 undef = u := ⟨_, rfl⟩
    obtain rfl := act_lit [.agg #[.bool (decide (z1 < 0)), .slice a1 l1 c1], .agg #[.bool (decide (z2 < 0)), .slice a2 l2 c2], .pointer (some ⟨w.heap.size, 0, none⟩), .pointer (some ⟨w.heap.size + 1, 0, none⟩), .pointer (some ⟨w.heap.size + 1 + 1, 0, none⟩), .pointer (some ⟨w.heap.size + 1 + 1 + 1, 0, none⟩), vq, vr, .pointer (some ⟨rA, 0, none⟩), .pointer (some ⟨rB, 0, none⟩), u10, u11, u12, u13, u14, u15, u16, u17, u18, u19, u20, u21, u22, u23, u24, u25, u26, u27, u28, u29, u30, u31, u32, u33, u34, u35, u36, u37, u38, u39, u40, u41, u42, u43, u44, u45, u46, u47, u48, u49, u50, u51] hsz hd (fun k hk9 => by
      match k, hk9 with
      | 0, _ => exact (hk 0 (by decide)).trans rfl
      | 1, _ => exact (hk 1 (by decide)).trans rfl
      | 2, _ => exact (hk 2 (by decide)).trans rfl
      | 3, _ => exact (hk 3 (by decide)).trans rfl
      | 4, _ => exact (hk 4 (by decide)).trans rfl
      | 5, _ => exact (hk 5 (by decide)).trans rfl
      | 6, _ => exact (hk 6 (by decide)).trans rfl
      | 7, _ => exact (hk 7 (by decide)).trans rfl
      | 8, _ => exact tmp_get (by omega) eA
      | 9, _ => exact tmp_get (by omega) eB
      | 10, _ => exact tmp_get (by omega) e10
      | 11, _ => exact tmp_get (by omega) e11
      | 12, _ => exact tmp_get (by omega) e12
      | 13, _ => exact tmp_get (by omega) e13
      | 14, _ => exact tmp_get (by omega) e14
      | 15, _ => exact tmp_get (by omega) e15
      | 16, _ => exact tmp_get (by omega) e16
      | 17, _ => exact tmp_get (by omega) e17
      | 18, _ => exact tmp_get (by omega) e18
      | 19, _ => exact tmp_get (by omega) e19
      | 20, _ => exact tmp_get (by omega) e20
      | 21, _ => exact tmp_get (by omega) e21
      | 22, _ => exact tmp_get (by omega) e22
      | 23, _ => exact tmp_get (by omega) e23
      | 24, _ => exact tmp_get (by omega) e24
      | 25, _ => exact tmp_get (by omega) e25
      | 26, _ => exact tmp_get (by omega) e26
      | 27, _ => exact tmp_get (by omega) e27
      | 28, _ => exact tmp_get (by omega) e28
      | 29, _ => exact tmp_get (by omega) e29
      | 30, _ => exact tmp_get (by omega) e30
      | 31, _ => exact tmp_get (by omega) e31
      | 32, _ => exact tmp_get (by omega) e32
      | 33, _ => exact tmp_get (by omega) e33
      | 34, _ => exact tmp_get (by omega) e34
      | 35, _ => exact tmp_get (by omega) e35
      | 36, _ => exact tmp_get (by omega) e36
      | 37, _ => exact tmp_get (by omega) e37
      | 38, _ => exact tmp_get (by omega) e38
      | 39, _ => exact tmp_get (by omega) e39
      | 40, _ => exact tmp_get (by omega) e40
      | 41, _ => exact tmp_get (by omega) e41
      | 42, _ => exact tmp_get (by omega) e42
      | 43, _ => exact tmp_get (by omega) e43
      | 44, _ => exact tmp_get (by omega) e44
      | 45, _ => exact tmp_get (by omega) e45
      | 46, _ => exact tmp_get (by omega) e46
      | 47, _ => exact tmp_get (by omega) e47
      | 48, _ => exact tmp_get (by omega) e48
      | 49, _ => exact tmp_get (by omega) e49
      | 50, _ => exact tmp_get (by omega) e50
      | 51, _ => exact tmp_get (by omega) e51
      | _ + 52, h => exact absurd h (by simp))
    clear e10 e11 e12 e13 e14 e15 e16 e17 e18 e19 e20 e21 e22 e23 e24 e25 e26 e27 e28 e29 e30 e31 e32 e33 e34 e35 e36 e37 e38 e39 e40 e41 e42 e43 e44 e45 e46 e47 e48 e49 e50 e51 hsz hd
    clear hk eA eB
    obtain ⟨a9, l9, c9, zs9, rfl, _⟩ := id qB
    obtain ⟨k90, k91, f90, f91⟩ := nB.facts
    obtain ⟨k20, k21, f20, f21⟩ := (unhide Z2).facts
    have NA := hide (And.intro nA qA)
    have NBB := hide (And.intro nB qB)
    clear nA qA nB qB
    have hA2 : w.heap.size ≤ rA := by have := unhide HS1; omega
    have hB2 : w.heap.size ≤ rB := by have := unhide HS1; omega
    have ne1 : rB ≠ w.heap.size + 1 := by omega
    have ne2 : rB ≠ w.heap.size + 1 + 1 := by omega
    have ne3 : rB ≠ w.heap.size + 1 + 1 + 1 := by omega
    have ne4 : rA ≠ w.heap.size + 1 + 1 := by omega
    have ne5 : rA ≠ w.heap.size + 1 + 1 + 1 := by omega
    clear l11 l12 l13 lA lB HS1
    by_cases hneg : r0 < 0
    · have hd0 : decide (r0 < 0) = true := by simpa using hneg
      rw [hd0] at NBB k90
      have HADD := hide (addN_any _ _ r0 (z2.natAbs : Int) w2 (unhide NBB).2 (unhide HA2) (Int.lt_of_lt_of_le (unhide HR0) (T4.pw_mono (by omega))) (Int.lt_of_lt_of_le (show (((z2.natAbs : Int).natAbs : Nat) : Int) < T4.pw 3000 by have := unhide HE2; omega) (T4.pw_mono (by omega))))
      have HN := hide hneg
      clear hneg hd0
      go_wp2_with fail
      refine (unhide HADD).mono ?_
      rintro e w3 ⟨v3, rfl, hb3, i3⟩
      obtain ⟨b3, a3, l3, c3, rfl⟩ := i3.form
      have nB3 := (unhide NBB).1.below hb3
      have T9 := hide (And.intro (nB3.set b3 a3 l3 c3) (i3.putN nB3 (.bool b3) (.slice a3 l3 c3)))
      have T8 := hide (And.intro (((unhide NA).1.below hb3).put (Ne.symm hne) (.bool b3) (.slice a3 l3 c3)) (((unhide NA).2.below hb3).putN nB3 (.bool b3) (.slice a3 l3 c3)))
      have T2 := hide (((unhide Z2).below hb3).put ne1 (.bool b3) (.slice a3 l3 c3))
      have T3 := hide (((unhide Z3).below hb3).put ne2 (.bool b3) (.slice a3 l3 c3))
      have T4 := hide (((unhide Z4).below hb3).put ne3 (.bool b3) (.slice a3 l3 c3))
      have T5 := hide (below_put ((unhide HB2).trans (hb3.mono (unhide HB2).size)) hB2 (.bool b3) (.slice a3 l3 c3))
      have hne9 : rB ≠ rA := Ne.symm hne
      clear k90 k91 f90 f91 k20 k21 f20 f21 hb3 i3 Z2 Z3 Z4 HADD HA2 HB2 NBB NA
      obtain ⟨_, _, k90, k91, f90, f91⟩ := nB3.facts0
      obtain ⟨k20, k21, f20, f21⟩ := (unhide T2).facts
      clear nB3
      by_cases hs2 : z2 < 0
      · have hd2 : decide (z2 < 0) = true := by simpa using hs2
        have HS := hide hs2
        clear hs2
        rw [hd2] at k20
        go_wp2_with fail
        refine quoN_r8 w.heap.size rA vA q0 rfl rfl (unhide T8).1 (unhide T8).2 (unhide HQ0) hA2 ?_
        intro a' w6 v8 hd hsz hk n8 i8 hb6 hoth hisn
        have S3 := hoth _ _ (Ne.symm ne4) (unhide T3)
        have S4 := hoth _ _ (Ne.symm ne5) (unhide T4)
        have S9 := hoth _ _ hne9 (unhide T9).1
        have I9 := hisn _ _ (unhide T9).2
        have HB6 := hide ((unhide T5).trans hb6)
        clear hb6 hoth hisn k90 k91 f90 f91 k20 k21 f20 f21
        go_wp2_with fail
        refine quoN_r10 w.heap.size (w.heap.size + 1 + 1) (w.heap.size + 1 + 1 + 1) rA rB v8 _ _ _ (q0 + 1) (r0 + (z2.natAbs : Int)) hsz ((hk 4 (by decide)).trans rfl) ((hk 5 (by decide)).trans rfl) ((hk 8 (by decide)).trans rfl) n8 ((hk 9 (by decide)).trans rfl) S9 i8 I9 S3 S4 (by omega) (Ne.symm ne2) (by omega) (by omega) ?_
        intro a W hd' t4 t5 y4 y5 i4 i5 hbl
        have hB9 := (unhide HB6).trans hbl
        go_wp2
        refine bodyPost_ret (res_NN rfl t4 t5 y4 y5) (hd'.trans hd) ⟨_, _, rfl, hB9, ?_, ?_⟩
        · rw [((unhide HF).2.1 (unhide HN) (unhide HS)).1]; exact i4
        · rw [((unhide HF).2.1 (unhide HN) (unhide HS)).2]; exact i5
      · have hd2 : decide (z2 < 0) = false := by simpa using hs2
        have HS := hide hs2
        clear hs2
        rw [hd2] at k20
        go_wp2_with fail
        refine quoN_r9 w.heap.size rA vA q0 rfl rfl (unhide T8).1 (unhide T8).2 (unhide HQ0) hA2 ?_
        intro a' w6 v8 hd hsz hk n8 i8 hb6 hoth hisn
        have S3 := hoth _ _ (Ne.symm ne4) (unhide T3)
        have S4 := hoth _ _ (Ne.symm ne5) (unhide T4)
        have S9 := hoth _ _ hne9 (unhide T9).1
        have I9 := hisn _ _ (unhide T9).2
        have HB6 := hide ((unhide T5).trans hb6)
        clear hb6 hoth hisn k90 k91 f90 f91 k20 k21 f20 f21
        go_wp2_with fail
        refine quoN_r10 w.heap.size (w.heap.size + 1 + 1) (w.heap.size + 1 + 1 + 1) rA rB v8 _ _ _ (q0 - 1) (r0 + (z2.natAbs : Int)) hsz ((hk 4 (by decide)).trans rfl) ((hk 5 (by decide)).trans rfl) ((hk 8 (by decide)).trans rfl) n8 ((hk 9 (by decide)).trans rfl) S9 i8 I9 S3 S4 (by omega) (Ne.symm ne2) (by omega) (by omega) ?_
        intro a W hd' t4 t5 y4 y5 i4 i5 hbl
        have hB9 := (unhide HB6).trans hbl
        go_wp2
        refine bodyPost_ret (res_NN rfl t4 t5 y4 y5) (hd'.trans hd) ⟨_, _, rfl, hB9, ?_, ?_⟩
        · rw [((unhide HF).2.2 (unhide HN) (unhide HS)).1]; exact i4
        · rw [((unhide HF).2.2 (unhide HN) (unhide HS)).2]; exact i5
    · have hd0 : decide (r0 < 0) = false := by simpa using hneg
      have HN := hide hneg
      clear hneg
      go_wp2_with fail
      refine quoN_r10 w.heap.size (w.heap.size + 1 + 1) (w.heap.size + 1 + 1 + 1) rA rB vA _ _ _ q0 r0 rfl rfl rfl rfl (unhide NA).1 rfl (unhide NBB).1 (unhide NA).2 (unhide NBB).2 (unhide Z3) (unhide Z4) (by omega) (Ne.symm ne2) (by omega) (by omega) ?_
      intro a W hd t4 t5 y4 y5 i4 i5 hbl
      have hB9 := (unhide HB2).trans hbl
      clear k90 k91 f90 f91 k20 k21 f20 f21
      go_wp2
      refine bodyPost_ret (res_NN rfl t4 t5 y4 y5) hd ⟨_, _, rfl, hB9, ?_, ?_⟩
      · rw [((unhide HF).1 (unhide HN)).1]; exact i4
      · rw [((unhide HF).1 (unhide HN)).2]; exact i5

end Go.Proofs.YtblblpilmoefgaaDoor

/- The document's numbers: greatest divisors. -/
namespace Go.Proofs.YtblblpilmoefgaaDoor
open Go Go.RowKit

theorem Ns.inj {w : World} {v : Value} {xs ys : List Int} (h : Ns w v xs) (k : Ns w v ys) : xs = ys := by
  obtain ⟨a, c, rfl, h1, h2⟩ := h
  obtain ⟨a', c', e, k1, k2⟩ := k
  simp only [Value.slice.injEq] at e
  obtain ⟨rfl, e2, rfl⟩ := e
  by_cases hx : xs = []
  · subst hx
    exact (List.eq_nil_of_length_eq_zero (by simpa using e2.symm)).symm
  · obtain ⟨b, o, rfl, hb, hc⟩ := h2 hx
    obtain ⟨b', o', e, hb', hc'⟩ := k2 (by intro e; subst e; exact hx (List.eq_nil_of_length_eq_zero (by simpa using e2)))
    simp only [Option.some.injEq, Addr.mk.injEq, and_true] at e
    obtain ⟨rfl, rfl⟩ := e
    apply List.ext_getElem e2
    intro i p q
    have h := hc i p
    rw [hc' i q] at h
    simp only [Option.some.injEq, Value.int.injEq, true_and] at h
    rw [List.getElem?_eq_getElem p, List.getElem?_eq_getElem q] at h
    exact h.symm
theorem IsN.inj {w : World} {v : Value} {y z : Int} (h : IsN w v y) (k : IsN w v z) : y = z := by
  obtain ⟨a, l, c, xs, rfl, h1, _, _, h4⟩ := h
  obtain ⟨a', l', c', ys, e, k1, _, _, k4⟩ := k
  simp only [Value.agg.injEq, Array.mk.injEq, List.cons.injEq, Value.bool.injEq, Value.slice.injEq, and_true] at e
  obtain ⟨e1, rfl, rfl, rfl⟩ := e
  obtain rfl := h1.inj k1
  rw [h4] at k4
  by_cases hy : y < 0
  · have : z < 0 := by simpa [hy] using e1
    omega
  · have : ¬ z < 0 := by simpa [hy] using e1
    omega
theorem NB.inj {W : World} {R : Nat} {v u : Value} (h : NB W R v) (k : NB W R u) : v = u := by
  obtain ⟨n, a, l, c, rfl, h⟩ := h
  obtain ⟨n', a', l', c', rfl, k⟩ := k
  rw [h] at k
  simpa using k
theorem nb_nat : ∃ f : World → Nat → Nat, ∀ {W : World} {R : Nat} {v : Value} {z : Int}, NB W R v → IsN W v z → f W R = z.natAbs := by
  refine ⟨fun W R => @dite _ (∃ z : Int, ∃ v, NB W R v ∧ IsN W v z) (Classical.propDecidable _) (fun h => (Classical.choose h).natAbs) (fun _ => 0), ?_⟩
  intro W R v z hb hi
  have h : ∃ z : Int, ∃ v, NB W R v ∧ IsN W v z := ⟨z, v, hb, hi⟩
  obtain ⟨u, k1, k2⟩ := Classical.choose_spec h
  obtain rfl := hb.inj k1
  show @dite _ _ (Classical.propDecidable _) _ _ = _
  rw [dif_pos h, hi.inj k2]

theorem build_Nd {Q : Exit → Act → World → Prop} {K : Act → World → Prop} {a : Act} {w : World} {dst : Option Tmp} {ty : TypeId} {pos : String} {af : Array Edge} {gd : Option (Nat × Bool)} {s : Nat} {aa : Option Addr} {l c : Nat} (hs : a.eval (.tmp s) = .slice aa l c) (h : K (a.put dst (.agg #[.bool false, .slice aa l c])) w) : Oper.wp Tryd.prog ⟨dst, .build 31 #[(0, .const (.bool false)), (1, .tmp s)], ty, pos, af, gd⟩ a w K Q := by
  have he : a.eval (.const (.bool false)) = .bool false := rfl
  unfold Oper.wp
  simp only [execOp, hs, he, List.map_toArray, List.map_cons, List.map_nil]
  go_simp
  exact h
theorem enter_quoN : Enters Tryd.prog 34 := ⟨fun xs w => by go_simp⟩

def gcdKept1 : List Nat := (List.range 28).filter fun k => ![9, 10, 11, 12, 13, 14, 5, 6].contains k
set_option maxRecDepth 100000 in
theorem gcdN_r1 {Q : Exit → Act → World → Prop} {a0 : Act} {w0 : World} (r2 r3 : Nat) (a1 a2 : Option Addr) (l1 c1 l2 c2 : Nat) (x y : Int) (hN : a0.tmps.size = 28)
    (t2 : a0.tmps[2]? = some (.pointer (some ⟨r2, 0, none⟩))) (t3 : a0.tmps[3]? = some (.pointer (some ⟨r3, 0, none⟩)))
    (k2 : w0.cell? ⟨r2, 1, none⟩ = some (.slice a1 l1 c1)) (k3 : w0.cell? ⟨r3, 1, none⟩ = some (.slice a2 l2 c2)) (b2 : r2 < w0.heap.size) (b3 : r3 < w0.heap.size)
    (ix : IsN w0 (.agg #[.bool false, .slice a1 l1 c1]) x) (iy : IsN w0 (.agg #[.bool false, .slice a2 l2 c2]) y)
    (hQ : ∀ (a : Act) (w : World) (rA rB : Nat) (vA vB : Value), a.defers = a0.defers → a.tmps.size = 28 → (∀ k, k ∈ gcdKept1 → a.tmps[k]? = a0.tmps[k]?) → a.tmps.getD 5 undef = .pointer (some ⟨rA, 0, none⟩) → a.tmps.getD 6 undef = .pointer (some ⟨rB, 0, none⟩) →
      rA ≠ rB → w0.heap.size ≤ rA → w0.heap.size ≤ rB → NB w rA vA → IsN w vA x → NB w rB vB → IsN w vB y → Below w0.heap.size w0 w → Q .normal a w) :
    (Code.region 1 (regionOf Tryd.f36 1).toArray true).wp Tryd.prog Q a0 w0 := by
  refine wp_region_any (by kernel_rfl) ?_
  have hD : Below w0.heap.size w0 w0.drew := (Below.refl _ w0).drew
  refine two_any 6 2 5 28 gcdKept1 (fun i w v => match i with
      | 0 => v = .pointer (some ⟨r2, 1, none⟩) | 1 => v = .slice a1 l1 c1 | 2 => IsN w v x | 3 => v = .pointer (some ⟨r3, 1, none⟩) | 4 => v = .slice a2 l2 c2 | 5 => IsN w v y | _ => True)
    x y (by kernel_rfl) (by kernel_rfl) hN ?_ ?_ (fun _ _ h => h) (fun _ _ h => h) ?_ ?_ ?_ ?_ ?_
  · intro i w w' v h hb
    match i, h with
    | 0, h => exact h
    | 1, h => exact h
    | 2, h => exact IsN.below h hb
    | 3, h => exact h
    | 4, h => exact h
    | 5, h => exact IsN.below h hb
    | _ + 6, _ => trivial
  · intro i w v r u c0 c1 h hb
    match i, h with
    | 0, h => exact h
    | 1, h => exact h
    | 2, h => exact IsN.putN h hb _ _
    | 3, h => exact h
    | 4, h => exact h
    | 5, h => exact IsN.putN h hb _ _
    | _ + 6, _ => trivial
  · intro i hi a w hk hp hA'
    have hA := hD.trans hA'
    match i, hi with
    | 0, _ => exact op_fieldAddr (eval_kept (hk 2 (by decide)) t2) fieldN1 ⟨_, rfl, Below.refl _ _, rfl⟩
    | 1, _ =>
      have p : a.tmps.getD 9 undef = .pointer (some ⟨r2, 1, none⟩) := hp 0 rfl
      exact op_load (a := a) p (load_intsN ((hA.cell (p := ⟨r2, 1, none⟩) b2).trans k2)) ⟨_, rfl, Below.refl _ _, rfl⟩
    | 2, _ =>
      have p : a.tmps.getD 10 undef = .slice a1 l1 c1 := hp 1 rfl
      exact build_Nd (a := a) p ⟨_, rfl, Below.refl _ _, ix.below hA⟩
    | 3, _ => exact op_fieldAddr (eval_kept (hk 3 (by decide)) t3) fieldN1 ⟨_, rfl, Below.refl _ _, rfl⟩
    | 4, _ =>
      have p : a.tmps.getD 12 undef = .pointer (some ⟨r3, 1, none⟩) := hp 3 rfl
      exact op_load (a := a) p (load_intsN ((hA.cell (p := ⟨r3, 1, none⟩) b3).trans k3)) ⟨_, rfl, Below.refl _ _, rfl⟩
    | 5, _ =>
      have p : a.tmps.getD 13 undef = .slice a2 l2 c2 := hp 4 rfl
      exact build_Nd (a := a) p ⟨_, rfl, Below.refl _ _, iy.below hA⟩
  · rintro i (rfl | rfl) a w
    · exact op_alloc alloc_N ⟨rfl, (Below.refl _ w).alloc (Nat.le_refl _) _, _, NB.new w false none 0 0⟩
    · exact op_alloc alloc_N ⟨rfl, (Below.refl _ w).alloc (Nat.le_refl _) _, _, NB.new w false none 0 0⟩
  · intro a w r u e8 hb hi
    exact st_storeN (a := a) e8 rfl hb hi
  · intro a w r u e9 hb hi
    exact st_storeN (a := a) e9 rfl hb hi
  · intro a w rA rB vA vB hd hsz hk eA eB hne lA lB nA qA nB qB hb
    exact hQ a w rA rB vA vB hd hsz hk eA eB hne lA lB nA qA nB qB (hD.trans hb)

def gcdKept4 : List Nat := (List.range 28).filter fun k => ![25, 26].contains k
set_option maxRecDepth 100000 in
theorem gcdN_r4 {Q : Exit → Act → World → Prop} {a0 : Act} {w0 : World} (B r5 r6 r8 : Nat) (u5 v6 v8 : Value) (y m : Int) (hN : a0.tmps.size = 28)
    (t5 : a0.tmps[5]? = some (.pointer (some ⟨r5, 0, none⟩))) (t6 : a0.tmps[6]? = some (.pointer (some ⟨r6, 0, none⟩))) (t8 : a0.tmps[8]? = some (.pointer (some ⟨r8, 0, none⟩)))
    (n5 : NB w0 r5 u5) (n6 : NB w0 r6 v6) (n8 : NB w0 r8 v8) (iy : IsN w0 v6 y) (im : IsN w0 v8 m) (h56 : r5 ≠ r6) (h58 : r5 ≠ r8) (b5 : B ≤ r5) (b6 : B ≤ r6)
    (hQ : ∀ (a : Act) (w : World), a.defers = a0.defers → a.tmps.size = 28 → (∀ k, k ∈ gcdKept4 → a.tmps[k]? = a0.tmps[k]?) → NB w r5 v6 → NB w r6 v8 → IsN w v6 y → IsN w v8 m → Below B w0 w → (∀ r u, r ≠ r5 → r ≠ r6 → NB w0 r u → NB w r u) → Q .normal a w) :
    (Code.region 4 (regionOf Tryd.f36 4).toArray true).wp Tryd.prog Q a0 w0 := by
  refine wp_region_any (by kernel_rfl) ?_
  have hD : Below w0.heap.size w0 w0.drew := (Below.refl _ w0).drew
  have n5' := n5.below hD
  have iy' := iy.below hD
  obtain ⟨c0, c1, e1, m5⟩ := NB.putSelf10 n5' iy'
  have n6' := (n6.below hD).put h56 c0 c1
  have im' := (im.below hD).putN n5' c0 c1
  obtain ⟨d0, d1, e2, m6⟩ := NB.putSelf10 n6' im'
  refine two_out 28 gcdKept4 v6 v8 (by kernel_rfl) (by kernel_rfl) (by kernel_rfl) (by kernel_rfl) (by kernel_rfl) (by kernel_rfl) ⟨by kernel_rfl, by kernel_rfl, by kernel_rfl, by kernel_rfl⟩ hN (w1 := (w0.drew.setCell ⟨r5, 0, none⟩ c0).setCell ⟨r5, 1, none⟩ c1) (w2 := (((w0.drew.setCell ⟨r5, 0, none⟩ c0).setCell ⟨r5, 1, none⟩ c1).setCell ⟨r6, 0, none⟩ d0).setCell ⟨r6, 1, none⟩ d1) ?_ ?_ ?_ ?_ ?_
  · intro a hk
    exact op_load (a := a) (eval_kept (hk 6 (by decide)) t6) (load_NB (n6.below hD)) ⟨rfl, rfl⟩
  · rintro a w hk (rfl | rfl)
    · exact op_load (a := a) (eval_kept (hk 8 (by decide)) t8) (load_NB (n8.below hD)) ⟨rfl, rfl⟩
    · exact op_load (a := a) (eval_kept (hk 8 (by decide)) t8) (load_NB ((n8.below hD).put h58 c0 c1)) ⟨rfl, rfl⟩
  · intro a hk e
    exact op_store (a := a) (eval_kept (hk 5 (by decide)) t5) e e1 ⟨rfl, rfl⟩
  · intro a hk e
    exact op_store (a := a) (eval_kept (hk 6 (by decide)) t6) e e2 ⟨rfl, rfl⟩
  · intro a hd hsz hk
    exact hQ a _ hd hsz hk (m5.put (Ne.symm h56) _ _) m6 ((iy'.putN n5' _ _).putN n6' _ _) (im'.putN n6' _ _) (below_put (below_put (hD.mono (Nat.le_trans b5 (Nat.le_of_lt n5.lt))) b5 _ _) b6 _ _) (fun r u h h' n => ((n.below hD).put (Ne.symm h) _ _).put (Ne.symm h') _ _)

set_option maxRecDepth 100000 in
set_option maxHeartbeats 8000000 in
theorem gcdN_any (v1 v2 : Value) (z1 z2 : Int) (w : World) (h1 : IsN w v1 z1) (h2 : IsN w v2 z2) (b1 : (z1.natAbs : Int) < T4.pw 3000) (b2 : (z2.natAbs : Int) < T4.pw 3000) :
    Calls Tryd.prog 36 #[v1, v2] w fun e w' => ∃ r, e = .returned r ∧ Below w.heap.size w w' ∧ IsN w' r (Int.gcd z1 z2 : Int) := by
  obtain ⟨nbNat, nbNat_eq'⟩ := nb_nat
  have HBN : Hid (∀ (W : World) (R : Nat) (v : Value) (z : Int), NB W R v → IsN W v z → nbNat W R = z.natAbs) := fun _ _ _ _ h k => nbNat_eq' h k
  clear nbNat_eq'
  obtain ⟨a1, l1, c1, xs, rfl, n1, d1, m1, e1, q1⟩ := h1.small b1
  obtain ⟨a2, l2, c2, ys, rfl, n2, d2, m2, e2, q2⟩ := h2.small b2
  have x1 := ((NB.new w (decide (z1 < 0)) a1 l1 c1).alloc (.cells #[.bool (decide (z2 < 0)), .slice a2 l2 c2] 31)).alloc (.cells #[.bool false, .slice none 0 0] 31)
  have x2 := (NB.new (w.alloc (.cells #[.bool (decide (z1 < 0)), .slice a1 l1 c1] 31)) (decide (z2 < 0)) a2 l2 c2).alloc (.cells #[.bool false, .slice none 0 0] 31)
  have x3 := NB.new ((w.alloc (.cells #[.bool (decide (z1 < 0)), .slice a1 l1 c1] 31)).alloc (.cells #[.bool (decide (z2 < 0)), .slice a2 l2 c2] 31)) false none 0 0
  simp only [World.size_alloc] at x2 x3
  have hB : Below w.heap.size w (((w.alloc (.cells #[.bool (decide (z1 < 0)), .slice a1 l1 c1] 31)).alloc (.cells #[.bool (decide (z2 < 0)), .slice a2 l2 c2] 31)).alloc (.cells #[.bool false, .slice none 0 0] 31)) := (((Below.refl _ w).alloc (Nat.le_refl _) _).alloc (by simp) _).alloc (by simp; omega) _
  have HX := hide (show IsN (((w.alloc (.cells #[.bool (decide (z1 < 0)), .slice a1 l1 c1] 31)).alloc (.cells #[.bool (decide (z2 < 0)), .slice a2 l2 c2] 31)).alloc (.cells #[.bool false, .slice none 0 0] 31)) (.agg #[.bool false, .slice a1 l1 c1]) (z1.natAbs : Int) from ⟨a1, l1, c1, xs, by simp, n1.below hB, d1, m1, by rw [e1]; simp⟩)
  have HY := hide (show IsN (((w.alloc (.cells #[.bool (decide (z1 < 0)), .slice a1 l1 c1] 31)).alloc (.cells #[.bool (decide (z2 < 0)), .slice a2 l2 c2] 31)).alloc (.cells #[.bool false, .slice none 0 0] 31)) (.agg #[.bool false, .slice a2 l2 c2]) (z2.natAbs : Int) from ⟨a2, l2, c2, ys, by simp, n2.below hB, d2, m2, by rw [e2]; simp⟩)
  have X1 := hide x1
  have X2 := hide x2
  have X3 := hide x3
  have HB := hide hB
  have HE := hide (And.intro b1 b2)
  clear h1 h2 n1 n2 d1 d2 m1 m2 e1 e2 q1 q2 x1 x2 x3 hB b1 b2
  go_enter Tryd.func36, Tryd.ntmps36
  go_wp2_with fail
  refine gcdN_r1 w.heap.size (w.heap.size + 1) a1 a2 l1 c1 l2 c2 (z1.natAbs : Int) (z2.natAbs : Int) rfl rfl rfl (unhide X1).facts.2.1 (unhide X2).facts.2.1 (unhide X1).lt (unhide X2).lt (unhide HX) (unhide HY) ?_
  intro a' w2 rA rB vA vB hd hsz hk eA eB hne lA lB nA qA nB qB hb2
  have hA2 : w.heap.size ≤ rA := by have := (unhide HB).size; omega
  have hB2 : w.heap.size ≤ rB := by have := (unhide HB).size; omega
  have ne2 : rA ≠ w.heap.size + 1 + 1 := by have := (unhide X3).lt; omega
  have ne3 : rB ≠ w.heap.size + 1 + 1 := by have := (unhide X3).lt; omega
  have Z3 := hide ((unhide X3).below hb2)
  have HB2 := hide ((unhide HB).trans (hb2.mono (unhide HB).size))
  have HG : Hid (Int.gcd (z1.natAbs : Int) (z2.natAbs : Int) = Int.gcd z1 z2) := by
    show _ = _
    rw [Int.gcd_natCast_natCast]; rfl
  clear lA lB hb2 X1 X2 X3 HB HX HY
  obtain ⟨u7, e7⟩ : ∃ u, a'.tmps.getD 7 undef = u := ⟨_, rfl⟩
  obtain ⟨u8, e8⟩ : ∃ u, a'.tmps.getD 8 undef = u := ⟨_, rfl⟩
  obtain ⟨u9, e9⟩ : ∃ u, a'.tmps.getD 9 undef = u := ⟨_, rfl⟩
  obtain ⟨u10, e10⟩ : ∃ u, a'.tmps.getD 10 undef = u := ⟨_, rfl⟩
  obtain ⟨u11, e11⟩ : ∃ u, a'.tmps.getD 11 undef = u := ⟨_, rfl⟩
  obtain ⟨u12, e12⟩ : ∃ u, a'.tmps.getD 12 undef = u := ⟨_, rfl⟩
  obtain ⟨u13, e13⟩ : ∃ u, a'.tmps.getD 13 undef = u := ⟨_, rfl⟩
  obtain ⟨u14, e14⟩ : ∃ u, a'.tmps.getD 14 undef = u := ⟨_, rfl⟩
  obtain ⟨u15, e15⟩ : ∃ u, a'.tmps.getD 15 undef = u := ⟨_, rfl⟩
  obtain ⟨u16, e16⟩ : ∃ u, a'.tmps.getD 16 undef = u := ⟨_, rfl⟩
  obtain ⟨u17, e17⟩ : ∃ u, a'.tmps.getD 17 undef = u := ⟨_, rfl⟩
  obtain ⟨u18, e18⟩ : ∃ u, a'.tmps.getD 18 undef = u := ⟨_, rfl⟩
  obtain ⟨u19, e19⟩ : ∃ u, a'.tmps.getD 19 undef = u := ⟨_, rfl⟩
  obtain ⟨u20, e20⟩ : ∃ u, a'.tmps.getD 20 undef = u := ⟨_, rfl⟩
  obtain ⟨u21, e21⟩ : ∃ u, a'.tmps.getD 21 undef = u := ⟨_, rfl⟩
  obtain ⟨u22, e22⟩ : ∃ u, a'.tmps.getD 22 undef = u := ⟨_, rfl⟩
  obtain ⟨u23, e23⟩ : ∃ u, a'.tmps.getD 23 undef = u := ⟨_, rfl⟩
  obtain ⟨u24, e24⟩ : ∃ u, a'.tmps.getD 24 undef = u := ⟨_, rfl⟩
  obtain ⟨u25, e25⟩ : ∃ u, a'.tmps.getD 25 undef = u := ⟨_, rfl⟩
  obtain ⟨u26, e26⟩ : ∃ u, a'.tmps.getD 26 undef = u := ⟨_, rfl⟩
  obtain ⟨u27, e27⟩ : ∃ u, a'.tmps.getD 27 undef = u := ⟨_, rfl⟩
  obtain rfl := act_lit [.agg #[.bool (decide (z1 < 0)), .slice a1 l1 c1], .agg #[.bool (decide (z2 < 0)), .slice a2 l2 c2], .pointer (some ⟨w.heap.size, 0, none⟩), .pointer (some ⟨w.heap.size + 1, 0, none⟩), .pointer (some ⟨w.heap.size + 1 + 1, 0, none⟩), .pointer (some ⟨rA, 0, none⟩), .pointer (some ⟨rB, 0, none⟩), u7, u8, u9, u10, u11, u12, u13, u14, u15, u16, u17, u18, u19, u20, u21, u22, u23, u24, u25, u26, u27] hsz hd (fun k hk9 => by
    match k, hk9 with
    | 0, _ => exact (hk 0 (by decide)).trans rfl
    | 1, _ => exact (hk 1 (by decide)).trans rfl
    | 2, _ => exact (hk 2 (by decide)).trans rfl
    | 3, _ => exact (hk 3 (by decide)).trans rfl
    | 4, _ => exact (hk 4 (by decide)).trans rfl
    | 5, _ => exact tmp_get (by omega) eA
    | 6, _ => exact tmp_get (by omega) eB
    | 7, _ => exact tmp_get (by omega) e7
    | 8, _ => exact tmp_get (by omega) e8
    | 9, _ => exact tmp_get (by omega) e9
    | 10, _ => exact tmp_get (by omega) e10
    | 11, _ => exact tmp_get (by omega) e11
    | 12, _ => exact tmp_get (by omega) e12
    | 13, _ => exact tmp_get (by omega) e13
    | 14, _ => exact tmp_get (by omega) e14
    | 15, _ => exact tmp_get (by omega) e15
    | 16, _ => exact tmp_get (by omega) e16
    | 17, _ => exact tmp_get (by omega) e17
    | 18, _ => exact tmp_get (by omega) e18
    | 19, _ => exact tmp_get (by omega) e19
    | 20, _ => exact tmp_get (by omega) e20
    | 21, _ => exact tmp_get (by omega) e21
    | 22, _ => exact tmp_get (by omega) e22
    | 23, _ => exact tmp_get (by omega) e23
    | 24, _ => exact tmp_get (by omega) e24
    | 25, _ => exact tmp_get (by omega) e25
    | 26, _ => exact tmp_get (by omega) e26
    | 27, _ => exact tmp_get (by omega) e27
    | _ + 28, h => exact absurd h (by simp))
  clear e7 e8 e9 e10 e11 e12 e13 e14 e15 e16 e17 e18 e19 e20 e21 e22 e23 e24 e25 e26 e27 hsz hd
  clear hk eA eB
  go_wp2_with fail
  go_loopw [7] (fun _ wr => ∃ y1 y2 x y, Below w.heap.size w wr ∧ NB wr rA y1 ∧ NB wr rB y2 ∧ (∃ u, NB wr (w.heap.size + 1 + 1) u) ∧ IsN wr y1 x ∧ IsN wr y2 y ∧ 0 ≤ x ∧ x < T4.pw 3000 ∧ 0 ≤ y ∧ y < T4.pw 3000 ∧ Int.gcd x y = Int.gcd z1 z2) (fun _ wr => nbNat wr rB)
  case atStart => exact ⟨vA, vB, (z1.natAbs : Int), (z2.natAbs : Int), unhide HB2, nA, nB, ⟨_, unhide Z3⟩, qA, qB, by omega, (unhide HE).1, by omega, (unhide HE).2, unhide HG⟩
  case round =>
    obtain ⟨y1, y2, x, y, hbl, bA, bB, ⟨uR, bR⟩, iX, iY, x0, x1, p0, p1, hg⟩ := hrel
    have hiX := iX
    have hiY := iY
    obtain ⟨ax, lx, cx, zx, rfl, _⟩ := iX
    obtain ⟨ay, ly, cy, zy, rfl, ny, dy, my, ey⟩ := iY
    obtain ⟨kA0, kA1, kAf0, kAf1⟩ := bA.facts
    obtain ⟨kB0, kB1, kBf0, kBf1⟩ := bB.facts
    have hly := ny.len
    have hv0 := val_zero_iff dy my
    rw [ey, ← hly] at hv0
    by_cases hy : y = 0
    · have hl0 : ly = 0 := hv0.1 (by rw [hy]; rfl)
      have HYY := hide hy
      obtain ⟨_, _, kR0, kR1, kRf0, kRf1⟩ := bR.facts0
      subst hl0
      have HF := hide (And.intro bR hiX)
      have HG2 := hide hg
      clear hy hv0 hly ny dy my ey bR hiX hiY hg
      go_wp2
      refine bodyPost_ret (res_N rfl rfl ((unhide HF).1.set _ _ _ _)) rfl ⟨_, rfl, below_put hbl (by omega) _ _, ?_⟩
      have e9 : x = (Int.gcd z1 z2 : Int) := by
        rw [← unhide HG2, unhide HYY, Int.gcd_zero_right]; omega
      rw [← e9]
      exact (unhide HF).2.putN (unhide HF).1 _ _
    · have hl0 : (0 : Int) < (ly : Int) := by
        rcases Nat.eq_zero_or_pos ly with h | h
        · exact absurd (by have := hv0.2 h; omega) hy
        · omega
      have HYY := hide hy
      have HG2 := hide hg
      have HXX := hide (And.intro hiX hiY)
      have HPP := hide (And.intro x1 p1)
      clear hy hv0 hly ny dy my ey hiX hiY hg x1 p1
      have HQ := hide (quoN_any _ _ x y _ (unhide HXX).1 (unhide HXX).2 (by have := (unhide HPP).1; omega) (by have := (unhide HPP).2; omega))
      go_wp2_with fail
      refine (unhide HQ).mono ?_
      rintro e w3 ⟨q1, q2, rfl, hb3, iQ, iM⟩
      obtain ⟨bq, aq, lq, cq, rfl⟩ := iQ.form
      obtain ⟨bm, am, lm, cm, rfl⟩ := iM.form
      have hb5 : Below w3.heap.size w3 ((w3.alloc (.cells #[.bool bq, .slice aq lq cq] 31)).alloc (.cells #[.bool bm, .slice am lm cm] 31)) := ((Below.refl _ _).alloc (Nat.le_refl _) _).alloc (by simp) _
      have hb6 := hb3.trans (hb5.mono hb3.size)
      have cA := bA.below hb6
      have cB := bB.below hb6
      have cR := bR.below hb6
      have jY := (unhide HXX).2.below hb6
      have q8 := iM.below hb5
      have n8 := NB.new (w3.alloc (.cells #[.bool bq, .slice aq lq cq] 31)) bm am lm cm
      rw [World.size_alloc] at n8
      have ne58 : rA ≠ w3.heap.size + 1 := by have := bA.lt; have := hb3.size; omega
      have HM := hide (unhide HBN _ _ _ _ bB (unhide HXX).2)
      have hbl3 := hbl.trans (hb6.mono hbl.size)
      have CC := hide (And.intro cA (And.intro cB (And.intro cR (And.intro jY (And.intro n8 q8)))))
      clear kA0 kA1 kAf0 kAf1 kB0 kB1 kBf0 kBf1 hb3 hb5 hb6 iQ iM bA bB bR HXX HQ cA cB cR jY n8 q8
      go_wp2_with fail
      refine gcdN_r4 w.heap.size rA rB (w3.heap.size + 1) _ _ _ y (x % y) rfl rfl rfl rfl (unhide CC).1 (unhide CC).2.1 (unhide CC).2.2.2.2.1 (unhide CC).2.2.2.1 (unhide CC).2.2.2.2.2 hne ne58 hA2 hB2 ?_
      intro a' w4 hd hsz hk n5 n6 i5 i6 hb4 hoth
      have sR := hoth _ _ (Ne.symm ne2) (Ne.symm ne3) (unhide CC).2.2.1
      have hbl4 := hbl3.trans hb4
      have hz9 : ((0 : Int) ≤ x % y ∧ x % y < y) := ⟨Int.emod_nonneg _ (unhide HYY), Int.emod_lt_of_pos _ (by have := unhide HYY; omega)⟩
      have hfin := hide (And.intro n5 (And.intro n6 (And.intro i5 (And.intro i6 (And.intro sR (And.intro hbl4 hz9))))))
      clear n5 n6 i5 i6 sR hbl4 hz9 hb4 hoth hbl3 CC
      obtain ⟨t15, e15⟩ : ∃ u, a'.tmps.getD 15 undef = u := ⟨_, rfl⟩
      obtain ⟨t16, e16⟩ : ∃ u, a'.tmps.getD 16 undef = u := ⟨_, rfl⟩
      obtain ⟨t17, e17⟩ : ∃ u, a'.tmps.getD 17 undef = u := ⟨_, rfl⟩
      obtain ⟨t18, e18⟩ : ∃ u, a'.tmps.getD 18 undef = u := ⟨_, rfl⟩
      obtain ⟨t19, e19⟩ : ∃ u, a'.tmps.getD 19 undef = u := ⟨_, rfl⟩
      obtain ⟨t20, e20⟩ : ∃ u, a'.tmps.getD 20 undef = u := ⟨_, rfl⟩
      obtain ⟨t21, e21⟩ : ∃ u, a'.tmps.getD 21 undef = u := ⟨_, rfl⟩
      obtain ⟨t22, e22⟩ : ∃ u, a'.tmps.getD 22 undef = u := ⟨_, rfl⟩
      obtain ⟨t23, e23⟩ : ∃ u, a'.tmps.getD 23 undef = u := ⟨_, rfl⟩
      obtain ⟨t24, e24⟩ : ∃ u, a'.tmps.getD 24 undef = u := ⟨_, rfl⟩
      obtain ⟨t25, e25⟩ : ∃ u, a'.tmps.getD 25 undef = u := ⟨_, rfl⟩
      obtain ⟨t26, e26⟩ : ∃ u, a'.tmps.getD 26 undef = u := ⟨_, rfl⟩
      obtain rfl := act_lit [.agg #[.bool (decide (z1 < 0)), .slice a1 l1 c1], .agg #[.bool (decide (z2 < 0)), .slice a2 l2 c2], .pointer (some ⟨w.heap.size, 0, none⟩), .pointer (some ⟨w.heap.size + 1, 0, none⟩), .pointer (some ⟨w.heap.size + 1 + 1, 0, none⟩), .pointer (some ⟨rA, 0, none⟩), .pointer (some ⟨rB, 0, none⟩), .pointer (some ⟨w3.heap.size, 0, none⟩), .pointer (some ⟨w3.heap.size + 1, 0, none⟩), u9, u10, u11, u12, u13, u14, t15, t16, t17, t18, t19, t20, t21, t22, t23, t24, t25, t26, u27] hsz hd (fun k hk9 => by
        match k, hk9 with
        | 0, _ => exact (hk 0 (by decide)).trans rfl
        | 1, _ => exact (hk 1 (by decide)).trans rfl
        | 2, _ => exact (hk 2 (by decide)).trans rfl
        | 3, _ => exact (hk 3 (by decide)).trans rfl
        | 4, _ => exact (hk 4 (by decide)).trans rfl
        | 5, _ => exact (hk 5 (by decide)).trans rfl
        | 6, _ => exact (hk 6 (by decide)).trans rfl
        | 7, _ => exact (hk 7 (by decide)).trans rfl
        | 8, _ => exact (hk 8 (by decide)).trans rfl
        | 9, _ => exact (hk 9 (by decide)).trans rfl
        | 10, _ => exact (hk 10 (by decide)).trans rfl
        | 11, _ => exact (hk 11 (by decide)).trans rfl
        | 12, _ => exact (hk 12 (by decide)).trans rfl
        | 13, _ => exact (hk 13 (by decide)).trans rfl
        | 14, _ => exact (hk 14 (by decide)).trans rfl
        | 15, _ => exact tmp_get (by omega) e15
        | 16, _ => exact tmp_get (by omega) e16
        | 17, _ => exact tmp_get (by omega) e17
        | 18, _ => exact tmp_get (by omega) e18
        | 19, _ => exact tmp_get (by omega) e19
        | 20, _ => exact tmp_get (by omega) e20
        | 21, _ => exact tmp_get (by omega) e21
        | 22, _ => exact tmp_get (by omega) e22
        | 23, _ => exact tmp_get (by omega) e23
        | 24, _ => exact tmp_get (by omega) e24
        | 25, _ => exact tmp_get (by omega) e25
        | 26, _ => exact tmp_get (by omega) e26
        | 27, _ => exact (hk 27 (by decide)).trans rfl
        | _ + 28, h => exact absurd h (by simp))
      clear e15 e16 e17 e18 e19 e20 e21 e22 e23 e24 e25 e26 hsz hd
      clear hk
      go_wp2
      obtain ⟨n5, n6, i5, i6, sR, hbl4, hz9⟩ := unhide hfin
      exact ⟨⟨_, _, y, x % y, hbl4, n5, n6, ⟨_, sR⟩, i5, i6, p0, (unhide HPP).2, hz9.1, by have := (unhide HPP).2; omega, by rw [gcd_step x y x0 p0]; exact unhide HG2⟩, by have h1 := unhide HBN _ _ _ _ n6 i6; have h2 := unhide HM; refine Nat.lt_of_le_of_lt (Nat.le_of_eq h1) ?_; rw [h2]; omega⟩

end Go.Proofs.YtblblpilmoefgaaDoor

/- NumDivides: its long test by specs, and its walk. -/
namespace Go.Proofs.YtblblpilmoefgaaDoor
open Go Go.RowKit

theorem divs_zero (a b : Int) : cmpI (b * (a / b) + (a % b)) a = 0 := by
  rw [Int.mul_ediv_add_emod]
  unfold cmpI
  rw [if_neg (by omega), if_neg (by omega)]
theorem ediv_lt {a b : Int} {X : Int} (h : (a.natAbs : Int) < X) : ((a / b).natAbs : Int) < X := by
  have := Int.natAbs_ediv_le_natAbs a b
  omega
theorem emod_lt {a b : Int} {X : Int} (h : (a.natAbs : Int) < X) (k : (b.natAbs : Int) < X) : ((a % b).natAbs : Int) < X := by
  by_cases hb : b = 0
  · rw [hb, Int.emod_zero]; exact h
  · have h1 := Int.emod_nonneg a hb
    have h2 := Int.emod_lt a hb
    omega
section
variable {Q : Exit → Act → World → Prop} {a : Act} {w : World} {dst : Option Tmp} {ty : TypeId} {pos : String} {af : Array Edge} {gd : Option (Nat × Bool)} {s t : Nat} {tys : Array TypeId}
theorem st_not {b : Bool} (p : (Sp.bool b).ok w (a.tmps.getD s undef)) :
    Oper.wp Tryd.prog ⟨dst, .unOp .not 4 (.tmp s), ty, pos, af, gd⟩ a w (fun a' w' => ∃ v, a' = a.put dst v ∧ Below w.heap.size w w' ∧ (Sp.bool (!b)).ok w' v) Q := by
  have he : a.eval (.tmp s) = .bool b := p
  unfold Oper.wp
  simp only [execOp, he]
  go_simp
  exact ⟨_, rfl, Below.refl _ _, rfl⟩
theorem st_neq0 {m n : Int} {b : Bool} (p : (Sp.int m).ok w (a.tmps.getD s undef)) (hb : (m != n) = b) :
    Oper.wp Tryd.prog ⟨dst, .binOp .neq 3 (.tmp s) (.const (.int .i64 n)) 3, ty, pos, af, gd⟩ a w (fun a' w' => ∃ v, a' = a.put dst v ∧ Below w.heap.size w w' ∧ (Sp.bool b).ok w' v) Q := by
  have he : a.eval (.tmp s) = .int .i64 m := p
  have hf : a.eval (.const (.int .i64 n)) = .int .i64 n := rfl
  unfold Oper.wp
  simp only [execOp, he, hf]
  subst hb
  go_simp
  exact ⟨_, rfl, Below.refl _ _, rfl⟩
theorem enter_gcdN : Enters Tryd.prog 36 := ⟨fun xs w => by go_simp⟩
theorem T4.le3 {z : Int} {k : Nat} (h : (z.natAbs : Int) < T4.pw k) (hk : k ≤ 3000) : (z.natAbs : Int) < T4.pw 3000 := Int.lt_of_lt_of_le h (T4.pw_mono hk)
set_option maxRecDepth 100000 in
theorem st_GcdN {y z : Int} {j k : Nat} (p : (Sp.doc y).ok w (a.tmps.getD s undef)) (q : (Sp.doc z).ok w (a.tmps.getD t undef)) (b : (y.natAbs : Int) < T4.pw j) (c : (z.natAbs : Int) < T4.pw k) (hj : j ≤ 3000) (hk : k ≤ 3000) :
    Oper.wp Tryd.prog ⟨dst, .call ⟨.value (.func 36), #[.tmp s, .tmp t], tys⟩, ty, pos, af, gd⟩ a w (fun a' w' => ∃ v, a' = a.put dst v ∧ Below w.heap.size w w' ∧ (Sp.doc (Int.gcd y z : Int)).ok w' v) Q :=
  st_call2 enter_gcdN (Calls.mono (gcdN_any _ _ y z w p q (T4.le3 b hj) (T4.le3 c hk)) fun _ _ ⟨r, h1, h2, h3⟩ => ⟨r, h1, h2, h3⟩)
theorem T4.gcd_lt2 {y z : Int} {a b : Nat} (h : (y.natAbs : Int) < T4.pw a) (k : (z.natAbs : Int) < T4.pw b) : (((Int.gcd y z : Int)).natAbs : Int) < T4.pw (max a b) := by
  have h2 := T4.pw_mono (Nat.le_max_left a b)
  have h3 := T4.pw_mono (Nat.le_max_right a b)
  have hp := T4.pw_pos (max a b)
  by_cases hy : y = 0
  · subst hy
    rw [Int.gcd_zero_left]
    omega
  · have := Int.gcd_le_natAbs_left z (a := y) hy
    omega
end
/-- What stands ahead of the long test. -/
structure DivE (a0 : Act) (w0 : World) (zA zB : Int) : Prop where
  tab : Tab w0
  hA : (zA.natAbs : Int) < pw 40
  hB : (zB.natAbs : Int) < pw 40
  gA : (zA.natAbs : Int) < T4.pw 100
  gB : (zB.natAbs : Int) < T4.pw 100
  hX : ((zA / zB).natAbs : Int) < pw 40
  hR : ((zA % zB).natAbs : Int) < pw 40
  gX : ((zA / zB).natAbs : Int) < T4.pw 100
  gR : ((zA % zB).natAbs : Int) < T4.pw 100
  tA : PB a0 w0 5 zA
  tB : PB a0 w0 7 zB
  dA : PD a0 w0 6 zA
  dB : PD a0 w0 8 zB
  tX : PB a0 w0 9 (zA / zB)
  tR : PB a0 w0 10 (zA % zB)
  dX : PD a0 w0 11 (zA / zB)
  dR : PD a0 w0 12 (zA % zB)
def divsSp (zA zB : Int) : List Sp :=
  [Sp.num ((zA / zB)),
   Sp.doc ((zA / zB)),
   Sp.bool true,
   Sp.bool false,
   Sp.bool false,
   Sp.num ((zA % zB)),
   Sp.doc ((zA % zB)),
   Sp.bool true,
   Sp.bool false,
   Sp.bool false,
   Sp.bool false,
   Sp.num (zA),
   Sp.num (zB),
   Sp.num ((Int.gcd (zA) (zB) : Int)),
   Sp.doc (zA),
   Sp.doc (zB),
   Sp.doc ((Int.gcd (zA) (zB) : Int)),
   Sp.bool true,
   Sp.bool false,
   Sp.bool false,
   Sp.bool false,
   Sp.num (zB),
   Sp.num ((zA / zB)),
   Sp.num (zB * ((zA / zB))),
   Sp.num ((zA % zB)),
   Sp.num (zB * ((zA / zB)) + ((zA % zB))),
   Sp.num (zA),
   Sp.int (0),
   Sp.bool false,
   Sp.bool false]
set_option maxRecDepth 100000 in
theorem divs_s0 {Q : Exit → Act → World → Prop} {a0 : Act} {w0 : World} {zA zB : Int} (E : DivE a0 w0 zA zB) : StepOk Tryd.prog Q (regionOf Tryd.f5 9) (divsSp zA zB) a0 w0 [5, 6, 7, 8, 9, 10, 11, 12] 0 := by
  intro a w hb hk _hp
  exact st_want (wanted_none rfl) (st_load (hk 9 (by decide)) E.tX hb)
set_option maxRecDepth 100000 in
theorem divs_s1 {Q : Exit → Act → World → Prop} {a0 : Act} {w0 : World} {zA zB : Int} (E : DivE a0 w0 zA zB) : StepOk Tryd.prog Q (regionOf Tryd.f5 9) (divsSp zA zB) a0 w0 [5, 6, 7, 8, 9, 10, 11, 12] 1 := by
  intro a w hb hk _hp
  exact st_want (wanted_none rfl) (st_loadN (hk 11 (by decide)) E.dX hb)
set_option maxRecDepth 100000 in
theorem divs_s2 {Q : Exit → Act → World → Prop} {a0 : Act} {w0 : World} {zA zB : Int} (E : DivE a0 w0 zA zB) : StepOk Tryd.prog Q (regionOf Tryd.f5 9) (divsSp zA zB) a0 w0 [5, 6, 7, 8, 9, 10, 11, 12] 2 := by
  intro a w hb _hk hp
  have p0 : (Sp.num ((zA / zB))).ok w (a.tmps.getD 43 undef) := hp 0 rfl
  have p1 : (Sp.doc ((zA / zB))).ok w (a.tmps.getD 44 undef) := hp 1 rfl
  exact st_want (wanted_none rfl) (st_same (E.tab.below hb) p0 p1 E.hX E.gX (by decide) (by decide))
set_option maxRecDepth 100000 in
theorem divs_s3 {Q : Exit → Act → World → Prop} {a0 : Act} {w0 : World} {zA zB : Int} (_E : DivE a0 w0 zA zB) : StepOk Tryd.prog Q (regionOf Tryd.f5 9) (divsSp zA zB) a0 w0 [5, 6, 7, 8, 9, 10, 11, 12] 3 := by
  intro a w _hb _hk hp
  have p0 : (Sp.bool true).ok w (a.tmps.getD 45 undef) := hp 2 rfl
  exact st_want (wanted_none rfl) (st_not p0)
set_option maxRecDepth 100000 in
theorem divs_s4 {Q : Exit → Act → World → Prop} {a0 : Act} {w0 : World} {zA zB : Int} (_E : DivE a0 w0 zA zB) : StepOk Tryd.prog Q (regionOf Tryd.f5 9) (divsSp zA zB) a0 w0 [5, 6, 7, 8, 9, 10, 11, 12] 4 := by
  intro a w _hb _hk hp
  have p0 : (Sp.bool false).ok w (a.tmps.getD 46 undef) := hp 3 rfl
  exact st_want (wanted_none rfl) (st_move p0)
set_option maxRecDepth 100000 in
theorem divs_s5 {Q : Exit → Act → World → Prop} {a0 : Act} {w0 : World} {zA zB : Int} (E : DivE a0 w0 zA zB) : StepOk Tryd.prog Q (regionOf Tryd.f5 9) (divsSp zA zB) a0 w0 [5, 6, 7, 8, 9, 10, 11, 12] 5 := by
  intro a w hb hk hp
  have pg : slotOf (regionOf Tryd.f5 9).toArray a 4 = .bool false := hp 4 rfl
  exact st_want (wanted_slot rfl pg rfl) (st_load (hk 10 (by decide)) E.tR hb)
set_option maxRecDepth 100000 in
theorem divs_s6 {Q : Exit → Act → World → Prop} {a0 : Act} {w0 : World} {zA zB : Int} (E : DivE a0 w0 zA zB) : StepOk Tryd.prog Q (regionOf Tryd.f5 9) (divsSp zA zB) a0 w0 [5, 6, 7, 8, 9, 10, 11, 12] 6 := by
  intro a w hb hk hp
  have pg : slotOf (regionOf Tryd.f5 9).toArray a 4 = .bool false := hp 4 rfl
  exact st_want (wanted_slot rfl pg rfl) (st_loadN (hk 12 (by decide)) E.dR hb)
set_option maxRecDepth 100000 in
theorem divs_s7 {Q : Exit → Act → World → Prop} {a0 : Act} {w0 : World} {zA zB : Int} (E : DivE a0 w0 zA zB) : StepOk Tryd.prog Q (regionOf Tryd.f5 9) (divsSp zA zB) a0 w0 [5, 6, 7, 8, 9, 10, 11, 12] 7 := by
  intro a w hb _hk hp
  have pg : slotOf (regionOf Tryd.f5 9).toArray a 4 = .bool false := hp 4 rfl
  have p0 : (Sp.num ((zA % zB))).ok w (a.tmps.getD 48 undef) := hp 5 rfl
  have p1 : (Sp.doc ((zA % zB))).ok w (a.tmps.getD 49 undef) := hp 6 rfl
  exact st_want (wanted_slot rfl pg rfl) (st_same (E.tab.below hb) p0 p1 E.hR E.gR (by decide) (by decide))
set_option maxRecDepth 100000 in
theorem divs_s8 {Q : Exit → Act → World → Prop} {a0 : Act} {w0 : World} {zA zB : Int} (_E : DivE a0 w0 zA zB) : StepOk Tryd.prog Q (regionOf Tryd.f5 9) (divsSp zA zB) a0 w0 [5, 6, 7, 8, 9, 10, 11, 12] 8 := by
  intro a w _hb _hk hp
  have pg : slotOf (regionOf Tryd.f5 9).toArray a 4 = .bool false := hp 4 rfl
  have p0 : (Sp.bool true).ok w (a.tmps.getD 50 undef) := hp 7 rfl
  exact st_want (wanted_slot rfl pg rfl) (st_not p0)
set_option maxRecDepth 100000 in
theorem divs_s9 {Q : Exit → Act → World → Prop} {a0 : Act} {w0 : World} {zA zB : Int} (_E : DivE a0 w0 zA zB) : StepOk Tryd.prog Q (regionOf Tryd.f5 9) (divsSp zA zB) a0 w0 [5, 6, 7, 8, 9, 10, 11, 12] 9 := by
  intro a w _hb _hk hp
  have p0 : (Sp.bool false).ok w (a.tmps.getD 47 undef) := hp 4 rfl
  have p1 : (Sp.bool false).ok w (a.tmps.getD 51 undef) := hp 8 rfl
  exact st_want (wanted_none rfl) (st_pick p0 p1)
set_option maxRecDepth 100000 in
theorem divs_s10 {Q : Exit → Act → World → Prop} {a0 : Act} {w0 : World} {zA zB : Int} (_E : DivE a0 w0 zA zB) : StepOk Tryd.prog Q (regionOf Tryd.f5 9) (divsSp zA zB) a0 w0 [5, 6, 7, 8, 9, 10, 11, 12] 10 := by
  intro a w _hb _hk hp
  have p0 : (Sp.bool false).ok w (a.tmps.getD 52 undef) := hp 9 rfl
  exact st_want (wanted_none rfl) (st_move p0)
set_option maxRecDepth 100000 in
theorem divs_s11 {Q : Exit → Act → World → Prop} {a0 : Act} {w0 : World} {zA zB : Int} (E : DivE a0 w0 zA zB) : StepOk Tryd.prog Q (regionOf Tryd.f5 9) (divsSp zA zB) a0 w0 [5, 6, 7, 8, 9, 10, 11, 12] 11 := by
  intro a w hb hk hp
  have pg : slotOf (regionOf Tryd.f5 9).toArray a 10 = .bool false := hp 10 rfl
  exact st_want (wanted_slot rfl pg rfl) (st_load (hk 5 (by decide)) E.tA hb)
set_option maxRecDepth 100000 in
theorem divs_s12 {Q : Exit → Act → World → Prop} {a0 : Act} {w0 : World} {zA zB : Int} (E : DivE a0 w0 zA zB) : StepOk Tryd.prog Q (regionOf Tryd.f5 9) (divsSp zA zB) a0 w0 [5, 6, 7, 8, 9, 10, 11, 12] 12 := by
  intro a w hb hk hp
  have pg : slotOf (regionOf Tryd.f5 9).toArray a 10 = .bool false := hp 10 rfl
  exact st_want (wanted_slot rfl pg rfl) (st_load (hk 7 (by decide)) E.tB hb)
set_option maxRecDepth 100000 in
theorem divs_s13 {Q : Exit → Act → World → Prop} {a0 : Act} {w0 : World} {zA zB : Int} (E : DivE a0 w0 zA zB) : StepOk Tryd.prog Q (regionOf Tryd.f5 9) (divsSp zA zB) a0 w0 [5, 6, 7, 8, 9, 10, 11, 12] 13 := by
  intro a w _hb _hk hp
  have pg : slotOf (regionOf Tryd.f5 9).toArray a 10 = .bool false := hp 10 rfl
  have p0 : (Sp.num (zA)).ok w (a.tmps.getD 54 undef) := hp 11 rfl
  have p1 : (Sp.num (zB)).ok w (a.tmps.getD 55 undef) := hp 12 rfl
  exact st_want (wanted_slot rfl pg rfl) (st_Gcd p0 p1 E.hA E.hB (by decide) (by decide))
set_option maxRecDepth 100000 in
theorem divs_s14 {Q : Exit → Act → World → Prop} {a0 : Act} {w0 : World} {zA zB : Int} (E : DivE a0 w0 zA zB) : StepOk Tryd.prog Q (regionOf Tryd.f5 9) (divsSp zA zB) a0 w0 [5, 6, 7, 8, 9, 10, 11, 12] 14 := by
  intro a w hb hk hp
  have pg : slotOf (regionOf Tryd.f5 9).toArray a 10 = .bool false := hp 10 rfl
  exact st_want (wanted_slot rfl pg rfl) (st_loadN (hk 6 (by decide)) E.dA hb)
set_option maxRecDepth 100000 in
theorem divs_s15 {Q : Exit → Act → World → Prop} {a0 : Act} {w0 : World} {zA zB : Int} (E : DivE a0 w0 zA zB) : StepOk Tryd.prog Q (regionOf Tryd.f5 9) (divsSp zA zB) a0 w0 [5, 6, 7, 8, 9, 10, 11, 12] 15 := by
  intro a w hb hk hp
  have pg : slotOf (regionOf Tryd.f5 9).toArray a 10 = .bool false := hp 10 rfl
  exact st_want (wanted_slot rfl pg rfl) (st_loadN (hk 8 (by decide)) E.dB hb)
set_option maxRecDepth 100000 in
theorem divs_s16 {Q : Exit → Act → World → Prop} {a0 : Act} {w0 : World} {zA zB : Int} (E : DivE a0 w0 zA zB) : StepOk Tryd.prog Q (regionOf Tryd.f5 9) (divsSp zA zB) a0 w0 [5, 6, 7, 8, 9, 10, 11, 12] 16 := by
  intro a w _hb _hk hp
  have pg : slotOf (regionOf Tryd.f5 9).toArray a 10 = .bool false := hp 10 rfl
  have p0 : (Sp.doc (zA)).ok w (a.tmps.getD 57 undef) := hp 14 rfl
  have p1 : (Sp.doc (zB)).ok w (a.tmps.getD 58 undef) := hp 15 rfl
  exact st_want (wanted_slot rfl pg rfl) (st_GcdN p0 p1 E.gA E.gB (by decide) (by decide))
set_option maxRecDepth 100000 in
theorem divs_s17 {Q : Exit → Act → World → Prop} {a0 : Act} {w0 : World} {zA zB : Int} (E : DivE a0 w0 zA zB) : StepOk Tryd.prog Q (regionOf Tryd.f5 9) (divsSp zA zB) a0 w0 [5, 6, 7, 8, 9, 10, 11, 12] 17 := by
  intro a w hb _hk hp
  have pg : slotOf (regionOf Tryd.f5 9).toArray a 10 = .bool false := hp 10 rfl
  have p0 : (Sp.num ((Int.gcd (zA) (zB) : Int))).ok w (a.tmps.getD 56 undef) := hp 13 rfl
  have p1 : (Sp.doc ((Int.gcd (zA) (zB) : Int))).ok w (a.tmps.getD 59 undef) := hp 16 rfl
  exact st_want (wanted_slot rfl pg rfl) (st_same (E.tab.below hb) p0 p1 (gcd_lt2 E.hA E.hB) (T4.gcd_lt2 E.gA E.gB) (by decide) (by decide))
set_option maxRecDepth 100000 in
theorem divs_s18 {Q : Exit → Act → World → Prop} {a0 : Act} {w0 : World} {zA zB : Int} (_E : DivE a0 w0 zA zB) : StepOk Tryd.prog Q (regionOf Tryd.f5 9) (divsSp zA zB) a0 w0 [5, 6, 7, 8, 9, 10, 11, 12] 18 := by
  intro a w _hb _hk hp
  have pg : slotOf (regionOf Tryd.f5 9).toArray a 10 = .bool false := hp 10 rfl
  have p0 : (Sp.bool true).ok w (a.tmps.getD 60 undef) := hp 17 rfl
  exact st_want (wanted_slot rfl pg rfl) (st_not p0)
set_option maxRecDepth 100000 in
theorem divs_s19 {Q : Exit → Act → World → Prop} {a0 : Act} {w0 : World} {zA zB : Int} (_E : DivE a0 w0 zA zB) : StepOk Tryd.prog Q (regionOf Tryd.f5 9) (divsSp zA zB) a0 w0 [5, 6, 7, 8, 9, 10, 11, 12] 19 := by
  intro a w _hb _hk hp
  have p0 : (Sp.bool false).ok w (a.tmps.getD 53 undef) := hp 10 rfl
  have p1 : (Sp.bool false).ok w (a.tmps.getD 61 undef) := hp 18 rfl
  exact st_want (wanted_none rfl) (st_pick p0 p1)
set_option maxRecDepth 100000 in
theorem divs_s20 {Q : Exit → Act → World → Prop} {a0 : Act} {w0 : World} {zA zB : Int} (_E : DivE a0 w0 zA zB) : StepOk Tryd.prog Q (regionOf Tryd.f5 9) (divsSp zA zB) a0 w0 [5, 6, 7, 8, 9, 10, 11, 12] 20 := by
  intro a w _hb _hk hp
  have p0 : (Sp.bool false).ok w (a.tmps.getD 62 undef) := hp 19 rfl
  exact st_want (wanted_none rfl) (st_move p0)
set_option maxRecDepth 100000 in
theorem divs_s21 {Q : Exit → Act → World → Prop} {a0 : Act} {w0 : World} {zA zB : Int} (E : DivE a0 w0 zA zB) : StepOk Tryd.prog Q (regionOf Tryd.f5 9) (divsSp zA zB) a0 w0 [5, 6, 7, 8, 9, 10, 11, 12] 21 := by
  intro a w hb hk hp
  have pg : slotOf (regionOf Tryd.f5 9).toArray a 20 = .bool false := hp 20 rfl
  exact st_want (wanted_slot rfl pg rfl) (st_load (hk 7 (by decide)) E.tB hb)
set_option maxRecDepth 100000 in
theorem divs_s22 {Q : Exit → Act → World → Prop} {a0 : Act} {w0 : World} {zA zB : Int} (E : DivE a0 w0 zA zB) : StepOk Tryd.prog Q (regionOf Tryd.f5 9) (divsSp zA zB) a0 w0 [5, 6, 7, 8, 9, 10, 11, 12] 22 := by
  intro a w hb hk hp
  have pg : slotOf (regionOf Tryd.f5 9).toArray a 20 = .bool false := hp 20 rfl
  exact st_want (wanted_slot rfl pg rfl) (st_load (hk 9 (by decide)) E.tX hb)
set_option maxRecDepth 100000 in
theorem divs_s23 {Q : Exit → Act → World → Prop} {a0 : Act} {w0 : World} {zA zB : Int} (E : DivE a0 w0 zA zB) : StepOk Tryd.prog Q (regionOf Tryd.f5 9) (divsSp zA zB) a0 w0 [5, 6, 7, 8, 9, 10, 11, 12] 23 := by
  intro a w _hb _hk hp
  have pg : slotOf (regionOf Tryd.f5 9).toArray a 20 = .bool false := hp 20 rfl
  have p0 : (Sp.num (zB)).ok w (a.tmps.getD 64 undef) := hp 21 rfl
  have p1 : (Sp.num ((zA / zB))).ok w (a.tmps.getD 65 undef) := hp 22 rfl
  exact st_want (wanted_slot rfl pg rfl) (st_Mul p0 p1 E.hB E.hX (by decide) (by decide))
set_option maxRecDepth 100000 in
theorem divs_s24 {Q : Exit → Act → World → Prop} {a0 : Act} {w0 : World} {zA zB : Int} (E : DivE a0 w0 zA zB) : StepOk Tryd.prog Q (regionOf Tryd.f5 9) (divsSp zA zB) a0 w0 [5, 6, 7, 8, 9, 10, 11, 12] 24 := by
  intro a w hb hk hp
  have pg : slotOf (regionOf Tryd.f5 9).toArray a 20 = .bool false := hp 20 rfl
  exact st_want (wanted_slot rfl pg rfl) (st_load (hk 10 (by decide)) E.tR hb)
set_option maxRecDepth 100000 in
theorem divs_s25 {Q : Exit → Act → World → Prop} {a0 : Act} {w0 : World} {zA zB : Int} (E : DivE a0 w0 zA zB) : StepOk Tryd.prog Q (regionOf Tryd.f5 9) (divsSp zA zB) a0 w0 [5, 6, 7, 8, 9, 10, 11, 12] 25 := by
  intro a w _hb _hk hp
  have pg : slotOf (regionOf Tryd.f5 9).toArray a 20 = .bool false := hp 20 rfl
  have p0 : (Sp.num (zB * ((zA / zB)))).ok w (a.tmps.getD 66 undef) := hp 23 rfl
  have p1 : (Sp.num ((zA % zB))).ok w (a.tmps.getD 67 undef) := hp 24 rfl
  exact st_want (wanted_slot rfl pg rfl) (st_Add p0 p1 (mul_lt E.hB E.hX) E.hR (by decide) (by decide))
set_option maxRecDepth 100000 in
theorem divs_s26 {Q : Exit → Act → World → Prop} {a0 : Act} {w0 : World} {zA zB : Int} (E : DivE a0 w0 zA zB) : StepOk Tryd.prog Q (regionOf Tryd.f5 9) (divsSp zA zB) a0 w0 [5, 6, 7, 8, 9, 10, 11, 12] 26 := by
  intro a w hb hk hp
  have pg : slotOf (regionOf Tryd.f5 9).toArray a 20 = .bool false := hp 20 rfl
  exact st_want (wanted_slot rfl pg rfl) (st_load (hk 5 (by decide)) E.tA hb)
set_option maxRecDepth 100000 in
theorem divs_s27 {Q : Exit → Act → World → Prop} {a0 : Act} {w0 : World} {zA zB : Int} (E : DivE a0 w0 zA zB) : StepOk Tryd.prog Q (regionOf Tryd.f5 9) (divsSp zA zB) a0 w0 [5, 6, 7, 8, 9, 10, 11, 12] 27 := by
  intro a w _hb _hk hp
  have pg : slotOf (regionOf Tryd.f5 9).toArray a 20 = .bool false := hp 20 rfl
  have p0 : (Sp.num (zB * ((zA / zB)) + ((zA % zB)))).ok w (a.tmps.getD 68 undef) := hp 25 rfl
  have p1 : (Sp.num (zA)).ok w (a.tmps.getD 69 undef) := hp 26 rfl
  exact st_want (wanted_slot rfl pg rfl) (st_Cmp p0 p1 (add_lt2 (mul_lt E.hB E.hX) E.hR) E.hA (by decide) (by decide) (divs_zero _ _))
set_option maxRecDepth 100000 in
theorem divs_s28 {Q : Exit → Act → World → Prop} {a0 : Act} {w0 : World} {zA zB : Int} (_E : DivE a0 w0 zA zB) : StepOk Tryd.prog Q (regionOf Tryd.f5 9) (divsSp zA zB) a0 w0 [5, 6, 7, 8, 9, 10, 11, 12] 28 := by
  intro a w _hb _hk hp
  have pg : slotOf (regionOf Tryd.f5 9).toArray a 20 = .bool false := hp 20 rfl
  have p0 : (Sp.int (0)).ok w (a.tmps.getD 70 undef) := hp 27 rfl
  exact st_want (wanted_slot rfl pg rfl) (st_neq0 p0 (rfl))
set_option maxRecDepth 100000 in
theorem divs_s29 {Q : Exit → Act → World → Prop} {a0 : Act} {w0 : World} {zA zB : Int} (_E : DivE a0 w0 zA zB) : StepOk Tryd.prog Q (regionOf Tryd.f5 9) (divsSp zA zB) a0 w0 [5, 6, 7, 8, 9, 10, 11, 12] 29 := by
  intro a w _hb _hk hp
  have p0 : (Sp.bool false).ok w (a.tmps.getD 63 undef) := hp 20 rfl
  have p1 : (Sp.bool false).ok w (a.tmps.getD 71 undef) := hp 28 rfl
  exact st_want (wanted_none rfl) (st_pick p0 p1)
set_option maxRecDepth 100000 in
theorem divs_all {Q : Exit → Act → World → Prop} {a0 : Act} {w0 : World} {zA zB : Int} (E : DivE a0 w0 zA zB) : ∀ i, i < 30 → StepOk Tryd.prog Q (regionOf Tryd.f5 9) (divsSp zA zB) a0 w0 [5, 6, 7, 8, 9, 10, 11, 12] i :=
  flip lt_step (divs_s29 E) <| flip lt_step (divs_s28 E) <| flip lt_step (divs_s27 E) <| flip lt_step (divs_s26 E) <| flip lt_step (divs_s25 E) <| flip lt_step (divs_s24 E) <| flip lt_step (divs_s23 E) <| flip lt_step (divs_s22 E) <| flip lt_step (divs_s21 E) <| flip lt_step (divs_s20 E) <| flip lt_step (divs_s19 E) <| flip lt_step (divs_s18 E) <| flip lt_step (divs_s17 E) <| flip lt_step (divs_s16 E) <| flip lt_step (divs_s15 E) <| flip lt_step (divs_s14 E) <| flip lt_step (divs_s13 E) <| flip lt_step (divs_s12 E) <| flip lt_step (divs_s11 E) <| flip lt_step (divs_s10 E) <| flip lt_step (divs_s9 E) <| flip lt_step (divs_s8 E) <| flip lt_step (divs_s7 E) <| flip lt_step (divs_s6 E) <| flip lt_step (divs_s5 E) <| flip lt_step (divs_s4 E) <| flip lt_step (divs_s3 E) <| flip lt_step (divs_s2 E) <| flip lt_step (divs_s1 E) <| flip lt_step (divs_s0 E) <| lt_zero

set_option maxRecDepth 100000 in
theorem divs_test {Q : Exit → Act → World → Prop} {a0 : Act} {w0 : World} {zA zB : Int} (E : DivE a0 w0 zA zB) (hN : a0.tmps.size = 93)
    (hQ : ∀ (a : Act) (w : World), Below w0.heap.size w0 w → a.defers = a0.defers → a.tmps.size = 93 → (∀ k, k ∈ [5, 6, 7, 8, 9, 10, 11, 12] → a.tmps[k]? = a0.tmps[k]?) → a.tmps.getD 72 undef = .bool false → Q .normal a w) :
    (Code.region 9 (regionOf Tryd.f5 9).toArray true).wp Tryd.prog Q a0 w0 :=
  region_sp 93 [5, 6, 7, 8, 9, 10, 11, 12] (divsSp zA zB) (by kernel_rfl) (by kernel_rfl) hN 30 (by kernel_rfl) (divs_all E) (fun a w hb hd hs hk h => hQ a w hb hd hs hk (h 29 (by decide)))

set_option maxRecDepth 100000 in
set_option maxHeartbeats 8000000 in
theorem divs_walk (s t : ByteArray) (w : World) (hT : Tab w) (hs : s.size ≤ 9223372036854775807) (ht : t.size ≤ 9223372036854775807) :
    Calls Tryd.prog 5 #[.string s, .string t] w fun e w' => e = .returned (.bool true) ∧ Below w.heap.size w w' := by
  have HK := hide (known_yes w hT)
  have HT := hide hT
  clear hT
  go_enter Tryd.func5, Tryd.ntmps5
  go_wp2_with fail
  refine (unhide HK).mono ?_
  rintro e w1 ⟨rfl, hb1⟩
  go_wp2_with fail
  have hl3 : ∀ j (hj : j < [s, t].length), (w1.alloc (.cells #[.string s, .string t] 9)).cell? ⟨w1.heap.size, 0 + j, none⟩ = some (.string ([s, t][j]'hj)) := fun j hj => by
    rw [World.cell?_alloc_at _ _ _ _ rfl]
    match j, hj with
    | 0, _ => rfl
    | 1, _ => rfl
  refine (light_any w1.heap.size 0 2 2 [s, t] _ rfl (by decide) (fun x hx => by simp at hx; rcases hx with rfl | rfl <;> assumption) hl3).mono ?_
  rintro e w2 ⟨hlight, rfl⟩
  have hb2 : Below w.heap.size w (w1.alloc (.cells #[.string s, .string t] 9)) := hb1.alloc hb1.size _
  clear hl3 hs ht HK
  generalize (w1.alloc (.cells #[.string s, .string t] 9)) = w2 at *
  rcases hlight.symm with ⟨_, rfl⟩ | ⟨hsz, rfl⟩
  · go_wp2
    go_ret
    exact ⟨rfl, hb2⟩
  have hs : s.size ≤ 300 := hsz s (by simp)
  have ht : t.size ≤ 300 := hsz t (by simp)
  clear hsz hb1
  go_wp2_with fail
  refine (ofS_val s w2 hs).mono ?_
  rintro e wA ⟨vA, nA, zA, rfl, hbA, iA, jA, hzA, hyA⟩
  obtain ⟨cA1, cA2, cA3, cA4, rfl⟩ := iA.form
  obtain ⟨bA1, bA2, bA3, bA4, rfl⟩ := jA.form
  have HZA := hide (And.intro hzA hyA)
  clear hzA hyA
  have hBwA := hb2.trans (hbA.mono hb2.size)
  go_wp2_with fail
  have xA := (Bx.new wA cA1 cA2 cA3 cA4).alloc (.cells #[.bool bA1, .slice bA2 bA3 bA4] 31)
  have yA := NB.new (wA.alloc (.cells #[.int .i64 cA1, .slice cA2 cA3 cA4] 26)) bA1 bA2 bA3 bA4
  rw [World.size_alloc] at yA
  have hgA : Below wA.heap.size wA ((wA.alloc (.cells #[.int .i64 cA1, .slice cA2 cA3 cA4] 26)).alloc (.cells #[.bool bA1, .slice bA2 bA3 bA4] 31)) := ((Below.refl _ _).alloc (Nat.le_refl _) _).alloc (by simp) _
  replace iA := iA.below hgA
  replace jA := jA.below hgA
  have hBWA := hBwA.trans (hgA.mono hBwA.size)
  generalize ((wA.alloc (.cells #[.int .i64 cA1, .slice cA2 cA3 cA4] 26)).alloc (.cells #[.bool bA1, .slice bA2 bA3 bA4] 31)) = WA at *
  generalize wA.heap.size = rA at *
  refine (ofS_val t WA ht).mono ?_
  rintro e wB ⟨vB, nB, zB, rfl, hbB, iB, jB, hzB, hyB⟩
  obtain ⟨cB1, cB2, cB3, cB4, rfl⟩ := iB.form
  obtain ⟨bB1, bB2, bB3, bB4, rfl⟩ := jB.form
  have HZB := hide (And.intro hzB hyB)
  clear hzB hyB
  replace xA := xA.below hbB
  replace yA := yA.below hbB
  replace iA := iA.below hbB
  replace jA := jA.below hbB
  have hBwB := hBWA.trans (hbB.mono hBWA.size)
  have xB := (Bx.new wB cB1 cB2 cB3 cB4).alloc (.cells #[.bool bB1, .slice bB2 bB3 bB4] 31)
  have yB := NB.new (wB.alloc (.cells #[.int .i64 cB1, .slice cB2 cB3 cB4] 26)) bB1 bB2 bB3 bB4
  rw [World.size_alloc] at yB
  have hgB : Below wB.heap.size wB ((wB.alloc (.cells #[.int .i64 cB1, .slice cB2 cB3 cB4] 26)).alloc (.cells #[.bool bB1, .slice bB2 bB3 bB4] 31)) := ((Below.refl _ _).alloc (Nat.le_refl _) _).alloc (by simp) _
  replace xA := xA.below hgB
  replace yA := yA.below hgB
  replace iA := iA.below hgB
  replace jA := jA.below hgB
  replace iB := iB.below hgB
  replace jB := jB.below hgB
  have hBWB := hBwB.trans (hgB.mono hBwB.size)
  clear hs ht hb2 hBwA hbA hgA hBWA hBwB hbB hgB
  obtain ⟨kA0, kA1, _, _⟩ := xA.facts
  obtain ⟨kB0, kB1, _, _⟩ := xB.facts
  go_wp2_with fail
  generalize ((wB.alloc (.cells #[.int .i64 cB1, .slice cB2 cB3 cB4] 26)).alloc (.cells #[.bool bB1, .slice bB2 bB3 bB4] 31)) = WB at *
  generalize wB.heap.size = rB at *
  refine (quo_any quoLong_any _ _ zA zB WB iA iB (le4 (unhide HZA).1 (by decide)) (le4 (unhide HZB).1 (by decide))).mono ?_
  rintro e wX ⟨vX, vR, rfl, hbX, iX, iR⟩
  obtain ⟨cX1, cX2, cX3, cX4, rfl⟩ := iX.form
  obtain ⟨cR1, cR2, cR3, cR4, rfl⟩ := iR.form
  have hBwX := hBWB.trans (hbX.mono hBWB.size)
  replace xA := xA.below hbX
  replace yA := yA.below hbX
  replace iA := iA.below hbX
  replace jA := jA.below hbX
  replace xB := xB.below hbX
  replace yB := yB.below hbX
  replace iB := iB.below hbX
  replace jB := jB.below hbX
  clear hbX
  have xX := (Bx.new wX cX1 cX2 cX3 cX4).alloc (.cells #[.int .i64 cR1, .slice cR2 cR3 cR4] 26)
  have xR := Bx.new (wX.alloc (.cells #[.int .i64 cX1, .slice cX2 cX3 cX4] 26)) cR1 cR2 cR3 cR4
  rw [World.size_alloc] at xR
  have hgX : Below wX.heap.size wX ((wX.alloc (.cells #[.int .i64 cX1, .slice cX2 cX3 cX4] 26)).alloc (.cells #[.int .i64 cR1, .slice cR2 cR3 cR4] 26)) := ((Below.refl _ _).alloc (Nat.le_refl _) _).alloc (by simp) _
  replace xA := xA.below hgX
  replace yA := yA.below hgX
  replace iA := iA.below hgX
  replace jA := jA.below hgX
  replace xB := xB.below hgX
  replace yB := yB.below hgX
  replace iB := iB.below hgX
  replace jB := jB.below hgX
  replace iX := iX.below hgX
  replace iR := iR.below hgX
  have hBWX := hBwX.trans (hgX.mono hBwX.size)
  clear hgX
  clear kA0 kA1 kB0 kB1
  obtain ⟨kA0, kA1, _, _⟩ := yA.facts
  obtain ⟨kB0, kB1, _, _⟩ := yB.facts
  go_wp2_with fail
  generalize ((wX.alloc (.cells #[.int .i64 cX1, .slice cX2 cX3 cX4] 26)).alloc (.cells #[.int .i64 cR1, .slice cR2 cR3 cR4] 26)) = WX at *
  generalize wX.heap.size = rX at *
  refine (quoN_any _ _ zA zB WX jA jB (T4.le3 (unhide HZA).2 (by decide)) (T4.le3 (unhide HZB).2 (by decide))).mono ?_
  rintro e wY ⟨vY, vS, rfl, hbY, iY, iS⟩
  obtain ⟨cY1, cY2, cY3, cY4, rfl⟩ := iY.form
  obtain ⟨cS1, cS2, cS3, cS4, rfl⟩ := iS.form
  have hBwY := hBWX.trans (hbY.mono hBWX.size)
  replace xA := xA.below hbY
  replace yA := yA.below hbY
  replace iA := iA.below hbY
  replace jA := jA.below hbY
  replace xB := xB.below hbY
  replace yB := yB.below hbY
  replace iB := iB.below hbY
  replace jB := jB.below hbY
  replace xX := xX.below hbY
  replace xR := xR.below hbY
  replace iX := iX.below hbY
  replace iR := iR.below hbY
  clear hbY
  have xY := (NB.new wY cY1 cY2 cY3 cY4).alloc (.cells #[.bool cS1, .slice cS2 cS3 cS4] 31)
  have xS := NB.new (wY.alloc (.cells #[.bool cY1, .slice cY2 cY3 cY4] 31)) cS1 cS2 cS3 cS4
  rw [World.size_alloc] at xS
  have hgY : Below wY.heap.size wY ((wY.alloc (.cells #[.bool cY1, .slice cY2 cY3 cY4] 31)).alloc (.cells #[.bool cS1, .slice cS2 cS3 cS4] 31)) := ((Below.refl _ _).alloc (Nat.le_refl _) _).alloc (by simp) _
  replace xA := xA.below hgY
  replace yA := yA.below hgY
  replace iA := iA.below hgY
  replace jA := jA.below hgY
  replace xB := xB.below hgY
  replace yB := yB.below hgY
  replace iB := iB.below hgY
  replace jB := jB.below hgY
  replace xX := xX.below hgY
  replace xR := xR.below hgY
  replace iX := iX.below hgY
  replace iR := iR.below hgY
  replace iY := iY.below hgY
  replace iS := iS.below hgY
  have hBWY := hBwY.trans (hgY.mono hBwY.size)
  clear hgY
  clear kA0 kA1 kB0 kB1
  go_wp2_with fail
  generalize ((wY.alloc (.cells #[.bool cY1, .slice cY2 cY3 cY4] 31)).alloc (.cells #[.bool cS1, .slice cS2 cS3 cS4] 31)) = WY at *
  generalize wY.heap.size = rY at *
  have HX := hide (And.intro (ediv_lt (b := zB) (unhide HZA).1) (And.intro (emod_lt (unhide HZA).1 (unhide HZB).1) (And.intro (ediv_lt (b := zB) (unhide HZA).2) (emod_lt (unhide HZA).2 (unhide HZB).2))))
  refine divs_test (zA := zA) (zB := zB) ⟨(unhide HT).below hBWY, (unhide HZA).1, (unhide HZB).1, (unhide HZA).2, (unhide HZB).2, (unhide HX).1, (unhide HX).2.1, (unhide HX).2.2.1, (unhide HX).2.2.2, ⟨rA, rfl, _, xA, iA⟩, ⟨rB, rfl, _, xB, iB⟩, ⟨rA + 1, rfl, _, yA, jA⟩, ⟨rB + 1, rfl, _, yB, jB⟩, ⟨rX, rfl, _, xX, iX⟩, ⟨rX + 1, rfl, _, xR, iR⟩, ⟨rY, rfl, _, xY, iY⟩, ⟨rY + 1, rfl, _, xS, iS⟩⟩ rfl ?_
  intro a' w5 hb5 hd hsz hk h72
  replace xB := xB.below hb5
  replace iB := iB.below hb5
  replace xR := xR.below hb5
  replace iR := iR.below hb5
  have hBW5 := hBWY.trans (hb5.mono hBWY.size)
  clear hb5 xA yA iA jA yB jB xX iX xY xS iY iS hBwX hBWX hBwY hBWY hBWB HT
  obtain ⟨u0, e0⟩ : ∃ u, a'.tmps.getD 0 undef = u := ⟨_, rfl⟩
  obtain ⟨u1, e1⟩ : ∃ u, a'.tmps.getD 1 undef = u := ⟨_, rfl⟩
  obtain ⟨u2, e2⟩ : ∃ u, a'.tmps.getD 2 undef = u := ⟨_, rfl⟩
  obtain ⟨u3, e3⟩ : ∃ u, a'.tmps.getD 3 undef = u := ⟨_, rfl⟩
  obtain ⟨u4, e4⟩ : ∃ u, a'.tmps.getD 4 undef = u := ⟨_, rfl⟩
  obtain ⟨u13, e13⟩ : ∃ u, a'.tmps.getD 13 undef = u := ⟨_, rfl⟩
  obtain ⟨u14, e14⟩ : ∃ u, a'.tmps.getD 14 undef = u := ⟨_, rfl⟩
  obtain ⟨u15, e15⟩ : ∃ u, a'.tmps.getD 15 undef = u := ⟨_, rfl⟩
  obtain ⟨u16, e16⟩ : ∃ u, a'.tmps.getD 16 undef = u := ⟨_, rfl⟩
  obtain ⟨u17, e17⟩ : ∃ u, a'.tmps.getD 17 undef = u := ⟨_, rfl⟩
  obtain ⟨u18, e18⟩ : ∃ u, a'.tmps.getD 18 undef = u := ⟨_, rfl⟩
  obtain ⟨u19, e19⟩ : ∃ u, a'.tmps.getD 19 undef = u := ⟨_, rfl⟩
  obtain ⟨u20, e20⟩ : ∃ u, a'.tmps.getD 20 undef = u := ⟨_, rfl⟩
  obtain ⟨u21, e21⟩ : ∃ u, a'.tmps.getD 21 undef = u := ⟨_, rfl⟩
  obtain ⟨u22, e22⟩ : ∃ u, a'.tmps.getD 22 undef = u := ⟨_, rfl⟩
  obtain ⟨u23, e23⟩ : ∃ u, a'.tmps.getD 23 undef = u := ⟨_, rfl⟩
  obtain ⟨u24, e24⟩ : ∃ u, a'.tmps.getD 24 undef = u := ⟨_, rfl⟩
  obtain ⟨u25, e25⟩ : ∃ u, a'.tmps.getD 25 undef = u := ⟨_, rfl⟩
  obtain ⟨u26, e26⟩ : ∃ u, a'.tmps.getD 26 undef = u := ⟨_, rfl⟩
  obtain ⟨u27, e27⟩ : ∃ u, a'.tmps.getD 27 undef = u := ⟨_, rfl⟩
  obtain ⟨u28, e28⟩ : ∃ u, a'.tmps.getD 28 undef = u := ⟨_, rfl⟩
  obtain ⟨u29, e29⟩ : ∃ u, a'.tmps.getD 29 undef = u := ⟨_, rfl⟩
  obtain ⟨u30, e30⟩ : ∃ u, a'.tmps.getD 30 undef = u := ⟨_, rfl⟩
  obtain ⟨u31, e31⟩ : ∃ u, a'.tmps.getD 31 undef = u := ⟨_, rfl⟩
  obtain ⟨u32, e32⟩ : ∃ u, a'.tmps.getD 32 undef = u := ⟨_, rfl⟩
  obtain ⟨u33, e33⟩ : ∃ u, a'.tmps.getD 33 undef = u := ⟨_, rfl⟩
  obtain ⟨u34, e34⟩ : ∃ u, a'.tmps.getD 34 undef = u := ⟨_, rfl⟩
  obtain ⟨u35, e35⟩ : ∃ u, a'.tmps.getD 35 undef = u := ⟨_, rfl⟩
  obtain ⟨u36, e36⟩ : ∃ u, a'.tmps.getD 36 undef = u := ⟨_, rfl⟩
  obtain ⟨u37, e37⟩ : ∃ u, a'.tmps.getD 37 undef = u := ⟨_, rfl⟩
  obtain ⟨u38, e38⟩ : ∃ u, a'.tmps.getD 38 undef = u := ⟨_, rfl⟩
  obtain ⟨u39, e39⟩ : ∃ u, a'.tmps.getD 39 undef = u := ⟨_, rfl⟩
  obtain ⟨u40, e40⟩ : ∃ u, a'.tmps.getD 40 undef = u := ⟨_, rfl⟩
  obtain ⟨u41, e41⟩ : ∃ u, a'.tmps.getD 41 undef = u := ⟨_, rfl⟩
  obtain ⟨u42, e42⟩ : ∃ u, a'.tmps.getD 42 undef = u := ⟨_, rfl⟩
  obtain ⟨u43, e43⟩ : ∃ u, a'.tmps.getD 43 undef = u := ⟨_, rfl⟩
  obtain ⟨u44, e44⟩ : ∃ u, a'.tmps.getD 44 undef = u := ⟨_, rfl⟩
  obtain ⟨u45, e45⟩ : ∃ u, a'.tmps.getD 45 undef = u := ⟨_, rfl⟩
  obtain ⟨u46, e46⟩ : ∃ u, a'.tmps.getD 46 undef = u := ⟨_, rfl⟩
  obtain ⟨u47, e47⟩ : ∃ u, a'.tmps.getD 47 undef = u := ⟨_, rfl⟩
  obtain ⟨u48, e48⟩ : ∃ u, a'.tmps.getD 48 undef = u := ⟨_, rfl⟩
  obtain ⟨u49, e49⟩ : ∃ u, a'.tmps.getD 49 undef = u := ⟨_, rfl⟩
  obtain ⟨u50, e50⟩ : ∃ u, a'.tmps.getD 50 undef = u := ⟨_, rfl⟩
  obtain ⟨u51, e51⟩ : ∃ u, a'.tmps.getD 51 undef = u := ⟨_, rfl⟩
  obtain ⟨u52, e52⟩ : ∃ u, a'.tmps.getD 52 undef = u := ⟨_, rfl⟩
  obtain ⟨u53, e53⟩ : ∃ u, a'.tmps.getD 53 undef = u := ⟨_, rfl⟩
  obtain ⟨u54, e54⟩ : ∃ u, a'.tmps.getD 54 undef = u := ⟨_, rfl⟩
  obtain ⟨u55, e55⟩ : ∃ u, a'.tmps.getD 55 undef = u := ⟨_, rfl⟩
  obtain ⟨u56, e56⟩ : ∃ u, a'.tmps.getD 56 undef = u := ⟨_, rfl⟩
  obtain ⟨u57, e57⟩ : ∃ u, a'.tmps.getD 57 undef = u := ⟨_, rfl⟩
  obtain ⟨u58, e58⟩ : ∃ u, a'.tmps.getD 58 undef = u := ⟨_, rfl⟩
  obtain ⟨u59, e59⟩ : ∃ u, a'.tmps.getD 59 undef = u := ⟨_, rfl⟩
  obtain ⟨u60, e60⟩ : ∃ u, a'.tmps.getD 60 undef = u := ⟨_, rfl⟩
  obtain ⟨u61, e61⟩ : ∃ u, a'.tmps.getD 61 undef = u := ⟨_, rfl⟩
  obtain ⟨u62, e62⟩ : ∃ u, a'.tmps.getD 62 undef = u := ⟨_, rfl⟩
  obtain ⟨u63, e63⟩ : ∃ u, a'.tmps.getD 63 undef = u := ⟨_, rfl⟩
  obtain ⟨u64, e64⟩ : ∃ u, a'.tmps.getD 64 undef = u := ⟨_, rfl⟩
  obtain ⟨u65, e65⟩ : ∃ u, a'.tmps.getD 65 undef = u := ⟨_, rfl⟩
  obtain ⟨u66, e66⟩ : ∃ u, a'.tmps.getD 66 undef = u := ⟨_, rfl⟩
  obtain ⟨u67, e67⟩ : ∃ u, a'.tmps.getD 67 undef = u := ⟨_, rfl⟩
  obtain ⟨u68, e68⟩ : ∃ u, a'.tmps.getD 68 undef = u := ⟨_, rfl⟩
  obtain ⟨u69, e69⟩ : ∃ u, a'.tmps.getD 69 undef = u := ⟨_, rfl⟩
  obtain ⟨u70, e70⟩ : ∃ u, a'.tmps.getD 70 undef = u := ⟨_, rfl⟩
  obtain ⟨u71, e71⟩ : ∃ u, a'.tmps.getD 71 undef = u := ⟨_, rfl⟩
  obtain ⟨u73, e73⟩ : ∃ u, a'.tmps.getD 73 undef = u := ⟨_, rfl⟩
  obtain ⟨u74, e74⟩ : ∃ u, a'.tmps.getD 74 undef = u := ⟨_, rfl⟩
  obtain ⟨u75, e75⟩ : ∃ u, a'.tmps.getD 75 undef = u := ⟨_, rfl⟩
  obtain ⟨u76, e76⟩ : ∃ u, a'.tmps.getD 76 undef = u := ⟨_, rfl⟩
  obtain ⟨u77, e77⟩ : ∃ u, a'.tmps.getD 77 undef = u := ⟨_, rfl⟩
  obtain ⟨u78, e78⟩ : ∃ u, a'.tmps.getD 78 undef = u := ⟨_, rfl⟩
  obtain ⟨u79, e79⟩ : ∃ u, a'.tmps.getD 79 undef = u := ⟨_, rfl⟩
  obtain ⟨u80, e80⟩ : ∃ u, a'.tmps.getD 80 undef = u := ⟨_, rfl⟩
  obtain ⟨u81, e81⟩ : ∃ u, a'.tmps.getD 81 undef = u := ⟨_, rfl⟩
  obtain ⟨u82, e82⟩ : ∃ u, a'.tmps.getD 82 undef = u := ⟨_, rfl⟩
  obtain ⟨u83, e83⟩ : ∃ u, a'.tmps.getD 83 undef = u := ⟨_, rfl⟩
  obtain ⟨u84, e84⟩ : ∃ u, a'.tmps.getD 84 undef = u := ⟨_, rfl⟩
  obtain ⟨u85, e85⟩ : ∃ u, a'.tmps.getD 85 undef = u := ⟨_, rfl⟩
  obtain ⟨u86, e86⟩ : ∃ u, a'.tmps.getD 86 undef = u := ⟨_, rfl⟩
  obtain ⟨u87, e87⟩ : ∃ u, a'.tmps.getD 87 undef = u := ⟨_, rfl⟩
  obtain ⟨u88, e88⟩ : ∃ u, a'.tmps.getD 88 undef = u := ⟨_, rfl⟩
  obtain ⟨u89, e89⟩ : ∃ u, a'.tmps.getD 89 undef = u := ⟨_, rfl⟩
  obtain ⟨u90, e90⟩ : ∃ u, a'.tmps.getD 90 undef = u := ⟨_, rfl⟩
  obtain ⟨u91, e91⟩ : ∃ u, a'.tmps.getD 91 undef = u := ⟨_, rfl⟩
  obtain ⟨u92, e92⟩ : ∃ u, a'.tmps.getD 92 undef = u := ⟨_, rfl⟩
  obtain rfl := act_lit [u0, u1, u2, u3, u4, .pointer (some ⟨rA, 0, none⟩), .pointer (some ⟨rA + 1, 0, none⟩), .pointer (some ⟨rB, 0, none⟩), .pointer (some ⟨rB + 1, 0, none⟩), .pointer (some ⟨rX, 0, none⟩), .pointer (some ⟨rX + 1, 0, none⟩), .pointer (some ⟨rY, 0, none⟩), .pointer (some ⟨rY + 1, 0, none⟩), u13, u14, u15, u16, u17, u18, u19, u20, u21, u22, u23, u24, u25, u26, u27, u28, u29, u30, u31, u32, u33, u34, u35, u36, u37, u38, u39, u40, u41, u42, u43, u44, u45, u46, u47, u48, u49, u50, u51, u52, u53, u54, u55, u56, u57, u58, u59, u60, u61, u62, u63, u64, u65, u66, u67, u68, u69, u70, u71, .bool false, u73, u74, u75, u76, u77, u78, u79, u80, u81, u82, u83, u84, u85, u86, u87, u88, u89, u90, u91, u92] hsz hd (fun k hk9 => by
    match k, hk9 with
    | 0, _ => exact tmp_get (by omega) e0
    | 1, _ => exact tmp_get (by omega) e1
    | 2, _ => exact tmp_get (by omega) e2
    | 3, _ => exact tmp_get (by omega) e3
    | 4, _ => exact tmp_get (by omega) e4
    | 5, _ => exact (hk 5 (by decide)).trans rfl
    | 6, _ => exact (hk 6 (by decide)).trans rfl
    | 7, _ => exact (hk 7 (by decide)).trans rfl
    | 8, _ => exact (hk 8 (by decide)).trans rfl
    | 9, _ => exact (hk 9 (by decide)).trans rfl
    | 10, _ => exact (hk 10 (by decide)).trans rfl
    | 11, _ => exact (hk 11 (by decide)).trans rfl
    | 12, _ => exact (hk 12 (by decide)).trans rfl
    | 13, _ => exact tmp_get (by omega) e13
    | 14, _ => exact tmp_get (by omega) e14
    | 15, _ => exact tmp_get (by omega) e15
    | 16, _ => exact tmp_get (by omega) e16
    | 17, _ => exact tmp_get (by omega) e17
    | 18, _ => exact tmp_get (by omega) e18
    | 19, _ => exact tmp_get (by omega) e19
    | 20, _ => exact tmp_get (by omega) e20
    | 21, _ => exact tmp_get (by omega) e21
    | 22, _ => exact tmp_get (by omega) e22
    | 23, _ => exact tmp_get (by omega) e23
    | 24, _ => exact tmp_get (by omega) e24
    | 25, _ => exact tmp_get (by omega) e25
    | 26, _ => exact tmp_get (by omega) e26
    | 27, _ => exact tmp_get (by omega) e27
    | 28, _ => exact tmp_get (by omega) e28
    | 29, _ => exact tmp_get (by omega) e29
    | 30, _ => exact tmp_get (by omega) e30
    | 31, _ => exact tmp_get (by omega) e31
    | 32, _ => exact tmp_get (by omega) e32
    | 33, _ => exact tmp_get (by omega) e33
    | 34, _ => exact tmp_get (by omega) e34
    | 35, _ => exact tmp_get (by omega) e35
    | 36, _ => exact tmp_get (by omega) e36
    | 37, _ => exact tmp_get (by omega) e37
    | 38, _ => exact tmp_get (by omega) e38
    | 39, _ => exact tmp_get (by omega) e39
    | 40, _ => exact tmp_get (by omega) e40
    | 41, _ => exact tmp_get (by omega) e41
    | 42, _ => exact tmp_get (by omega) e42
    | 43, _ => exact tmp_get (by omega) e43
    | 44, _ => exact tmp_get (by omega) e44
    | 45, _ => exact tmp_get (by omega) e45
    | 46, _ => exact tmp_get (by omega) e46
    | 47, _ => exact tmp_get (by omega) e47
    | 48, _ => exact tmp_get (by omega) e48
    | 49, _ => exact tmp_get (by omega) e49
    | 50, _ => exact tmp_get (by omega) e50
    | 51, _ => exact tmp_get (by omega) e51
    | 52, _ => exact tmp_get (by omega) e52
    | 53, _ => exact tmp_get (by omega) e53
    | 54, _ => exact tmp_get (by omega) e54
    | 55, _ => exact tmp_get (by omega) e55
    | 56, _ => exact tmp_get (by omega) e56
    | 57, _ => exact tmp_get (by omega) e57
    | 58, _ => exact tmp_get (by omega) e58
    | 59, _ => exact tmp_get (by omega) e59
    | 60, _ => exact tmp_get (by omega) e60
    | 61, _ => exact tmp_get (by omega) e61
    | 62, _ => exact tmp_get (by omega) e62
    | 63, _ => exact tmp_get (by omega) e63
    | 64, _ => exact tmp_get (by omega) e64
    | 65, _ => exact tmp_get (by omega) e65
    | 66, _ => exact tmp_get (by omega) e66
    | 67, _ => exact tmp_get (by omega) e67
    | 68, _ => exact tmp_get (by omega) e68
    | 69, _ => exact tmp_get (by omega) e69
    | 70, _ => exact tmp_get (by omega) e70
    | 71, _ => exact tmp_get (by omega) e71
    | 72, _ => exact tmp_get (by omega) h72
    | 73, _ => exact tmp_get (by omega) e73
    | 74, _ => exact tmp_get (by omega) e74
    | 75, _ => exact tmp_get (by omega) e75
    | 76, _ => exact tmp_get (by omega) e76
    | 77, _ => exact tmp_get (by omega) e77
    | 78, _ => exact tmp_get (by omega) e78
    | 79, _ => exact tmp_get (by omega) e79
    | 80, _ => exact tmp_get (by omega) e80
    | 81, _ => exact tmp_get (by omega) e81
    | 82, _ => exact tmp_get (by omega) e82
    | 83, _ => exact tmp_get (by omega) e83
    | 84, _ => exact tmp_get (by omega) e84
    | 85, _ => exact tmp_get (by omega) e85
    | 86, _ => exact tmp_get (by omega) e86
    | 87, _ => exact tmp_get (by omega) e87
    | 88, _ => exact tmp_get (by omega) e88
    | 89, _ => exact tmp_get (by omega) e89
    | 90, _ => exact tmp_get (by omega) e90
    | 91, _ => exact tmp_get (by omega) e91
    | 92, _ => exact tmp_get (by omega) e92
    | _ + 93, h => exact absurd h (by simp))
  clear e0 e1 e2 e3 e4 e13 e14 e15 e16 e17 e18 e19 e20 e21 e22 e23 e24 e25 e26 e27 e28 e29 e30 e31 e32 e33 e34 e35 e36 e37 e38 e39 e40 e41 e42 e43 e44 e45 e46 e47 e48 e49 e50 e51 e52 e53 e54 e55 e56 e57 e58 e59 e60 e61 e62 e63 e64 e65 e66 e67 e68 e69 e70 e71 e73 e74 e75 e76 e77 e78 e79 e80 e81 e82 e83 e84 e85 e86 e87 e88 e89 e90 e91 e92 hsz hd
  clear hk h72
  obtain ⟨kB0, kB1, fB0, fB1⟩ := xB.facts
  obtain ⟨kR0, kR1, fR0, fR1⟩ := xR.facts
  have hNew := Bx.new w5 cB1 cB2 cB3 cB4
  have hb6 : Below w5.heap.size w5 (w5.alloc (.cells #[.int .i64 cB1, .slice cB2 cB3 cB4] 26)) := (Below.refl _ _).alloc (Nat.le_refl _) _
  have iN := iB.below hb6
  have xB6 := xB.below hb6
  have xR6 := xR.below hb6
  have iR6 := iR.below hb6
  have hne : w5.heap.size ≠ rB := by have := xB.lt; omega
  have hneR : w5.heap.size ≠ rX + 1 := by have := xR.lt; omega
  have hBW6 := hBW5.trans (hb6.mono hBW5.size)
  have hle : w.heap.size ≤ w5.heap.size := hBW5.size
  obtain ⟨mB0, mB1, _, _⟩ := xB6.facts
  clear hb6 xB iB xR iR hBW5 kR0 kR1 fR0 fR1 fB0 fB1
  go_wp2_with fail
  generalize (w5.alloc (.cells #[.int .i64 cB1, .slice cB2 cB3 cB4] 26)) = w6 at *
  generalize w5.heap.size = rN at *
  refine (sign_any _ zB w6 iN).mono ?_
  rintro e w7 ⟨rfl, hb7⟩
  replace xB6 := xB6.below hb7
  replace iN := iN.below hb7
  replace xR6 := xR6.below hb7
  replace iR6 := iR6.below hb7
  replace hNew := hNew.below hb7
  replace hBW6 := hBW6.trans (hb7.mono hBW6.size)
  clear hb7 mB0 mB1 kB0 kB1
  by_cases hs : zB < 0
  · have hsg : decide (sgn zB < 0) = true := by unfold sgn; rw [if_pos hs]; rfl
    have hz0 : (sgn zB == 0) = false := by unfold sgn; rw [if_pos hs]; rfl
    have hm := Int.emod_nonneg zA (show zB ≠ 0 by omega)
    have hl := Int.emod_lt zA (show zB ≠ 0 by omega)
    have hge : decide (0 ≤ sgn (zA % zB)) = true := by
      unfold sgn
      rw [if_neg (by omega)]
      split <;> rfl
    have hlt : decide (cmpI (zA % zB) (-zB) < 0) = true := by
      unfold cmpI
      rw [if_pos (by omega)]
      rfl
    clear hm hl hs
    obtain ⟨mB0, mB1, _, _⟩ := xB6.facts
    go_wp2_with fail
    refine (neg_any _ zB _ iN (Int.lt_of_lt_of_le (unhide HZB).1 (pw_mono (by decide)))).mono ?_
    rintro e w8 ⟨vN, rfl, hb8, iN8⟩
    obtain ⟨cN1, cN2, cN3, cN4, rfl⟩ := iN8.form
    replace hNew := hNew.below hb8
    have xN9 := hNew.set cN1 cN2 cN3 cN4
    have iN9 := iN8.put hNew (.int .i64 cN1) (.slice cN2 cN3 cN4)
    have xB9 := ((xB6.below hb8).other (p := ⟨rN, 0, none⟩) hne (.int .i64 cN1)).other (p := ⟨rN, 1, none⟩) hne (.slice cN2 cN3 cN4)
    have iB9 := (iN.below hb8).put hNew (.int .i64 cN1) (.slice cN2 cN3 cN4)
    have xR9 := ((xR6.below hb8).other (p := ⟨rN, 0, none⟩) hneR (.int .i64 cN1)).other (p := ⟨rN, 1, none⟩) hneR (.slice cN2 cN3 cN4)
    have iR9 := (iR6.below hb8).put hNew (.int .i64 cN1) (.slice cN2 cN3 cN4)
    have hBW9 := below_put (hBW6.trans (hb8.mono hBW6.size)) hle (.int .i64 cN1) (.slice cN2 cN3 cN4)
    obtain ⟨mN0, mN1, fN0, fN1⟩ := hNew.facts
    clear mB0 mB1 hb8 iN8 hBW6 xB6 iN xR6 iR6 hNew
    obtain ⟨nB0, nB1, _, _⟩ := xB9.facts
    go_wp2_with fail
    refine (sign_any _ zB _ iB9).mono ?_
    rintro e w10 ⟨rfl, hb10⟩
    replace xR9 := xR9.below hb10
    replace iR9 := iR9.below hb10
    replace xN9 := xN9.below hb10
    replace iN9 := iN9.below hb10
    replace hBW9 := hBW9.trans (hb10.mono hBW9.size)
    clear nB0 nB1 hb10 xB9 iB9
    obtain ⟨nR0, nR1, _, _⟩ := xR9.facts
    go_wp2_with fail
    refine (sign_any _ (zA % zB) _ iR9).mono ?_
    rintro e w11 ⟨rfl, hb11⟩
    replace xR9 := xR9.below hb11
    replace iR9 := iR9.below hb11
    replace xN9 := xN9.below hb11
    replace iN9 := iN9.below hb11
    replace hBW9 := hBW9.trans (hb11.mono hBW9.size)
    clear nR0 nR1 hb11
    obtain ⟨nR0, nR1, _, _⟩ := xR9.facts
    obtain ⟨nN0, nN1, _, _⟩ := xN9.facts
    go_wp2_with fail
    refine (cmp_any _ _ (zA % zB) (-zB) _ iR9 iN9 (le4 (unhide HX).2.1 (by decide)) (le4 (neg_pw (unhide HZB).1) (by decide))).mono ?_
    rintro e w12 ⟨rfl, hb12⟩
    replace hBW9 := hBW9.trans (hb12.mono hBW9.size)
    clear hb12 xR9 iR9 xN9 iN9 nR0 nR1 nN0 nN1
    go_wp2
    go_ret
    exact ⟨rfl, hBW9⟩
  · have hsg : decide (sgn zB < 0) = false := by
      unfold sgn
      rw [if_neg hs]
      split <;> rfl
    by_cases hz : zB = 0
    · have hz0 : (sgn zB == 0) = true := by rw [hz]; rfl
      clear hz hs
      obtain ⟨mB0, mB1, _, _⟩ := xB6.facts
      go_wp2_with fail
      refine (sign_any _ zB _ iN).mono ?_
      rintro e w8 ⟨rfl, hb8⟩
      replace hBW6 := hBW6.trans (hb8.mono hBW6.size)
      clear hb8 mB0 mB1 xB6 iN xR6 iR6 hNew
      go_wp2
      go_ret
      exact ⟨rfl, hBW6⟩
    · have hz0 : (sgn zB == 0) = false := by
        unfold sgn
        rw [if_neg hs, if_pos (by omega)]
        rfl
      have hm := Int.emod_nonneg zA hz
      have hl := Int.emod_lt zA hz
      have hge : decide (0 ≤ sgn (zA % zB)) = true := by
        unfold sgn
        rw [if_neg (by omega)]
        split <;> rfl
      have hlt : decide (cmpI (zA % zB) zB < 0) = true := by
        unfold cmpI
        rw [if_pos (by omega)]
        rfl
      clear hm hl hs hz
      have xN9 := hNew
      have iN9 := iN
      have xB9 := xB6
      have iB9 := iN
      have xR9 := xR6
      have iR9 := iR6
      have hBW9 := hBW6
      clear hNew iN xB6 xR6 iR6 hBW6
      obtain ⟨nB0, nB1, _, _⟩ := xB9.facts
      go_wp2_with fail
      refine (sign_any _ zB _ iB9).mono ?_
      rintro e w10 ⟨rfl, hb10⟩
      replace xR9 := xR9.below hb10
      replace iR9 := iR9.below hb10
      replace xN9 := xN9.below hb10
      replace iN9 := iN9.below hb10
      replace hBW9 := hBW9.trans (hb10.mono hBW9.size)
      clear nB0 nB1 hb10 xB9 iB9
      obtain ⟨nR0, nR1, _, _⟩ := xR9.facts
      go_wp2_with fail
      refine (sign_any _ (zA % zB) _ iR9).mono ?_
      rintro e w11 ⟨rfl, hb11⟩
      replace xR9 := xR9.below hb11
      replace iR9 := iR9.below hb11
      replace xN9 := xN9.below hb11
      replace iN9 := iN9.below hb11
      replace hBW9 := hBW9.trans (hb11.mono hBW9.size)
      clear nR0 nR1 hb11
      obtain ⟨nR0, nR1, _, _⟩ := xR9.facts
      obtain ⟨nN0, nN1, _, _⟩ := xN9.facts
      go_wp2_with fail
      refine (cmp_any _ _ (zA % zB) zB _ iR9 iN9 (le4 (unhide HX).2.1 (by decide)) (le4 (unhide HZB).1 (by decide))).mono ?_
      rintro e w12 ⟨rfl, hb12⟩
      replace hBW9 := hBW9.trans (hb12.mono hBW9.size)
      clear hb12 xR9 iR9 xN9 iN9 nR0 nR1 nN0 nN1
      go_wp2
      go_ret
      exact ⟨rfl, hBW9⟩

end Go.Proofs.YtblblpilmoefgaaDoor
