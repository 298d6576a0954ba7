/- Steps of straight code over boxes: one line each, for the generator sy.py. -/
import Derived.Test.YtlcfldkmojpkpaaGreatDoorTV

/- A region that draws its order, with boxes that are made and filled in it: walked by a spec an operation and a spec a store. -/
namespace Go.Proofs.YtlcfldkmojpkpaaGreatDoor
open Go Go.RowKit

/-- w' is w but for one block. -/
structure PutAt (r : Nat) (w w' : World) : Prop where
  os : w'.os = w.os
  tape : w'.tape = w.tape
  output : w'.output = w.output
  size : w'.heap.size = w.heap.size
  block : ∀ k, k ≠ r → w'.heap[k]? = w.heap[k]?
theorem PutAt.set (w : World) (p : Addr) (v : Value) : PutAt p.block w (w.setCell p v) := by
  have h := (Below.refl p.block w).setCell (p := p) (Nat.le_refl _) v
  exact ⟨h.os, h.tape, h.output, by simp, fun k hk => Below.heap_setCell _ _ _ _ hk⟩
theorem PutAt.trans {r : Nat} {w w' w'' : World} (h : PutAt r w w') (k : PutAt r w' w'') : PutAt r w w'' :=
  ⟨k.os.trans h.os, k.tape.trans h.tape, k.output.trans h.output, k.size.trans h.size, fun j hj => (k.block j hj).trans (h.block j hj)⟩
theorem PutAt.below {r B : Nat} {w0 w w' : World} (h : PutAt r w w') (hb : Below B w0 w) (hr : B ≤ r) : Below B w0 w' :=
  ⟨h.os.trans hb.os, h.tape.trans hb.tape, h.output.trans hb.output, by rw [h.size]; exact hb.size, fun k hk => (h.block k (by omega)).trans (hb.block k hk)⟩

/-- The kinds of boxes, by types. -/
structure Kinds where
  K : TypeId → World → Nat → Prop
  loc : ∀ t w w' r, w'.heap[r]? = w.heap[r]? → K t w r → K t w' r
  lt : ∀ t w r, K t w r → r < w.heap.size
  inj : ∀ t t' w r, K t w r → K t' w r → t = t'
  Z : World → Nat → Prop
/-- What is said of a slot: it stands when memory grows, and when a box is filled. -/
structure Sx (κ : Kinds) where
  ok : World → Value → Prop
  mono : ∀ w w' v, ok w v → Below w.heap.size w w' → ok w' v
  put : ∀ t w w' v r, ok w v → κ.K t w r → κ.Z w r → PutAt r w w' → κ.K t w' r → ok w' v
def Sx.any (κ : Kinds) : Sx κ := ⟨fun _ _ => True, fun _ _ _ h _ => h, fun _ _ _ _ _ h _ _ _ _ => h⟩
def Sx.val (κ : Kinds) (u : Value) : Sx κ := ⟨fun _ v => v = u, fun _ _ _ h _ => h, fun _ _ _ _ _ h _ _ _ _ => h⟩
def Sx.and {κ : Kinds} (s t : Sx κ) : Sx κ := ⟨fun w v => s.ok w v ∧ t.ok w v, fun w w' v h k => ⟨s.mono w w' v h.1 k, t.mono w w' v h.2 k⟩, fun y w w' v r h a z b c => ⟨s.put y w w' v r h.1 a z b c, t.put y w w' v r h.2 a z b c⟩⟩
/-- A pointer to a box of a type, not below B. -/
def Sx.box (κ : Kinds) (B : Nat) (t : TypeId) : Sx κ :=
  ⟨fun w v => ∃ r, v = .pointer (some ⟨r, 0, none⟩) ∧ B ≤ r ∧ κ.K t w r,
   fun _ _ _ ⟨r, h1, h2, h3⟩ hb => ⟨r, h1, h2, κ.loc _ _ _ _ (hb.block r (κ.lt _ _ _ h3)) h3⟩,
   fun y _ _ _ s ⟨r, h1, h2, h3⟩ k _ p k' => ⟨r, h1, h2, by
     by_cases e : r = s
     · subst e
       rw [κ.inj _ _ _ _ h3 k]
       exact k'
     · exact κ.loc _ _ _ _ (p.block r e) h3⟩⟩
/-- A store: its number, the slot of its pointer, what the box then holds. -/
structure St (κ : Kinds) where
  op : Nat
  pt : Nat
  H : World → Nat → Value → Prop
  S : Sx κ
  loc : ∀ w w' r v, w'.heap[r]? = w.heap[r]? → H w r v → H w' r v
  lt : ∀ w r v, H w r v → r < w.heap.size
  ob : Nat := 0
  O : World → Prop := fun _ => True
  om : ∀ w w', O w → Below w.heap.size w w' → O w' := by exact fun _ _ h _ => h
  oput : ∀ t w w' r, O w → κ.K t w r → κ.Z w r → PutAt r w w' → κ.K t w' r → r ≠ ob → O w' := by exact fun _ _ _ _ h _ _ _ _ _ => h
  F : World → Nat → Prop := fun _ _ => True
  floc : ∀ w w' r, w'.heap[r]? = w.heap[r]? → F w r → F w' r := by exact fun _ _ _ _ _ => trivial

/-- The pointers: slot, and the number of the operation that makes the box, if it is made here. -/
def availP (listed : Array Bool) (x : Nat × Option Nat) : Prop := ∀ i, x.2 = some i → listed.getD i false = true

def fxB (l : List Oper) (kept : List Nat) (ptrs : List (Nat × Option Nat)) (sts : List (Nat × Nat)) : Bool :=
  (sts.all fun s => match l[s.1]? with
    | some o => o.dst.isNone && o.guard.isNone && (ptrs.any fun x => x.1 == s.2) && (ptrs.all fun x => x.1 != s.2 || (match x.2 with | some i => (preds o).contains i | none => true))
    | none => false) &&
  (sts.all fun s => sts.all fun t => s.1 == t.1 || s.2 != t.2) &&
  (ptrs.all fun x => match x.2 with
    | some i => (match l[i]? with | some o => o.dst == some x.1 | none => false)
    | none => kept.contains x.1) &&
  ((List.range l.length).all fun i => (sts.any fun s => s.1 == i) || (match l[i]? with | some o => o.dst.isSome | none => false)) &&
  (ptrs.all fun x => ptrs.all fun y => x.1 != y.1 || x.2 == y.2)

theorem wpAny_text {P : Program} {Q : Exit → Act → World → Prop} {l : List Oper} (hf : ∀ i o, l[i]? = some o → ∀ e ∈ o.after, Region.binds .any e = true → e.on < i) :
    ∀ (m k : Nat) (listed : Array Bool) (a : Act) (w : World), k + m = l.length → listed.size = l.length → (∀ j, j < l.length → listed.getD j false = decide (j < k)) → ∀ fuel, m ≤ fuel → wpAny P .any l.toArray Q fuel listed a w → wpOps P l.toArray Q (List.range' k m) a w := by
  intro m
  induction m with
  | zero =>
    intro k listed a w hk hs hl fuel _ h
    have hr : Region.ready .any l.toArray listed = [] := by
      apply List.eq_nil_iff_forall_not_mem.2
      intro i hi
      obtain ⟨h0, o, ho, _⟩ := mem_ready.1 hi
      have hil : i < l.length := by simpa using (Array.getElem?_eq_some_iff.1 ho).1
      have h1 := hl i hil
      have : i < listed.size := by omega
      simp [this] at h0 h1
      rw [h0] at h1
      simp at h1
      omega
    cases fuel with
    | zero => exact h.2
    | succ f => exact h.1 hr
  | succ m ih =>
    intro k listed a w hk hs hl fuel hfu h
    cases fuel with
    | zero => omega
    | succ f =>
      have hkl : k < l.length := by omega
      have hkr : k ∈ Region.ready .any l.toArray listed := by
        refine mem_ready.2 ⟨?_, l[k], by simp [hkl], fun e he hb => ?_⟩
        · have h1 := hl k hkl
          have : k < listed.size := by omega
          simp [this] at h1 ⊢
          exact h1
        · have := hf k l[k] (List.getElem?_eq_getElem hkl) e he hb
          rw [hl e.on (by omega)]
          simpa using this
      rw [List.range'_succ, wpOps_cons]
      refine wpOp_mono (fun a' w' h' => ih (k + 1) _ a' w' (by omega) (by simpa using hs) (fun j hj => ?_) f (by omega) h') (h.2 k hkr)
      by_cases e : k = j
      · subst e
        have : k < listed.size := by omega
        simp [this]
      · rw [getD_set_ne false e, hl j hj]
        simp
        omega
theorem wp_region_text {P : Program} {Q : Exit → Act → World → Prop} {l : List Oper} {id : Nat} {a : Act} {w : World} (N : Nat) (kept : List Nat) (hg : fitF N 0 kept l = true)
    (h : wpAny P .any l.toArray Q l.toArray.size (Array.replicate l.toArray.size false) a w) : (Code.region id l.toArray false).wp P Q a w := by
  refine wp_region ?_
  rw [List.range_eq_range']
  refine wpAny_text (fun i o ho e he hb => ?_) l.toArray.size 0 _ a w (by simp) (by simp) (fun j hj => ?_) _ (Nat.le_refl _) h
  · have := (fitF_spec l 0 kept hg i o ho).1 e he hb
    omega
  · simp [hj]

theorem fx_any (κ : Kinds) {P : Program} {Q : Exit → Act → World → Prop} {l : List Oper} {a0 : Act} {w0 : World} (N B : Nat) (kept : List Nat) (sp : List (Sx κ)) (inv : Sx κ) (ptrs : List (Nat × Option Nat)) (sts : List (St κ))
    (hg : fitF N 0 kept l = true) (hB : fxB l kept ptrs (sts.map fun s => (s.op, s.pt)) = true) (hN : a0.tmps.size = N) (hi0 : inv.ok w0 undef) (hBw : B ≤ w0.heap.size)
    (hstA : ∀ s ∈ sts, ∀ w v, (sp.getD s.op (Sx.any κ)).ok w v) (hsame : ∀ s ∈ sts, ∀ s' ∈ sts, s.op = s'.op → s = s')
    (hOx : ∀ s ∈ sts, (∀ w, s.O w) ∨ (s.pt ∈ kept ∧ (s.pt, none) ∈ ptrs ∧ a0.tmps.getD s.pt undef = .pointer (some ⟨s.ob, 0, none⟩))) (hO0 : ∀ s ∈ sts, s.O w0)
    (hold : ∀ x ∈ ptrs, x.2 = none → ∃ r, a0.tmps.getD x.1 undef = .pointer (some ⟨r, 0, none⟩) ∧ r < w0.heap.size)
    (hdis : ∀ x ∈ ptrs, ∀ y ∈ ptrs, x.2 = none → y.2 = none → x.1 ≠ y.1 → a0.tmps.getD x.1 undef ≠ a0.tmps.getD y.1 undef)
    (hnew : ∀ x ∈ ptrs, ∀ i, x.2 = some i → ∀ w v, (sp.getD i (Sx.any κ)).ok w v → ∃ r, v = .pointer (some ⟨r, 0, none⟩) ∧ r < w.heap.size)
    (hstep : ∀ i o, l[i]? = some o → (∀ s ∈ sts, s.op ≠ i) → ∀ (a : Act) (w : World), Below B w0 w → inv.ok w undef → (∀ k, k ∈ kept → a.tmps[k]? = a0.tmps[k]?) → (∀ j, (preds o).contains j = true → (sp.getD j (Sx.any κ)).ok w (slotOf l.toArray a j)) → (∀ s ∈ sts, (ancs l 4 [s.op]).contains i = true → s.O w) →
      if Region.wanted o (yielded l.toArray a.tmps) then o.wp P a w (fun a' w' => ∃ v, a' = a.put o.dst v ∧ Below w.heap.size w w' ∧ (sp.getD i (Sx.any κ)).ok w' v ∧ ((∃ x ∈ ptrs, x.2 = some i) → v = .pointer (some ⟨w.heap.size, 0, none⟩) ∧ ∀ s ∈ sts, s.F w' w.heap.size)) Q
      else (sp.getD i (Sx.any κ)).ok w undef ∧ ∀ x ∈ ptrs, x.2 ≠ some i)
    (hstore : ∀ s ∈ sts, ∀ o, l[s.op]? = some o → ∀ (a : Act) (w : World), Below B w0 w → inv.ok w undef → (∀ k, k ∈ kept → a.tmps[k]? = a0.tmps[k]?) → (∀ j, (preds o).contains j = true → (sp.getD j (Sx.any κ)).ok w (slotOf l.toArray a j)) → s.O w → (∀ i, (s.pt, some i) ∈ ptrs → ∃ r, a.tmps.getD s.pt undef = .pointer (some ⟨r, 0, none⟩) ∧ s.F w r) →
      o.wp P a w (fun a' w' => a' = a ∧ ∃ r v t, a.tmps.getD s.pt undef = .pointer (some ⟨r, 0, none⟩) ∧ B ≤ r ∧ κ.K t w r ∧ κ.Z w r ∧ PutAt r w w' ∧ κ.K t w' r ∧ s.H w' r v ∧ s.S.ok w v) Q)
    (hend : ∀ (a : Act) (w : World), Below B w0 w → a.defers = a0.defers → a.tmps.size = N → (∀ k, k ∈ kept → a.tmps[k]? = a0.tmps[k]?) → inv.ok w undef → (∀ i, i < l.length → (∀ s ∈ sts, s.op ≠ i) → (sp.getD i (Sx.any κ)).ok w (slotOf l.toArray a i)) →
      (∀ s ∈ sts, ∃ r v, a.tmps.getD s.pt undef = .pointer (some ⟨r, 0, none⟩) ∧ s.H w r v ∧ s.S.ok w v) →
      (∀ x ∈ ptrs, ∀ y ∈ ptrs, x.1 ≠ y.1 → a.tmps.getD x.1 undef ≠ a.tmps.getD y.1 undef) → Q .normal a w) :
    wpAny P .any l.toArray Q l.toArray.size (Array.replicate l.toArray.size false) a0 w0 := by
  simp only [fxB, Bool.and_eq_true, List.all_eq_true, List.mem_map, forall_exists_index, and_imp, forall_apply_eq_imp_iff₂] at hB
  obtain ⟨⟨⟨⟨hS, hSd⟩, hP⟩, hO⟩, hPP⟩ := hB
  have hspec := fitF_spec l 0 kept hg
  have hStore : ∀ s ∈ sts, ∃ o, l[s.op]? = some o ∧ o.dst = none ∧ o.guard = none ∧ (∃ x ∈ ptrs, x.1 = s.pt) ∧ ∀ x ∈ ptrs, x.1 = s.pt → ∀ i, x.2 = some i → (preds o).contains i = true := by
    intro s hs
    have h := hS s hs
    cases ho : l[s.op]? with
    | none => simp [ho] at h
    | some o =>
      simp only [ho, Bool.and_eq_true, List.any_eq_true, List.all_eq_true, beq_iff_eq, Bool.or_eq_true, bne_iff_ne] at h
      obtain ⟨⟨⟨h1, h2⟩, h3⟩, h4⟩ := h
      refine ⟨o, rfl, by simpa using h1, by simpa using h2, h3, fun x hx e i hi => ?_⟩
      rcases h4 x hx with h5 | h5
      · exact absurd e h5
      · rw [hi] at h5; exact h5
  have hSd' : ∀ s ∈ sts, ∀ t ∈ sts, s.op ≠ t.op → s.pt ≠ t.pt := by
    intro s hs t ht hne
    have := hSd s hs t ht
    simp only [Bool.or_eq_true, beq_iff_eq, bne_iff_ne] at this
    rcases this with h | h
    · exact absurd h hne
    · exact h
  have hPn : ∀ x ∈ ptrs, ∀ i, x.2 = some i → ∃ o, l[i]? = some o ∧ o.dst = some x.1 := by
    intro x hx i hi
    have h := hP x hx
    rw [hi] at h
    cases ho : l[i]? with
    | none => simp [ho] at h
    | some o => simp only [ho, beq_iff_eq] at h; exact ⟨o, rfl, h⟩
  have hPk : ∀ x ∈ ptrs, x.2 = none → x.1 ∈ kept := by
    intro x hx hi
    have h := hP x hx
    rw [hi] at h
    simpa using h
  have hdst : ∀ i o, l[i]? = some o → (∀ s ∈ sts, s.op ≠ i) → ∃ d, o.dst = some d := by
    intro i o ho hn
    have h := hO i (List.mem_range.2 (List.getElem?_eq_some_iff.1 ho).1)
    simp only [Bool.or_eq_true, List.any_eq_true, List.mem_map, beq_iff_eq, ho] at h
    rcases h with ⟨p, ⟨s, hs, rfl⟩, e⟩ | h
    · exact absurd e (hn s hs)
    · exact Option.isSome_iff_exists.1 h
  have hPP' : ∀ x ∈ ptrs, ∀ y ∈ ptrs, x.1 = y.1 → x.2 = y.2 := by
    intro x hx y hy e
    have := hPP x hx y hy
    simp only [Bool.or_eq_true, bne_iff_ne, beq_iff_eq] at this
    rcases this with h | h
    · exact absurd e h
    · exact h
  -- a slot that is no operation's own keeps its value
  have hput : ∀ (i : Nat) (o : Oper) (a : Act) (v : Value) (d : Nat), o.dst = some d → ∀ k, k ≠ d → (a.put o.dst v).tmps.getD k undef = a.tmps.getD k undef := by
    intro i o a v d hd k hk
    rw [hd]
    simp only [Act.put, Array.getD_eq_getD_getElem?]
    rw [Array.getElem?_setIfInBounds_ne (Ne.symm hk)]
  have hputS : ∀ (o : Oper) (a : Act) (v : Value) (d : Nat), o.dst = some d → d < a.tmps.size → (a.put o.dst v).tmps.getD d undef = v := by
    intro o a v d hd hlt
    rw [hd]
    simp [Act.put, hlt]
  have hslotD : ∀ (a : Act) (i : Nat) (o : Oper) (d : Nat), l[i]? = some o → o.dst = some d → slotOf l.toArray a i = a.tmps.getD d undef := by
    intro a i o d ho hd
    simp [slotOf, ho, hd]
  have pinj : ∀ {r s : Nat}, (Value.pointer (some ⟨r, 0, none⟩) : Value) = .pointer (some ⟨s, 0, none⟩) → r = s := fun e9 => by
    injection e9 with e9
    injection e9 with e9
    injection e9 with e9
  let J : Array Bool → Act → World → Prop := fun listed a w => Below B w0 w ∧ w0.heap.size ≤ w.heap.size ∧ inv.ok w undef ∧ (∀ j o, l[j]? = some o → (∀ s ∈ sts, s.op ≠ j) → listed.getD j false = true → (sp.getD j (Sx.any κ)).ok w (slotOf l.toArray a j)) ∧
    (∀ s ∈ sts, listed.getD s.op false = true → ∃ r v, a.tmps.getD s.pt undef = .pointer (some ⟨r, 0, none⟩) ∧ s.H w r v ∧ s.S.ok w v) ∧
    (∀ x ∈ ptrs, ∀ y ∈ ptrs, x.1 ≠ y.1 → availP listed x → availP listed y → a.tmps.getD x.1 undef ≠ a.tmps.getD y.1 undef) ∧ (∀ s ∈ sts, listed.getD s.op false = false → s.O w) ∧ (∀ s ∈ sts, listed.getD s.op false = false → ∀ i, (s.pt, some i) ∈ ptrs → listed.getD i false = true → ∃ r, a.tmps.getD s.pt undef = .pointer (some ⟨r, 0, none⟩) ∧ s.F w r)
  refine stepsF N kept (fun _ _ => True) J hg hN ?_ ?_ (fun _ _ _ _ _ => trivial) ?_
  · have hf : ∀ j, (Array.replicate l.length false).getD j false = false := fun j => by
      by_cases h : j < l.length <;> simp [h]
    refine ⟨Below.refl _ _, Nat.le_refl _, hi0, fun j _ _ _ h => ?_, fun s _ h => ?_, fun x hx y hy hne ax ay => ?_, fun s hs _ => hO0 s hs, fun s _ _ i _ h => ?_⟩
    · rw [hf] at h; cases h
    · rw [hf] at h; cases h
    · refine hdis x hx y hy ?_ ?_ hne
      · cases h : x.2 with
        | none => rfl
        | some i => have := ax i h; rw [hf] at this; cases this
      · cases h : y.2 with
        | none => rfl
        | some i => have := ay i h; rw [hf] at this; cases this
    · rw [hf] at h; cases h
  · intro i o ho listed a w hsz hun hdown hdf hn hk hp hJ
    obtain ⟨hb, hsw, hiv, hΨ, hSt, hD, hOl, hFl⟩ : J listed a w := hJ
    have hil : i < l.length := (List.getElem?_eq_some_iff.1 ho).1
    have hunf : listed.getD i false = false := by
      have : i < listed.size := by omega
      simpa [this] using hun
    have hset : (listed.setIfInBounds i true).getD i false = true := by
      have : i < listed.size := by omega
      simp [this]
    have nset : ∀ {j : Nat}, i ≠ j → (listed.setIfInBounds i true).getD j false = listed.getD j false := fun h => getD_set_ne false h
    have hpr : ∀ j, (preds o).contains j = true → (sp.getD j (Sx.any κ)).ok w (slotOf l.toArray a j) ∨ ∃ s ∈ sts, s.op = j := fun j hj => by
      by_cases hs : ∃ s ∈ sts, s.op = j
      · exact .inr hs
      · left
        have hl := (hp j hj).1
        have hjl : j < l.length := by
          obtain ⟨e, he, rfl⟩ := preds_spec hj
          have := (hspec i o ho).1 e he.1 he.2
          omega
        exact hΨ j l[j] (List.getElem?_eq_getElem hjl) (fun s hs' e => hs ⟨s, hs', e⟩) hl
    have hptr : ∀ x ∈ ptrs, availP listed x → ∃ r, a.tmps.getD x.1 undef = .pointer (some ⟨r, 0, none⟩) ∧ r < w.heap.size := by
      intro x hx ax
      cases h : x.2 with
      | none =>
        obtain ⟨r, e, hlt⟩ := hold x hx h
        refine ⟨r, ?_, by omega⟩
        rw [← e]
        simp only [Array.getD_eq_getD_getElem?]
        rw [hk x.1 (hPk x hx h)]
      | some j =>
        obtain ⟨oj, hoj, hdj⟩ := hPn x hx j h
        have hnj : ∀ s ∈ sts, s.op ≠ j := by
          intro s hs e
          obtain ⟨o', ho', hd', _⟩ := hStore s hs
          rw [e, hoj] at ho'
          cases ho'
          rw [hdj] at hd'
          cases hd'
        have := hΨ j oj hoj hnj (ax j h)
        rw [hslotD a j oj x.1 hoj hdj] at this
        exact hnew x hx j h w _ this
    by_cases hst : ∃ s ∈ sts, s.op = i
    · -- a store
      obtain ⟨s, hs, rfl⟩ := hst
      obtain ⟨o', ho', hd', hgu, ⟨x, hx, ex⟩, hprx⟩ := hStore s hs
      rw [ho] at ho'
      cases ho'
      have hw : Region.wanted o (yielded l.toArray a.tmps) = true := by simp [Region.wanted, hgu]
      rw [if_pos hw]
      have hax : availP listed x := fun i hi => (hp i (hprx x hx ex i hi)).1
      have hpr' : ∀ j, (preds o).contains j = true → (sp.getD j (Sx.any κ)).ok w (slotOf l.toArray a j) ∨ ∃ s ∈ sts, s.op = j := hpr
      have h1 := hstore s hs o ho a w hb hiv hk (fun j hj => by
        rcases hpr' j hj with h | ⟨s', hs', rfl⟩
        · exact h
        · exact hstA s' hs' w (slotOf l.toArray a s'.op)) (hOl s hs hunf) (fun i hi => hFl s hs hunf i hi (hp i (hprx (s.pt, some i) hi rfl i rfl)).1)
      refine Oper.wp_mono ?_ h1
      rintro a' w' ⟨rfl, r, v, t, er, hBr, hK, hZ, hpa, hK', hH, hSv⟩
      refine ⟨undef, by rw [hd']; rfl, fun _ => trivial, hpa.below hb hBr, by rw [hpa.size]; exact hsw, inv.put _ _ _ _ _ hiv hK hZ hpa hK', fun j oj hoj hnj hl => ?_, fun s' hs' hl => ?_, fun x' hx' y' hy' hne ax ay => ?_, fun s' hs' hl => ?_, fun s' hs' hl i hi hli => ?_⟩
      · rw [nset (hnj s hs)] at hl
        exact (sp.getD j (Sx.any κ)).put _ _ _ _ _ (hΨ j oj hoj hnj hl) hK hZ hpa hK'
      · by_cases e : s.op = s'.op
        · obtain rfl := hsame s hs s' hs' e
          exact ⟨r, v, er, hH, s.S.put _ _ _ _ _ hSv hK hZ hpa hK'⟩
        · rw [nset e] at hl
          obtain ⟨r', v', er', hH', hS'⟩ := hSt s' hs' hl
          obtain ⟨o', ho', _, _, ⟨x', hx', ex'⟩, hprx'⟩ := hStore s' hs'
          have hax' : availP listed x' := fun i hi => hdown s'.op o' ho' hl i (hprx' x' hx' ex' i hi)
          have hrr : r' ≠ r := by
            intro e9
            refine hD x hx x' hx' (by rw [ex, ex']; exact hSd' s hs s' hs' e) hax hax' ?_
            rw [ex, ex', er, er', e9]
          exact ⟨r', v', er', s'.loc _ _ _ _ (hpa.block r' hrr) hH', s'.S.put _ _ _ _ _ hS' hK hZ hpa hK'⟩
      · have hav : ∀ z ∈ ptrs, availP (listed.setIfInBounds s.op true) z → availP listed z := by
          intro z hz az j hj
          obtain ⟨oj, hoj, hdj⟩ := hPn z hz j hj
          have hne' : s.op ≠ j := by
            intro e
            rw [← e, ho] at hoj
            cases hoj
            rw [hd'] at hdj
            cases hdj
          have := az j hj
          rwa [nset hne'] at this
        exact hD x' hx' y' hy' hne (hav _ hx' ax) (hav _ hy' ay)
      · have e : s.op ≠ s'.op := fun e => by rw [← e, hset] at hl; cases hl
        rw [nset e] at hl
        rcases hOx s' hs' with h | ⟨hkp, hpp, he⟩
        · exact h _
        · refine s'.oput _ _ _ _ (hOl s' hs' hl) hK hZ hpa hK' fun e9 => ?_
          refine hD x hx (s'.pt, none) hpp (by rw [ex]; exact hSd' s hs s' hs' e) hax (fun i hi => by cases hi) ?_
          show a'.tmps.getD x.1 undef = a'.tmps.getD s'.pt undef
          rw [ex, er, e9, ← he]
          simp only [Array.getD_eq_getD_getElem?]
          rw [hk s'.pt hkp]
      · have e : s.op ≠ s'.op := fun e => by rw [← e, hset] at hl; cases hl
        rw [nset e] at hl
        obtain ⟨oi, hoi, hdi⟩ := hPn _ hi i rfl
        have ei : s.op ≠ i := by
          intro e'
          rw [← e', ho] at hoi
          cases hoi
          rw [hd'] at hdi
          cases hdi
        rw [nset ei] at hli
        obtain ⟨r', er', hF⟩ := hFl s' hs' hl i hi hli
        refine ⟨r', er', s'.floc _ _ _ (hpa.block r' fun e9 => ?_) hF⟩
        refine hD x hx (s'.pt, some i) hi (by rw [ex]; exact hSd' s hs s' hs' e) hax (fun j hj => by cases hj; exact hli) ?_
        show a'.tmps.getD x.1 undef = a'.tmps.getD s'.pt undef
        rw [ex, er, er', e9]
    · have hnst : ∀ s ∈ sts, s.op ≠ i := fun s hs e => hst ⟨s, hs, e⟩
      obtain ⟨d, hd⟩ := hdst i o ho hnst
      obtain ⟨hdk, hdN, hdu⟩ := (hspec i o ho).2 d hd
      have hother : ∀ j oj, l[j]? = some oj → i ≠ j → ∀ dj, oj.dst = some dj → dj ≠ d := by
        intro j oj hoj hij dj hdj e
        subst e
        rcases Nat.lt_or_gt_of_ne hij with h | h
        · exact ((hspec j oj hoj).2 _ hdj).2.2 i o h ho hd
        · exact hdu j oj h hoj hdj
      have hpd : ∀ x ∈ ptrs, x.2 ≠ some i → x.1 ≠ d := by
        intro x hx hxi e
        cases h : x.2 with
        | none => exact hdk (e ▸ hPk x hx h)
        | some j =>
          obtain ⟨oj, hoj, hdj⟩ := hPn x hx j h
          have hij : i ≠ j := fun e' => hxi (by rw [h, e'])
          exact hother j oj hoj hij x.1 hdj e
      have hsd : ∀ s ∈ sts, listed.getD s.op false = true → s.pt ≠ d := by
        intro s hs hl e
        obtain ⟨o', ho', _, _, ⟨x, hx, ex⟩, hprx⟩ := hStore s hs
        by_cases hxi : x.2 = some i
        · have := hdown s.op o' ho' hl i (hprx x hx ex i hxi)
          rw [hunf] at this
          cases this
        · exact hpd x hx hxi (ex.trans e)
      have h1 := hstep i o ho hnst a w hb hiv hk (fun j hj => by
        rcases hpr j hj with h | ⟨s', hs', rfl⟩
        · exact h
        · exact hstA s' hs' w (slotOf l.toArray a s'.op)) (fun s hs hc => by
          cases hl : listed.getD s.op false with
          | false => exact hOl s hs hl
          | true =>
            have := ancs_listed hdown 4 [s.op] (by simpa using hl) i (by simpa using hc)
            rw [hunf] at this
            cases this)
      have fin : ∀ (w' : World) (v : Value), Below w.heap.size w w' → (sp.getD i (Sx.any κ)).ok w' v → ((∃ x ∈ ptrs, x.2 = some i) → v = .pointer (some ⟨w.heap.size, 0, none⟩) ∧ ∀ s ∈ sts, s.F w' w.heap.size) → J (listed.setIfInBounds i true) (a.put o.dst v) w' := by
        intro w' v hb' hv hpt
        refine ⟨hb.trans (hb'.mono ?_), by have := hb'.size; omega, inv.mono _ _ _ hiv hb', fun j oj hoj hnj hl => ?_, fun s hs hl => ?_, fun x hx y hy hne ax ay => ?_, fun s hs hl => ?_, fun s hs hl j hj hlj => ?_⟩
        · omega
        · by_cases e : i = j
          · subst e
            rw [ho] at hoj
            cases hoj
            rw [hslotD _ i o d ho hd, hputS o a v d hd (by omega)]
            exact hv
          · rw [nset e] at hl
            obtain ⟨dj, hdj⟩ := hdst j oj hoj hnj
            have h2 := hΨ j oj hoj hnj hl
            rw [hslotD _ j oj dj hoj hdj] at h2 ⊢
            rw [hput i o a v d hd dj (hother j oj hoj e dj hdj)]
            exact (sp.getD j (Sx.any κ)).mono _ _ _ h2 hb'
        · rw [nset (Ne.symm (hnst s hs))] at hl
          obtain ⟨r, v', er, hH, hS'⟩ := hSt s hs hl
          refine ⟨r, v', ?_, s.loc _ _ _ _ (hb'.block r (s.lt _ _ _ hH)) hH, s.S.mono _ _ _ hS' hb'⟩
          rw [hput i o a v d hd s.pt (hsd s hs hl)]
          exact er
        · have hav : ∀ z ∈ ptrs, z.2 ≠ some i → availP (listed.setIfInBounds i true) z → availP listed z := by
            intro z hz hzi az j hj
            have := az j hj
            rwa [nset (fun e => hzi (by rw [hj, e]))] at this
          by_cases hxi : x.2 = some i
          · have hyi : y.2 ≠ some i := by
              intro hyi
              obtain ⟨o1, ho1, hd1⟩ := hPn x hx i hxi
              obtain ⟨o2, ho2, hd2⟩ := hPn y hy i hyi
              rw [ho1] at ho2
              cases ho2
              rw [hd1] at hd2
              exact hne (Option.some.inj hd2)
            obtain ⟨o1, ho1, hd1⟩ := hPn x hx i hxi
            rw [ho] at ho1
            cases ho1
            rw [hd] at hd1
            have hxd : x.1 = d := (Option.some.inj hd1).symm
            obtain ⟨r, er, hlt⟩ := hptr y hy (hav y hy hyi ay)
            rw [hxd, hputS o a v d hd (by omega), hput i o a v d hd y.1 (hpd y hy hyi), er, (hpt ⟨x, hx, hxi⟩).1]
            intro e9
            have := pinj e9
            omega
          · by_cases hyi : y.2 = some i
            · obtain ⟨o1, ho1, hd1⟩ := hPn y hy i hyi
              rw [ho] at ho1
              cases ho1
              rw [hd] at hd1
              have hyd : y.1 = d := (Option.some.inj hd1).symm
              obtain ⟨r, er, hlt⟩ := hptr x hx (hav x hx hxi ax)
              rw [hyd, hputS o a v d hd (by omega), hput i o a v d hd x.1 (hpd x hx hxi), er, (hpt ⟨y, hy, hyi⟩).1]
              intro e9
              have := pinj e9
              omega
            · rw [hput i o a v d hd x.1 (hpd x hx hxi), hput i o a v d hd y.1 (hpd y hy hyi)]
              exact hD x hx y hy hne (hav x hx hxi ax) (hav y hy hyi ay)
        · rw [nset (Ne.symm (hnst s hs))] at hl
          exact s.om _ _ (hOl s hs hl) hb'
        · rw [nset (Ne.symm (hnst s hs))] at hl
          by_cases e : i = j
          · subst e
            obtain ⟨oi, hoi, hdi⟩ := hPn _ hj i rfl
            rw [ho] at hoi
            cases hoi
            rw [hd] at hdi
            have hdp : d = s.pt := Option.some.inj hdi
            have h9 := hpt ⟨_, hj, rfl⟩
            refine ⟨w.heap.size, ?_, h9.2 s hs⟩
            rw [← hdp, hputS o a v d hd (by omega)]
            exact h9.1
          · rw [nset e] at hlj
            obtain ⟨r, er, hF⟩ := hFl s hs hl j hj hlj
            have hne : s.pt ≠ d := hpd _ hj (fun e' => e (Option.some.inj e').symm)
            obtain ⟨r9, er9, hlt⟩ := hptr _ hj (fun k hk => by cases hk; exact hlj)
            have hr9 : r9 = r := pinj (er9.symm.trans er)
            refine ⟨r, ?_, s.floc _ _ _ (hb'.block r (by omega)) hF⟩
            rw [hput i o a v d hd s.pt hne]
            exact er
      split
      · rename_i hw
        simp only [hw, if_true] at h1
        refine Oper.wp_mono ?_ h1
        rintro a' w' ⟨v, rfl, hb', hv, hpt⟩
        exact ⟨v, rfl, fun _ => trivial, fin w' v hb' hv hpt⟩
      · rename_i hw
        simp only [hw] at h1
        exact ⟨fun _ => trivial, fin w undef (Below.refl _ _) h1.1 (fun ⟨x, hx, e⟩ => absurd e (h1.2 x hx))⟩
  · intro listed a w hsz hall hdf hn hk _ hJ
    obtain ⟨hb, _, hiv, hΨ, hSt, hD, _, _⟩ : J listed a w := hJ
    refine hend a w hb hdf hn hk hiv (fun i hi hnst => hΨ i l[i] (List.getElem?_eq_getElem hi) hnst (hall i hi)) (fun s hs => ?_) (fun x hx y hy hne => hD x hx y hy hne ?_ ?_)
    · obtain ⟨o', ho', _⟩ := hStore s hs
      exact hSt s hs (hall s.op (List.getElem?_eq_some_iff.1 ho').1)
    · intro i hi
      obtain ⟨o', ho', _⟩ := hPn x hx i hi
      exact hall i (List.getElem?_eq_some_iff.1 ho').1
    · intro i hi
      obtain ⟨o', ho', _⟩ := hPn y hy i hi
      exact hall i (List.getElem?_eq_some_iff.1 ho').1

theorem fx_reg (κ : Kinds) {P : Program} {Q : Exit → Act → World → Prop} {l : List Oper} {a0 : Act} {w0 : World} {id : Nat} (d : Bool) (hm : P.follows .mixedOrders = true) (N B : Nat) (kept : List Nat) (sp : List (Sx κ)) (inv : Sx κ) (ptrs : List (Nat × Option Nat)) (sts : List (St κ))
    (hg : fitF N 0 kept l = true) (hB : fxB l kept ptrs (sts.map fun s => (s.op, s.pt)) = true) (hN : a0.tmps.size = N) (hi0 : inv.ok w0 undef) (hBw : B ≤ w0.heap.size)
    (hstA : ∀ s ∈ sts, ∀ w v, (sp.getD s.op (Sx.any κ)).ok w v) (hsame : ∀ s ∈ sts, ∀ s' ∈ sts, s.op = s'.op → s = s')
    (hOx : ∀ s ∈ sts, (∀ w, s.O w) ∨ (s.pt ∈ kept ∧ (s.pt, none) ∈ ptrs ∧ a0.tmps.getD s.pt undef = .pointer (some ⟨s.ob, 0, none⟩))) (hO0 : ∀ s ∈ sts, s.O w0)
    (hold : ∀ x ∈ ptrs, x.2 = none → ∃ r, a0.tmps.getD x.1 undef = .pointer (some ⟨r, 0, none⟩) ∧ r < w0.heap.size)
    (hdis : ∀ x ∈ ptrs, ∀ y ∈ ptrs, x.2 = none → y.2 = none → x.1 ≠ y.1 → a0.tmps.getD x.1 undef ≠ a0.tmps.getD y.1 undef)
    (hnew : ∀ x ∈ ptrs, ∀ i, x.2 = some i → ∀ w v, (sp.getD i (Sx.any κ)).ok w v → ∃ r, v = .pointer (some ⟨r, 0, none⟩) ∧ r < w.heap.size)
    (hstep : ∀ i o, l[i]? = some o → (∀ s ∈ sts, s.op ≠ i) → ∀ (a : Act) (w : World), Below B w0 w → inv.ok w undef → (∀ k, k ∈ kept → a.tmps[k]? = a0.tmps[k]?) → (∀ j, (preds o).contains j = true → (sp.getD j (Sx.any κ)).ok w (slotOf l.toArray a j)) → (∀ s ∈ sts, (ancs l 4 [s.op]).contains i = true → s.O w) →
      if Region.wanted o (yielded l.toArray a.tmps) then o.wp P a w (fun a' w' => ∃ v, a' = a.put o.dst v ∧ Below w.heap.size w w' ∧ (sp.getD i (Sx.any κ)).ok w' v ∧ ((∃ x ∈ ptrs, x.2 = some i) → v = .pointer (some ⟨w.heap.size, 0, none⟩) ∧ ∀ s ∈ sts, s.F w' w.heap.size)) Q
      else (sp.getD i (Sx.any κ)).ok w undef ∧ ∀ x ∈ ptrs, x.2 ≠ some i)
    (hstore : ∀ s ∈ sts, ∀ o, l[s.op]? = some o → ∀ (a : Act) (w : World), Below B w0 w → inv.ok w undef → (∀ k, k ∈ kept → a.tmps[k]? = a0.tmps[k]?) → (∀ j, (preds o).contains j = true → (sp.getD j (Sx.any κ)).ok w (slotOf l.toArray a j)) → s.O w → (∀ i, (s.pt, some i) ∈ ptrs → ∃ r, a.tmps.getD s.pt undef = .pointer (some ⟨r, 0, none⟩) ∧ s.F w r) →
      o.wp P a w (fun a' w' => a' = a ∧ ∃ r v t, a.tmps.getD s.pt undef = .pointer (some ⟨r, 0, none⟩) ∧ B ≤ r ∧ κ.K t w r ∧ κ.Z w r ∧ PutAt r w w' ∧ κ.K t w' r ∧ s.H w' r v ∧ s.S.ok w v) Q)
    (hend : ∀ (a : Act) (w : World), Below B w0 w → a.defers = a0.defers → a.tmps.size = N → (∀ k, k ∈ kept → a.tmps[k]? = a0.tmps[k]?) → inv.ok w undef → (∀ i, i < l.length → (∀ s ∈ sts, s.op ≠ i) → (sp.getD i (Sx.any κ)).ok w (slotOf l.toArray a i)) →
      (∀ s ∈ sts, ∃ r v, a.tmps.getD s.pt undef = .pointer (some ⟨r, 0, none⟩) ∧ s.H w r v ∧ s.S.ok w v) →
      (∀ x ∈ ptrs, ∀ y ∈ ptrs, x.1 ≠ y.1 → a.tmps.getD x.1 undef ≠ a.tmps.getD y.1 undef) → Q .normal a w) :
    (Code.region id l.toArray d).wp P Q a0 w0 := by
  cases d with
  | false => exact wp_region_text N kept hg (fx_any κ N B kept sp inv ptrs sts hg hB hN hi0 hBw hstA hsame hOx hO0 hold hdis hnew hstep hstore hend)
  | true =>
    have hD : ∀ {B' : Nat}, Below B' w0 w0.drew := fun {B'} => (Below.refl B' w0).drew
    refine wp_region_any hm ?_
    refine fx_any κ (w0 := w0.drew) N B kept sp inv ptrs sts hg hB hN (inv.mono _ _ _ hi0 hD) hBw hstA hsame hOx (fun s hs => s.om _ _ (hO0 s hs) hD) hold hdis hnew ?_ ?_ ?_
    · exact fun i o ho hn a w hb hi => hstep i o ho hn a w (hD.trans hb) hi
    · exact fun s hs o ho a w hb hi => hstore s hs o ho a w (hD.trans hb) hi
    · exact fun a w hb => hend a w (hD.trans hb)

end Go.Proofs.YtlcfldkmojpkpaaGreatDoor

/- Boxes of fractions: shapes of values, loads, stores. -/
namespace Go.Proofs.YtlcfldkmojpkpaaGreatDoor
open Go Go.RowKit

theorem fx2 (κ : Kinds) {P : Program} {Q : Exit → Act → World → Prop} {l : List Oper} {a0 : Act} {w0 : World} {id : Nat} (d : Bool) (hm : P.follows .mixedOrders = true) (n N B : Nat) (kept : List Nat) (sp : List (Sx κ)) (inv : Sx κ) (ptrs : List (Nat × Option Nat)) (sts : List (St κ)) (hn : l.length = n)
    (hg : fitF N 0 kept l = true) (hB : fxB l kept ptrs (sts.map fun s => (s.op, s.pt)) = true) (hN : a0.tmps.size = N) (hi0 : inv.ok w0 undef) (hBw : B ≤ w0.heap.size)
    (hstA : ∀ s ∈ sts, ∀ w v, (sp.getD s.op (Sx.any κ)).ok w v) (hsame : ∀ s ∈ sts, ∀ s' ∈ sts, s.op = s'.op → s = s')
    (hOx : ∀ s ∈ sts, (∀ w, s.O w) ∨ (s.pt ∈ kept ∧ (s.pt, none) ∈ ptrs ∧ a0.tmps.getD s.pt undef = .pointer (some ⟨s.ob, 0, none⟩))) (hO0 : ∀ s ∈ sts, s.O w0)
    (hold : ∀ x ∈ ptrs, x.2 = none → ∃ r, a0.tmps.getD x.1 undef = .pointer (some ⟨r, 0, none⟩) ∧ r < w0.heap.size)
    (hdis : ∀ x ∈ ptrs, ∀ y ∈ ptrs, x.2 = none → y.2 = none → x.1 ≠ y.1 → a0.tmps.getD x.1 undef ≠ a0.tmps.getD y.1 undef)
    (hnew : ∀ x ∈ ptrs, ∀ i, x.2 = some i → ∀ w v, (sp.getD i (Sx.any κ)).ok w v → ∃ r, v = .pointer (some ⟨r, 0, none⟩) ∧ r < w.heap.size)
    (hstep : ∀ i, i < n → (∀ s ∈ sts, s.op ≠ i) → ∀ (a : Act) (w : World), Below B w0 w → inv.ok w undef → (∀ k, k ∈ kept → a.tmps[k]? = a0.tmps[k]?) → (∀ j, (preds (l.getD i default)).contains j = true → (sp.getD j (Sx.any κ)).ok w (slotOf l.toArray a j)) → (∀ s ∈ sts, (ancs l 4 [s.op]).contains i = true → s.O w) →
      if Region.wanted (l.getD i default) (yielded l.toArray a.tmps) then (l.getD i default).wp P a w (fun a' w' => ∃ v, a' = a.put (l.getD i default).dst v ∧ Below w.heap.size w w' ∧ (sp.getD i (Sx.any κ)).ok w' v ∧ ((∃ x ∈ ptrs, x.2 = some i) → v = .pointer (some ⟨w.heap.size, 0, none⟩) ∧ ∀ s ∈ sts, s.F w' w.heap.size)) Q
      else (sp.getD i (Sx.any κ)).ok w undef ∧ ∀ x ∈ ptrs, x.2 ≠ some i)
    (hstore : ∀ s ∈ sts, ∀ (a : Act) (w : World), Below B w0 w → inv.ok w undef → (∀ k, k ∈ kept → a.tmps[k]? = a0.tmps[k]?) → (∀ j, (preds (l.getD s.op default)).contains j = true → (sp.getD j (Sx.any κ)).ok w (slotOf l.toArray a j)) → s.O w → (∀ i, (s.pt, some i) ∈ ptrs → ∃ r, a.tmps.getD s.pt undef = .pointer (some ⟨r, 0, none⟩) ∧ s.F w r) →
      (l.getD s.op default).wp P a w (fun a' w' => a' = a ∧ ∃ r v t, a.tmps.getD s.pt undef = .pointer (some ⟨r, 0, none⟩) ∧ B ≤ r ∧ κ.K t w r ∧ κ.Z w r ∧ PutAt r w w' ∧ κ.K t w' r ∧ s.H w' r v ∧ s.S.ok w v) Q)
    (hend : ∀ (a : Act) (w : World), Below B w0 w → a.defers = a0.defers → a.tmps.size = N → (∀ k, k ∈ kept → a.tmps[k]? = a0.tmps[k]?) → inv.ok w undef → (∀ i, i < n → (∀ s ∈ sts, s.op ≠ i) → (sp.getD i (Sx.any κ)).ok w (slotOf l.toArray a i)) →
      (∀ s ∈ sts, ∃ r v, a.tmps.getD s.pt undef = .pointer (some ⟨r, 0, none⟩) ∧ s.H w r v ∧ s.S.ok w v) →
      (∀ x ∈ ptrs, ∀ y ∈ ptrs, x.1 ≠ y.1 → a.tmps.getD x.1 undef ≠ a.tmps.getD y.1 undef) → Q .normal a w) :
    (Code.region id l.toArray d).wp P Q a0 w0 := by
  subst hn
  have hgd : ∀ (i : Nat) (o : Oper), l[i]? = some o → l.getD i default = o := fun i o ho => by simp [List.getD_eq_getElem?_getD, ho]
  refine fx_reg κ d hm N B kept sp inv ptrs sts hg hB hN hi0 hBw hstA hsame hOx hO0 hold hdis hnew ?_ ?_ hend
  · intro i o ho hs a w hb hi hk hp
    have h := hstep i (List.getElem?_eq_some_iff.1 ho).1 hs a w hb hi hk
    rw [hgd i o ho] at h
    exact h hp
  · intro s hs o ho a w hb hi hk hp
    have h := hstore s hs a w hb hi hk
    rw [hgd s.op o ho] at h
    exact h hp

def RB (W : World) (R : Nat) (v : Value) : Prop := ∃ n a l c n' a' l' c', v = .agg #[.int .i64 n, .slice a l c, .int .i64 n', .slice a' l' c'] ∧ W.heap[R]? = some (.cells #[.int .i64 n, .slice a l c, .int .i64 n', .slice a' l' c'] 28)
def QB (W : World) (R : Nat) (v : Value) : Prop := ∃ n a l c n' a' l' c', v = .agg #[.bool n, .slice a l c, .bool n', .slice a' l' c'] ∧ W.heap[R]? = some (.cells #[.bool n, .slice a l c, .bool n', .slice a' l' c'] 33)
def XB (W : World) (R : Nat) (v : Value) : Prop := ∃ n0 a0 l0 c0 n1 a1 l1 c1 n2 a2 l2 c2 n3 a3 l3 c3, v = .agg #[.int .i64 n0, .slice a0 l0 c0, .int .i64 n1, .slice a1 l1 c1, .int .i64 n2, .slice a2 l2 c2, .int .i64 n3, .slice a3 l3 c3] ∧
  W.heap[R]? = some (.cells #[.int .i64 n0, .slice a0 l0 c0, .int .i64 n1, .slice a1 l1 c1, .int .i64 n2, .slice a2 l2 c2, .int .i64 n3, .slice a3 l3 c3] 68)
theorem Bx.loc {w w' : World} {r : Nat} {v : Value} (e : w'.heap[r]? = w.heap[r]?) (h : Bx w r v) : Bx w' r v := by unfold Bx at *; rw [e]; exact h
theorem NB.loc {w w' : World} {r : Nat} {v : Value} (e : w'.heap[r]? = w.heap[r]?) (h : NB w r v) : NB w' r v := by unfold NB at *; rw [e]; exact h
theorem RB.loc {w w' : World} {r : Nat} {v : Value} (e : w'.heap[r]? = w.heap[r]?) (h : RB w r v) : RB w' r v := by unfold RB at *; rw [e]; exact h
theorem QB.loc {w w' : World} {r : Nat} {v : Value} (e : w'.heap[r]? = w.heap[r]?) (h : QB w r v) : QB w' r v := by unfold QB at *; rw [e]; exact h
theorem XB.loc {w w' : World} {r : Nat} {v : Value} (e : w'.heap[r]? = w.heap[r]?) (h : XB w r v) : XB w' r v := by unfold XB at *; rw [e]; exact h
theorem heap_lt {w : World} {r : Nat} {o : Obj} (h : w.heap[r]? = some o) : r < w.heap.size := (Array.getElem?_eq_some_iff.1 h).1
theorem RB.lt {w : World} {r : Nat} {v : Value} (h : RB w r v) : r < w.heap.size := by obtain ⟨_, _, _, _, _, _, _, _, _, h⟩ := h; exact heap_lt h
theorem QB.lt {w : World} {r : Nat} {v : Value} (h : QB w r v) : r < w.heap.size := by obtain ⟨_, _, _, _, _, _, _, _, _, h⟩ := h; exact heap_lt h
theorem XB.lt {w : World} {r : Nat} {v : Value} (h : XB w r v) : r < w.heap.size := by obtain ⟨_, _, _, _, _, _, _, _, _, _, _, _, _, _, _, _, _, h⟩ := h; exact heap_lt h

def BoxT (t : TypeId) (w : World) (r : Nat) : Prop :=
  (t = 26 ∧ ∃ v, Bx w r v) ∨ (t = 28 ∧ ∃ v, RB w r v) ∨ (t = 68 ∧ ∃ v, XB w r v) ∨ (t = 31 ∧ ∃ v, NB w r v) ∨ (t = 33 ∧ ∃ v, QB w r v)
/-- A cell of a box. -/
def BoxC (x : Value) : Prop := (∃ n, x = .int .i64 n) ∨ (∃ b, x = .bool b) ∨ ∃ a l c, x = .slice a l c
theorem BoxC.i (n : Int) : BoxC (.int .i64 n) := .inl ⟨n, rfl⟩
theorem BoxC.b (n : Bool) : BoxC (.bool n) := .inr (.inl ⟨n, rfl⟩)
theorem BoxC.s (a : Option Addr) (l c : Nat) : BoxC (.slice a l c) := .inr (.inr ⟨a, l, c, rfl⟩)
theorem BoxT.cells {t : TypeId} {w : World} {r : Nat} (h : BoxT t w r) : ∃ cs : Array Value, w.heap[r]? = some (.cells cs t) ∧ ∀ x ∈ cs, BoxC x := by
  rcases h with ⟨rfl, v, n, a, l, c, _, h⟩ | ⟨rfl, v, n, a, l, c, n', a', l', c', _, h⟩ | ⟨rfl, v, n0, a0, l0, c0, n1, a1, l1, c1, n2, a2, l2, c2, n3, a3, l3, c3, _, h⟩ | ⟨rfl, v, n, a, l, c, _, h⟩ | ⟨rfl, v, n, a, l, c, n', a', l', c', _, h⟩
  all_goals
    refine ⟨_, h, fun x hx => ?_⟩
    simp only [List.mem_toArray, List.mem_cons, List.not_mem_nil, or_false] at hx
    rcases hx with hx
    first
    | (rcases hx with rfl | rfl | rfl | rfl | rfl | rfl | rfl | rfl <;> first | exact BoxC.i _ | exact BoxC.b _ | exact BoxC.s _ _ _)
    | (rcases hx with rfl | rfl | rfl | rfl <;> first | exact BoxC.i _ | exact BoxC.b _ | exact BoxC.s _ _ _)
    | (rcases hx with rfl | rfl <;> first | exact BoxC.i _ | exact BoxC.b _ | exact BoxC.s _ _ _)
theorem BoxT.loc {t : TypeId} {w w' : World} {r : Nat} (e : w'.heap[r]? = w.heap[r]?) (h : BoxT t w r) : BoxT t w' r := by
  rcases h with ⟨rfl, v, h⟩ | ⟨rfl, v, h⟩ | ⟨rfl, v, h⟩ | ⟨rfl, v, h⟩ | ⟨rfl, v, h⟩
  · exact .inl ⟨rfl, v, h.loc e⟩
  · exact .inr (.inl ⟨rfl, v, h.loc e⟩)
  · exact .inr (.inr (.inl ⟨rfl, v, h.loc e⟩))
  · exact .inr (.inr (.inr (.inl ⟨rfl, v, h.loc e⟩)))
  · exact .inr (.inr (.inr (.inr ⟨rfl, v, h.loc e⟩)))
theorem BoxT.cell {t : TypeId} {w : World} {r o : Nat} {x : Value} (h : BoxT t w r) (hx : w.cell? ⟨r, o, none⟩ = some x) : BoxC x := by
  obtain ⟨cs, hc, hall⟩ := h.cells
  simp only [World.cell?, hc, Option.isSome_none, Bool.false_eq_true, if_false] at hx
  exact hall x (Array.mem_of_getElem? hx)

/-- The ints in a box are noughts. -/
def Zr (w : World) (r : Nat) : Prop := ∀ o n, w.cell? ⟨r, o, none⟩ = some (.int .i64 n) → n = 0
/-- Boxes of which T holds may be filled. -/
def kd (T : Nat → Prop) (Z : World → Nat → Prop) : Kinds where
  K := fun t w r => T r ∧ BoxT t w r
  loc := fun _ _ _ _ e h => ⟨h.1, h.2.loc e⟩
  lt := fun _ _ _ h => by obtain ⟨_, h, _⟩ := h.2.cells; exact heap_lt h
  inj := fun _ _ _ _ h k => by
    obtain ⟨_, h, _⟩ := h.2.cells
    obtain ⟨_, k, _⟩ := k.2.cells
    rw [h] at k
    simpa using (by simpa using k : _ ∧ _).2
  Z := Z
theorem cell_put {r b : Nat} {w w' : World} (p : PutAt r w w') (h : b ≠ r) (o : Nat) : w'.cell? ⟨b, o, none⟩ = w.cell? ⟨b, o, none⟩ := World.cell?_of_block (w := w) (p.block b h)
theorem IsI.putAt {t : TypeId} {w w' : World} {v : Value} {z : Int} {r : Nat} (h : IsI w v z) (hr : BoxT t w r) (p : PutAt r w w') : IsI w' v z := by
  rcases h with h | ⟨b, off, cap, xs, e, h1, h2, h3, h4, h5, h6, h7⟩
  · exact .inl h
  · have hne : xs ≠ [] := IsI.ne_nil h6 h7
    have hbr : b ≠ r := by
      rintro rfl
      rcases hr.cell (h3 0 (List.length_pos_iff.2 hne)) with ⟨_, e⟩ | ⟨_, e⟩ | ⟨_, _, _, e⟩ <;> simp at e
    exact .inr ⟨b, off, cap, xs, e, h1, by rw [p.size]; exact h2, fun j hj => (cell_put p hbr _).trans (h3 j hj), h4, h5, h6, h7⟩
theorem IsN.putAt {w w' : World} {v : Value} {z : Int} {r : Nat} (h : IsN w v z) (hz : Zr w r) (p : PutAt r w w') : IsN w' v z := by
  obtain ⟨a, l, c, xs, e, ⟨a', cap, e2, hc, hr⟩, h2, h3, h4⟩ := h
  refine ⟨a, l, c, xs, e, ⟨a', cap, e2, hc, fun hne => ?_⟩, h2, h3, h4⟩
  obtain ⟨b, off, e3, hb, hcell⟩ := hr hne
  have hbr : b ≠ r := by
    rintro rfl
    have hpos := List.length_pos_iff.2 hne
    have h0 := hz _ _ (hcell (xs.length - 1) (by omega))
    rw [List.getElem?_eq_getElem (by omega), Option.getD_some] at h0
    have hl := h3 hne
    rw [List.getLast_eq_getElem] at hl
    exact hl h0
  exact ⟨b, off, e3, by rw [p.size]; exact hb, fun j hj => (cell_put p hbr _).trans (hcell j hj)⟩

section
variable (T : Nat → Prop) (Z : World → Nat → Prop)
def Xnum (z : Int) : Sx (kd T Z) := ⟨fun w v => IsI w v z, fun _ _ _ h hb => h.below hb, fun _ _ _ _ _ h k _ p _ => IsI.putAt h k.2 p⟩
/-- A fraction as it lies: its top, its below (0 for 1). -/
def IsR (w : World) (v : Value) (p b : Int) : Prop := ∃ n a l c n' a' l' c', v = .agg #[.int .i64 n, .slice a l c, .int .i64 n', .slice a' l' c'] ∧ IsI w (.agg #[.int .i64 n, .slice a l c]) p ∧ IsI w (.agg #[.int .i64 n', .slice a' l' c']) b
def Xrat (p b : Int) : Sx (kd T Z) := ⟨fun w v => IsR w v p b, fun _ _ _ ⟨n, a, l, c, n', a', l', c', e, h1, h2⟩ hb => ⟨n, a, l, c, n', a', l', c', e, h1.below hb, h2.below hb⟩, fun _ _ _ _ _ ⟨n, a, l, c, n', a', l', c', e, h1, h2⟩ k _ p _ => ⟨n, a, l, c, n', a', l', c', e, IsI.putAt h1 k.2 p, IsI.putAt h2 k.2 p⟩⟩
def IsX (w : World) (v : Value) (z0 z1 z2 z3 : Int) : Prop := ∃ n0 a0 l0 c0 n1 a1 l1 c1 n2 a2 l2 c2 n3 a3 l3 c3, v = .agg #[.int .i64 n0, .slice a0 l0 c0, .int .i64 n1, .slice a1 l1 c1, .int .i64 n2, .slice a2 l2 c2, .int .i64 n3, .slice a3 l3 c3] ∧ IsI w (.agg #[.int .i64 n0, .slice a0 l0 c0]) z0 ∧ IsI w (.agg #[.int .i64 n1, .slice a1 l1 c1]) z1 ∧ IsI w (.agg #[.int .i64 n2, .slice a2 l2 c2]) z2 ∧ IsI w (.agg #[.int .i64 n3, .slice a3 l3 c3]) z3
def Xpair (z0 z1 z2 z3 : Int) : Sx (kd T Z) := ⟨fun w v => IsX w v z0 z1 z2 z3, fun _ _ _ ⟨n0, a0, l0, c0, n1, a1, l1, c1, n2, a2, l2, c2, n3, a3, l3, c3, e, h0, h1, h2, h3⟩ hb => ⟨n0, a0, l0, c0, n1, a1, l1, c1, n2, a2, l2, c2, n3, a3, l3, c3, e, h0.below hb, h1.below hb, h2.below hb, h3.below hb⟩,
  fun _ _ _ _ _ ⟨n0, a0, l0, c0, n1, a1, l1, c1, n2, a2, l2, c2, n3, a3, l3, c3, e, h0, h1, h2, h3⟩ k _ p _ => ⟨n0, a0, l0, c0, n1, a1, l1, c1, n2, a2, l2, c2, n3, a3, l3, c3, e, IsI.putAt h0 k.2 p, IsI.putAt h1 k.2 p, IsI.putAt h2 k.2 p, IsI.putAt h3 k.2 p⟩⟩
def Xval (u : Value) : Sx (kd T Z) := Sx.val (kd T Z) u
def Xdoc (hZ : ∀ w r, Z w r → Zr w r) (z : Int) : Sx (kd T Z) := ⟨fun w v => IsN w v z, fun _ _ _ h hb => h.below hb, fun _ _ _ _ _ h _ k p _ => IsN.putAt h (hZ _ _ k) p⟩
def IsQ (w : World) (v : Value) (p b : Int) : Prop := ∃ n a l c n' a' l' c', v = .agg #[.bool n, .slice a l c, .bool n', .slice a' l' c'] ∧ IsN w (.agg #[.bool n, .slice a l c]) p ∧ IsN w (.agg #[.bool n', .slice a' l' c']) b
def Xfr (hZ : ∀ w r, Z w r → Zr w r) (p b : Int) : Sx (kd T Z) := ⟨fun w v => IsQ w v p b, fun _ _ _ ⟨n, a, l, c, n', a', l', c', e, h1, h2⟩ hb => ⟨n, a, l, c, n', a', l', c', e, h1.below hb, h2.below hb⟩, fun _ _ _ _ _ ⟨n, a, l, c, n', a', l', c', e, h1, h2⟩ _ k p _ => ⟨n, a, l, c, n', a', l', c', e, IsN.putAt h1 (hZ _ _ k) p, IsN.putAt h2 (hZ _ _ k) p⟩⟩
def Xtup {κ : Kinds} (S S' : Sx κ) : Sx κ := ⟨fun w v => ∃ x y, v = .tuple #[x, y] ∧ S.ok w x ∧ S'.ok w y, fun _ _ _ ⟨x, y, e, h1, h2⟩ hb => ⟨x, y, e, S.mono _ _ _ h1 hb, S'.mono _ _ _ h2 hb⟩,
  fun _ _ _ _ _ ⟨x, y, e, h1, h2⟩ k z p k' => ⟨x, y, e, S.put _ _ _ _ _ h1 k z p k', S'.put _ _ _ _ _ h2 k z p k'⟩⟩
/-- A box that may not be filled here, and what it holds. -/
def Xheld (H : World → Nat → Value → Prop) (loc : ∀ w w' r v, w'.heap[r]? = w.heap[r]? → H w r v → H w' r v) (lt : ∀ w r v, H w r v → r < w.heap.size) (r : Nat) (hr : ¬ T r) (v : Value) (S : Sx (kd T Z)) : Sx (kd T Z) :=
  ⟨fun w _ => H w r v ∧ S.ok w v, fun _w _w' _ h hb => ⟨loc _ _ _ _ (hb.block r (lt _ _ _ h.1)) h.1, S.mono _ _ _ h.2 hb⟩,
   fun _ _w _w' _ _s h k z p k' => ⟨loc _ _ _ _ (p.block r (fun e => hr (e ▸ k.1))) h.1, S.put _ _ _ _ _ h.2 k z p k'⟩⟩
end
theorem Bx.loc' (w w' : World) (r : Nat) (v : Value) (e : w'.heap[r]? = w.heap[r]?) (h : Bx w r v) : Bx w' r v := h.loc e
theorem NB.loc' (w w' : World) (r : Nat) (v : Value) (e : w'.heap[r]? = w.heap[r]?) (h : NB w r v) : NB w' r v := h.loc e
theorem RB.loc' (w w' : World) (r : Nat) (v : Value) (e : w'.heap[r]? = w.heap[r]?) (h : RB w r v) : RB w' r v := h.loc e
theorem QB.loc' (w w' : World) (r : Nat) (v : Value) (e : w'.heap[r]? = w.heap[r]?) (h : QB w r v) : QB w' r v := h.loc e
theorem XB.loc' (w w' : World) (r : Nat) (v : Value) (e : w'.heap[r]? = w.heap[r]?) (h : XB w r v) : XB w' r v := h.loc e
theorem Bx.lt' (w : World) (r : Nat) (v : Value) (h : Bx w r v) : r < w.heap.size := h.lt
theorem NB.lt' (w : World) (r : Nat) (v : Value) (h : NB w r v) : r < w.heap.size := h.lt
theorem RB.lt' (w : World) (r : Nat) (v : Value) (h : RB w r v) : r < w.heap.size := h.lt
theorem QB.lt' (w : World) (r : Nat) (v : Value) (h : QB w r v) : r < w.heap.size := h.lt
theorem XB.lt' (w : World) (r : Nat) (v : Value) (h : XB w r v) : r < w.heap.size := h.lt

/-! ### The memory's operations -/
theorem alloc_I {w : World} : (Instr.alloc 26 true (.tuple #[])).run Tryz.prog w = .ok (.pointer (some ⟨w.heap.size, 0, none⟩)) (w.alloc (.cells #[.int .i64 0, .slice none 0 0] 26)) := by go_simp
theorem alloc_R {w : World} : (Instr.alloc 28 true (.tuple #[])).run Tryz.prog w = .ok (.pointer (some ⟨w.heap.size, 0, none⟩)) (w.alloc (.cells #[.int .i64 0, .slice none 0 0, .int .i64 0, .slice none 0 0] 28)) := by go_simp
theorem alloc_Q {w : World} : (Instr.alloc 33 true (.tuple #[])).run Tryz.prog w = .ok (.pointer (some ⟨w.heap.size, 0, none⟩)) (w.alloc (.cells #[.bool false, .slice none 0 0, .bool false, .slice none 0 0] 33)) := by go_simp
theorem alloc_X {w : World} : (Instr.alloc 68 true (.tuple #[])).run Tryz.prog w = .ok (.pointer (some ⟨w.heap.size, 0, none⟩)) (w.alloc (.cells #[.int .i64 0, .slice none 0 0, .int .i64 0, .slice none 0 0, .int .i64 0, .slice none 0 0, .int .i64 0, .slice none 0 0] 68)) := by go_simp

theorem put_I {w : World} {r : Nat} {m0 : Int} {d0 : Option Addr} {f0 g0 : Nat} : PutAt r w ((w.setCell ⟨r, 0, none⟩ (.int .i64 m0)).setCell ⟨r, 1, none⟩ (.slice d0 f0 g0)) := ((PutAt.set _ ⟨r, 0, none⟩ _).trans (PutAt.set _ ⟨r, 1, none⟩ _))
theorem box_runI {w : World} {n0 : Int} {a0 : Option Addr} {l0 c0 : Nat} : (Instr.box 26 (.agg #[.int .i64 n0, .slice a0 l0 c0])).run Tryz.prog w = .ok (.pointer (some ⟨w.heap.size, 0, none⟩)) (w.alloc (.cells #[.int .i64 n0, .slice a0 l0 c0] 26)) := by go_simp
theorem RB.cell {w : World} {r : Nat} {n0 : Int} {a0 : Option Addr} {l0 c0 : Nat} {n1 : Int} {a1 : Option Addr} {l1 c1 : Nat} (h : RB w r (.agg #[.int .i64 n0, .slice a0 l0 c0, .int .i64 n1, .slice a1 l1 c1])) : w.cell? ⟨r, 0, none⟩ = some (.int .i64 n0) ∧ w.cell? ⟨r, 1, none⟩ = some (.slice a0 l0 c0) ∧ w.cell? ⟨r, 2, none⟩ = some (.int .i64 n1) ∧ w.cell? ⟨r, 3, none⟩ = some (.slice a1 l1 c1) ∧ ∀ o, w.frozen? ⟨r, o, none⟩ = false := by
  obtain ⟨_, _, _, _, _, _, _, _, e, h⟩ := h
  simp only [Value.agg.injEq, Array.mk.injEq, List.cons.injEq, Value.int.injEq, Value.slice.injEq, true_and, and_true, and_assoc] at e
  obtain ⟨rfl, rfl, rfl, rfl, rfl, rfl, rfl, rfl⟩ := e
  refine ⟨?_, ?_, ?_, ?_, fun o => ?_⟩
  all_goals simp [World.cell?, World.frozen?, h]
theorem RB.form {w : World} {r : Nat} {v : Value} (h : RB w r v) : ∃ n0 a0 l0 c0 n1 a1 l1 c1, v = (.agg #[.int .i64 n0, .slice a0 l0 c0, .int .i64 n1, .slice a1 l1 c1]) := by
  obtain ⟨n0, a0, l0, c0, n1, a1, l1, c1, e, _⟩ := h
  exact ⟨n0, a0, l0, c0, n1, a1, l1, c1, e⟩
theorem RB.new (w : World) (n0 n1 : Int) (a0 : Option Addr) (l0 c0 : Nat) (a1 : Option Addr) (l1 c1 : Nat) : RB (w.alloc (.cells #[.int .i64 n0, .slice a0 l0 c0, .int .i64 n1, .slice a1 l1 c1] 28)) w.heap.size (.agg #[.int .i64 n0, .slice a0 l0 c0, .int .i64 n1, .slice a1 l1 c1]) := ⟨n0, a0, l0, c0, n1, a1, l1, c1, rfl, heap_alloc_new w _⟩
theorem load_R {w : World} {r : Nat} {v : Value} (h : RB w r v) : (Instr.loadAt 28 (.pointer (some ⟨r, 0, none⟩))).run Tryz.prog w = .ok v w := by
  obtain ⟨n0, a0, l0, c0, n1, a1, l1, c1, rfl⟩ := h.form
  obtain ⟨k0, k1, k2, k3, _⟩ := h.cell
  go_simp
theorem load_R0 {w : World} {r : Nat} {n0 : Int} {a0 : Option Addr} {l0 c0 : Nat} {n1 : Int} {a1 : Option Addr} {l1 c1 : Nat} (h : RB w r (.agg #[.int .i64 n0, .slice a0 l0 c0, .int .i64 n1, .slice a1 l1 c1])) : (Instr.loadAt 26 (.pointer (some ⟨r, 0, none⟩))).run Tryz.prog w = .ok (.agg #[.int .i64 n0, .slice a0 l0 c0]) w := by
  obtain ⟨k0, k1, k2, k3, _⟩ := h.cell
  go_simp
theorem field_R0 {w : World} {r : Nat} : (Instr.fieldAt 28 (.pointer (some ⟨r, 0, none⟩)) 0).run Tryz.prog w = .ok (.pointer (some ⟨r, 0, none⟩)) w := by go_simp
theorem load_R1 {w : World} {r : Nat} {n0 : Int} {a0 : Option Addr} {l0 c0 : Nat} {n1 : Int} {a1 : Option Addr} {l1 c1 : Nat} (h : RB w r (.agg #[.int .i64 n0, .slice a0 l0 c0, .int .i64 n1, .slice a1 l1 c1])) : (Instr.loadAt 26 (.pointer (some ⟨r, 2, none⟩))).run Tryz.prog w = .ok (.agg #[.int .i64 n1, .slice a1 l1 c1]) w := by
  obtain ⟨k0, k1, k2, k3, _⟩ := h.cell
  go_simp
theorem field_R1 {w : World} {r : Nat} : (Instr.fieldAt 28 (.pointer (some ⟨r, 0, none⟩)) 1).run Tryz.prog w = .ok (.pointer (some ⟨r, 2, none⟩)) w := by go_simp
theorem store_R {w : World} {r : Nat} {u : Value} {m0 : Int} {d0 : Option Addr} {f0 g0 : Nat} {m1 : Int} {d1 : Option Addr} {f1 g1 : Nat} (h : RB w r u) : (Instr.storeAt 28 (.pointer (some ⟨r, 0, none⟩)) (.agg #[.int .i64 m0, .slice d0 f0 g0, .int .i64 m1, .slice d1 f1 g1])).run Tryz.prog w = .ok () ((((w.setCell ⟨r, 0, none⟩ (.int .i64 m0)).setCell ⟨r, 1, none⟩ (.slice d0 f0 g0)).setCell ⟨r, 2, none⟩ (.int .i64 m1)).setCell ⟨r, 3, none⟩ (.slice d1 f1 g1)) := by
  obtain ⟨n0, a0, l0, c0, n1, a1, l1, c1, rfl⟩ := h.form
  obtain ⟨k0, k1, k2, k3, fz⟩ := h.cell
  have z0 := fz 0; have z1 := fz 1; have z2 := fz 2; have z3 := fz 3;
  go_simp
theorem RB.set {w : World} {r : Nat} {u : Value} {m0 : Int} {d0 : Option Addr} {f0 g0 : Nat} {m1 : Int} {d1 : Option Addr} {f1 g1 : Nat} (h : RB w r u) : RB ((((w.setCell ⟨r, 0, none⟩ (.int .i64 m0)).setCell ⟨r, 1, none⟩ (.slice d0 f0 g0)).setCell ⟨r, 2, none⟩ (.int .i64 m1)).setCell ⟨r, 3, none⟩ (.slice d1 f1 g1)) r (.agg #[.int .i64 m0, .slice d0 f0 g0, .int .i64 m1, .slice d1 f1 g1]) := by
  obtain ⟨_, _, _, _, _, _, _, _, _, h⟩ := h
  have hl := heap_lt h
  refine ⟨m0, d0, f0, g0, m1, d1, f1, g1, rfl, ?_⟩
  simp [World.setCell, h, Array.getElem?_modify]
theorem put_R {w : World} {r : Nat} {m0 : Int} {d0 : Option Addr} {f0 g0 : Nat} {m1 : Int} {d1 : Option Addr} {f1 g1 : Nat} : PutAt r w ((((w.setCell ⟨r, 0, none⟩ (.int .i64 m0)).setCell ⟨r, 1, none⟩ (.slice d0 f0 g0)).setCell ⟨r, 2, none⟩ (.int .i64 m1)).setCell ⟨r, 3, none⟩ (.slice d1 f1 g1)) := ((((PutAt.set _ ⟨r, 0, none⟩ _).trans (PutAt.set _ ⟨r, 1, none⟩ _)).trans (PutAt.set _ ⟨r, 2, none⟩ _)).trans (PutAt.set _ ⟨r, 3, none⟩ _))
theorem box_runR {w : World} {n0 : Int} {a0 : Option Addr} {l0 c0 : Nat} {n1 : Int} {a1 : Option Addr} {l1 c1 : Nat} : (Instr.box 28 (.agg #[.int .i64 n0, .slice a0 l0 c0, .int .i64 n1, .slice a1 l1 c1])).run Tryz.prog w = .ok (.pointer (some ⟨w.heap.size, 0, none⟩)) (w.alloc (.cells #[.int .i64 n0, .slice a0 l0 c0, .int .i64 n1, .slice a1 l1 c1] 28)) := by go_simp
theorem XB.cell {w : World} {r : Nat} {n0 : Int} {a0 : Option Addr} {l0 c0 : Nat} {n1 : Int} {a1 : Option Addr} {l1 c1 : Nat} {n2 : Int} {a2 : Option Addr} {l2 c2 : Nat} {n3 : Int} {a3 : Option Addr} {l3 c3 : Nat} (h : XB w r (.agg #[.int .i64 n0, .slice a0 l0 c0, .int .i64 n1, .slice a1 l1 c1, .int .i64 n2, .slice a2 l2 c2, .int .i64 n3, .slice a3 l3 c3])) : w.cell? ⟨r, 0, none⟩ = some (.int .i64 n0) ∧ w.cell? ⟨r, 1, none⟩ = some (.slice a0 l0 c0) ∧ w.cell? ⟨r, 2, none⟩ = some (.int .i64 n1) ∧ w.cell? ⟨r, 3, none⟩ = some (.slice a1 l1 c1) ∧ w.cell? ⟨r, 4, none⟩ = some (.int .i64 n2) ∧ w.cell? ⟨r, 5, none⟩ = some (.slice a2 l2 c2) ∧ w.cell? ⟨r, 6, none⟩ = some (.int .i64 n3) ∧ w.cell? ⟨r, 7, none⟩ = some (.slice a3 l3 c3) ∧ ∀ o, w.frozen? ⟨r, o, none⟩ = false := by
  obtain ⟨_, _, _, _, _, _, _, _, _, _, _, _, _, _, _, _, e, h⟩ := h
  simp only [Value.agg.injEq, Array.mk.injEq, List.cons.injEq, Value.int.injEq, Value.slice.injEq, true_and, and_true, and_assoc] at e
  obtain ⟨rfl, rfl, rfl, rfl, rfl, rfl, rfl, rfl, rfl, rfl, rfl, rfl, rfl, rfl, rfl, rfl⟩ := e
  refine ⟨?_, ?_, ?_, ?_, ?_, ?_, ?_, ?_, fun o => ?_⟩
  all_goals simp [World.cell?, World.frozen?, h]
theorem XB.form {w : World} {r : Nat} {v : Value} (h : XB w r v) : ∃ n0 a0 l0 c0 n1 a1 l1 c1 n2 a2 l2 c2 n3 a3 l3 c3, v = (.agg #[.int .i64 n0, .slice a0 l0 c0, .int .i64 n1, .slice a1 l1 c1, .int .i64 n2, .slice a2 l2 c2, .int .i64 n3, .slice a3 l3 c3]) := by
  obtain ⟨n0, a0, l0, c0, n1, a1, l1, c1, n2, a2, l2, c2, n3, a3, l3, c3, e, _⟩ := h
  exact ⟨n0, a0, l0, c0, n1, a1, l1, c1, n2, a2, l2, c2, n3, a3, l3, c3, e⟩
theorem XB.new (w : World) (n0 n1 n2 n3 : Int) (a0 : Option Addr) (l0 c0 : Nat) (a1 : Option Addr) (l1 c1 : Nat) (a2 : Option Addr) (l2 c2 : Nat) (a3 : Option Addr) (l3 c3 : Nat) : XB (w.alloc (.cells #[.int .i64 n0, .slice a0 l0 c0, .int .i64 n1, .slice a1 l1 c1, .int .i64 n2, .slice a2 l2 c2, .int .i64 n3, .slice a3 l3 c3] 68)) w.heap.size (.agg #[.int .i64 n0, .slice a0 l0 c0, .int .i64 n1, .slice a1 l1 c1, .int .i64 n2, .slice a2 l2 c2, .int .i64 n3, .slice a3 l3 c3]) := ⟨n0, a0, l0, c0, n1, a1, l1, c1, n2, a2, l2, c2, n3, a3, l3, c3, rfl, heap_alloc_new w _⟩
theorem load_X {w : World} {r : Nat} {v : Value} (h : XB w r v) : (Instr.loadAt 68 (.pointer (some ⟨r, 0, none⟩))).run Tryz.prog w = .ok v w := by
  obtain ⟨n0, a0, l0, c0, n1, a1, l1, c1, n2, a2, l2, c2, n3, a3, l3, c3, rfl⟩ := h.form
  obtain ⟨k0, k1, k2, k3, k4, k5, k6, k7, _⟩ := h.cell
  go_simp
theorem load_X0 {w : World} {r : Nat} {n0 : Int} {a0 : Option Addr} {l0 c0 : Nat} {n1 : Int} {a1 : Option Addr} {l1 c1 : Nat} {n2 : Int} {a2 : Option Addr} {l2 c2 : Nat} {n3 : Int} {a3 : Option Addr} {l3 c3 : Nat} (h : XB w r (.agg #[.int .i64 n0, .slice a0 l0 c0, .int .i64 n1, .slice a1 l1 c1, .int .i64 n2, .slice a2 l2 c2, .int .i64 n3, .slice a3 l3 c3])) : (Instr.loadAt 26 (.pointer (some ⟨r, 0, none⟩))).run Tryz.prog w = .ok (.agg #[.int .i64 n0, .slice a0 l0 c0]) w := by
  obtain ⟨k0, k1, k2, k3, k4, k5, k6, k7, _⟩ := h.cell
  go_simp
theorem field_X0 {w : World} {r : Nat} : (Instr.fieldAt 68 (.pointer (some ⟨r, 0, none⟩)) 0).run Tryz.prog w = .ok (.pointer (some ⟨r, 0, none⟩)) w := by go_simp
theorem load_X1 {w : World} {r : Nat} {n0 : Int} {a0 : Option Addr} {l0 c0 : Nat} {n1 : Int} {a1 : Option Addr} {l1 c1 : Nat} {n2 : Int} {a2 : Option Addr} {l2 c2 : Nat} {n3 : Int} {a3 : Option Addr} {l3 c3 : Nat} (h : XB w r (.agg #[.int .i64 n0, .slice a0 l0 c0, .int .i64 n1, .slice a1 l1 c1, .int .i64 n2, .slice a2 l2 c2, .int .i64 n3, .slice a3 l3 c3])) : (Instr.loadAt 26 (.pointer (some ⟨r, 2, none⟩))).run Tryz.prog w = .ok (.agg #[.int .i64 n1, .slice a1 l1 c1]) w := by
  obtain ⟨k0, k1, k2, k3, k4, k5, k6, k7, _⟩ := h.cell
  go_simp
theorem field_X1 {w : World} {r : Nat} : (Instr.fieldAt 68 (.pointer (some ⟨r, 0, none⟩)) 1).run Tryz.prog w = .ok (.pointer (some ⟨r, 2, none⟩)) w := by go_simp
theorem load_X2 {w : World} {r : Nat} {n0 : Int} {a0 : Option Addr} {l0 c0 : Nat} {n1 : Int} {a1 : Option Addr} {l1 c1 : Nat} {n2 : Int} {a2 : Option Addr} {l2 c2 : Nat} {n3 : Int} {a3 : Option Addr} {l3 c3 : Nat} (h : XB w r (.agg #[.int .i64 n0, .slice a0 l0 c0, .int .i64 n1, .slice a1 l1 c1, .int .i64 n2, .slice a2 l2 c2, .int .i64 n3, .slice a3 l3 c3])) : (Instr.loadAt 26 (.pointer (some ⟨r, 4, none⟩))).run Tryz.prog w = .ok (.agg #[.int .i64 n2, .slice a2 l2 c2]) w := by
  obtain ⟨k0, k1, k2, k3, k4, k5, k6, k7, _⟩ := h.cell
  go_simp
theorem field_X2 {w : World} {r : Nat} : (Instr.fieldAt 68 (.pointer (some ⟨r, 0, none⟩)) 2).run Tryz.prog w = .ok (.pointer (some ⟨r, 4, none⟩)) w := by go_simp
theorem load_X3 {w : World} {r : Nat} {n0 : Int} {a0 : Option Addr} {l0 c0 : Nat} {n1 : Int} {a1 : Option Addr} {l1 c1 : Nat} {n2 : Int} {a2 : Option Addr} {l2 c2 : Nat} {n3 : Int} {a3 : Option Addr} {l3 c3 : Nat} (h : XB w r (.agg #[.int .i64 n0, .slice a0 l0 c0, .int .i64 n1, .slice a1 l1 c1, .int .i64 n2, .slice a2 l2 c2, .int .i64 n3, .slice a3 l3 c3])) : (Instr.loadAt 26 (.pointer (some ⟨r, 6, none⟩))).run Tryz.prog w = .ok (.agg #[.int .i64 n3, .slice a3 l3 c3]) w := by
  obtain ⟨k0, k1, k2, k3, k4, k5, k6, k7, _⟩ := h.cell
  go_simp
theorem field_X3 {w : World} {r : Nat} : (Instr.fieldAt 68 (.pointer (some ⟨r, 0, none⟩)) 3).run Tryz.prog w = .ok (.pointer (some ⟨r, 6, none⟩)) w := by go_simp
theorem store_X {w : World} {r : Nat} {u : Value} {m0 : Int} {d0 : Option Addr} {f0 g0 : Nat} {m1 : Int} {d1 : Option Addr} {f1 g1 : Nat} {m2 : Int} {d2 : Option Addr} {f2 g2 : Nat} {m3 : Int} {d3 : Option Addr} {f3 g3 : Nat} (h : XB w r u) : (Instr.storeAt 68 (.pointer (some ⟨r, 0, none⟩)) (.agg #[.int .i64 m0, .slice d0 f0 g0, .int .i64 m1, .slice d1 f1 g1, .int .i64 m2, .slice d2 f2 g2, .int .i64 m3, .slice d3 f3 g3])).run Tryz.prog w = .ok () ((((((((w.setCell ⟨r, 0, none⟩ (.int .i64 m0)).setCell ⟨r, 1, none⟩ (.slice d0 f0 g0)).setCell ⟨r, 2, none⟩ (.int .i64 m1)).setCell ⟨r, 3, none⟩ (.slice d1 f1 g1)).setCell ⟨r, 4, none⟩ (.int .i64 m2)).setCell ⟨r, 5, none⟩ (.slice d2 f2 g2)).setCell ⟨r, 6, none⟩ (.int .i64 m3)).setCell ⟨r, 7, none⟩ (.slice d3 f3 g3)) := by
  obtain ⟨n0, a0, l0, c0, n1, a1, l1, c1, n2, a2, l2, c2, n3, a3, l3, c3, rfl⟩ := h.form
  obtain ⟨k0, k1, k2, k3, k4, k5, k6, k7, fz⟩ := h.cell
  have z0 := fz 0; have z1 := fz 1; have z2 := fz 2; have z3 := fz 3; have z4 := fz 4; have z5 := fz 5; have z6 := fz 6; have z7 := fz 7;
  go_simp
theorem XB.set {w : World} {r : Nat} {u : Value} {m0 : Int} {d0 : Option Addr} {f0 g0 : Nat} {m1 : Int} {d1 : Option Addr} {f1 g1 : Nat} {m2 : Int} {d2 : Option Addr} {f2 g2 : Nat} {m3 : Int} {d3 : Option Addr} {f3 g3 : Nat} (h : XB w r u) : XB ((((((((w.setCell ⟨r, 0, none⟩ (.int .i64 m0)).setCell ⟨r, 1, none⟩ (.slice d0 f0 g0)).setCell ⟨r, 2, none⟩ (.int .i64 m1)).setCell ⟨r, 3, none⟩ (.slice d1 f1 g1)).setCell ⟨r, 4, none⟩ (.int .i64 m2)).setCell ⟨r, 5, none⟩ (.slice d2 f2 g2)).setCell ⟨r, 6, none⟩ (.int .i64 m3)).setCell ⟨r, 7, none⟩ (.slice d3 f3 g3)) r (.agg #[.int .i64 m0, .slice d0 f0 g0, .int .i64 m1, .slice d1 f1 g1, .int .i64 m2, .slice d2 f2 g2, .int .i64 m3, .slice d3 f3 g3]) := by
  obtain ⟨_, _, _, _, _, _, _, _, _, _, _, _, _, _, _, _, _, h⟩ := h
  have hl := heap_lt h
  refine ⟨m0, d0, f0, g0, m1, d1, f1, g1, m2, d2, f2, g2, m3, d3, f3, g3, rfl, ?_⟩
  simp [World.setCell, h, Array.getElem?_modify]
theorem put_X {w : World} {r : Nat} {m0 : Int} {d0 : Option Addr} {f0 g0 : Nat} {m1 : Int} {d1 : Option Addr} {f1 g1 : Nat} {m2 : Int} {d2 : Option Addr} {f2 g2 : Nat} {m3 : Int} {d3 : Option Addr} {f3 g3 : Nat} : PutAt r w ((((((((w.setCell ⟨r, 0, none⟩ (.int .i64 m0)).setCell ⟨r, 1, none⟩ (.slice d0 f0 g0)).setCell ⟨r, 2, none⟩ (.int .i64 m1)).setCell ⟨r, 3, none⟩ (.slice d1 f1 g1)).setCell ⟨r, 4, none⟩ (.int .i64 m2)).setCell ⟨r, 5, none⟩ (.slice d2 f2 g2)).setCell ⟨r, 6, none⟩ (.int .i64 m3)).setCell ⟨r, 7, none⟩ (.slice d3 f3 g3)) := ((((((((PutAt.set _ ⟨r, 0, none⟩ _).trans (PutAt.set _ ⟨r, 1, none⟩ _)).trans (PutAt.set _ ⟨r, 2, none⟩ _)).trans (PutAt.set _ ⟨r, 3, none⟩ _)).trans (PutAt.set _ ⟨r, 4, none⟩ _)).trans (PutAt.set _ ⟨r, 5, none⟩ _)).trans (PutAt.set _ ⟨r, 6, none⟩ _)).trans (PutAt.set _ ⟨r, 7, none⟩ _))
theorem box_runX {w : World} {n0 : Int} {a0 : Option Addr} {l0 c0 : Nat} {n1 : Int} {a1 : Option Addr} {l1 c1 : Nat} {n2 : Int} {a2 : Option Addr} {l2 c2 : Nat} {n3 : Int} {a3 : Option Addr} {l3 c3 : Nat} : (Instr.box 68 (.agg #[.int .i64 n0, .slice a0 l0 c0, .int .i64 n1, .slice a1 l1 c1, .int .i64 n2, .slice a2 l2 c2, .int .i64 n3, .slice a3 l3 c3])).run Tryz.prog w = .ok (.pointer (some ⟨w.heap.size, 0, none⟩)) (w.alloc (.cells #[.int .i64 n0, .slice a0 l0 c0, .int .i64 n1, .slice a1 l1 c1, .int .i64 n2, .slice a2 l2 c2, .int .i64 n3, .slice a3 l3 c3] 68)) := by go_simp
theorem put_N {w : World} {r : Nat} {m0 : Bool} {d0 : Option Addr} {f0 g0 : Nat} : PutAt r w ((w.setCell ⟨r, 0, none⟩ (.bool m0)).setCell ⟨r, 1, none⟩ (.slice d0 f0 g0)) := ((PutAt.set _ ⟨r, 0, none⟩ _).trans (PutAt.set _ ⟨r, 1, none⟩ _))
theorem box_runN {w : World} {n0 : Bool} {a0 : Option Addr} {l0 c0 : Nat} : (Instr.box 31 (.agg #[.bool n0, .slice a0 l0 c0])).run Tryz.prog w = .ok (.pointer (some ⟨w.heap.size, 0, none⟩)) (w.alloc (.cells #[.bool n0, .slice a0 l0 c0] 31)) := by go_simp
theorem QB.cell {w : World} {r : Nat} {n0 : Bool} {a0 : Option Addr} {l0 c0 : Nat} {n1 : Bool} {a1 : Option Addr} {l1 c1 : Nat} (h : QB w r (.agg #[.bool n0, .slice a0 l0 c0, .bool n1, .slice a1 l1 c1])) : w.cell? ⟨r, 0, none⟩ = some (.bool n0) ∧ w.cell? ⟨r, 1, none⟩ = some (.slice a0 l0 c0) ∧ w.cell? ⟨r, 2, none⟩ = some (.bool n1) ∧ w.cell? ⟨r, 3, none⟩ = some (.slice a1 l1 c1) ∧ ∀ o, w.frozen? ⟨r, o, none⟩ = false := by
  obtain ⟨_, _, _, _, _, _, _, _, e, h⟩ := h
  simp only [Value.agg.injEq, Array.mk.injEq, List.cons.injEq, Value.bool.injEq, Value.slice.injEq, and_true, and_assoc] at e
  obtain ⟨rfl, rfl, rfl, rfl, rfl, rfl, rfl, rfl⟩ := e
  refine ⟨?_, ?_, ?_, ?_, fun o => ?_⟩
  all_goals simp [World.cell?, World.frozen?, h]
theorem QB.form {w : World} {r : Nat} {v : Value} (h : QB w r v) : ∃ n0 a0 l0 c0 n1 a1 l1 c1, v = (.agg #[.bool n0, .slice a0 l0 c0, .bool n1, .slice a1 l1 c1]) := by
  obtain ⟨n0, a0, l0, c0, n1, a1, l1, c1, e, _⟩ := h
  exact ⟨n0, a0, l0, c0, n1, a1, l1, c1, e⟩
theorem QB.new (w : World) (n0 n1 : Bool) (a0 : Option Addr) (l0 c0 : Nat) (a1 : Option Addr) (l1 c1 : Nat) : QB (w.alloc (.cells #[.bool n0, .slice a0 l0 c0, .bool n1, .slice a1 l1 c1] 33)) w.heap.size (.agg #[.bool n0, .slice a0 l0 c0, .bool n1, .slice a1 l1 c1]) := ⟨n0, a0, l0, c0, n1, a1, l1, c1, rfl, heap_alloc_new w _⟩
theorem load_Q {w : World} {r : Nat} {v : Value} (h : QB w r v) : (Instr.loadAt 33 (.pointer (some ⟨r, 0, none⟩))).run Tryz.prog w = .ok v w := by
  obtain ⟨n0, a0, l0, c0, n1, a1, l1, c1, rfl⟩ := h.form
  obtain ⟨k0, k1, k2, k3, _⟩ := h.cell
  go_simp
theorem load_Q0 {w : World} {r : Nat} {n0 : Bool} {a0 : Option Addr} {l0 c0 : Nat} {n1 : Bool} {a1 : Option Addr} {l1 c1 : Nat} (h : QB w r (.agg #[.bool n0, .slice a0 l0 c0, .bool n1, .slice a1 l1 c1])) : (Instr.loadAt 31 (.pointer (some ⟨r, 0, none⟩))).run Tryz.prog w = .ok (.agg #[.bool n0, .slice a0 l0 c0]) w := by
  obtain ⟨k0, k1, k2, k3, _⟩ := h.cell
  go_simp
theorem field_Q0 {w : World} {r : Nat} : (Instr.fieldAt 33 (.pointer (some ⟨r, 0, none⟩)) 0).run Tryz.prog w = .ok (.pointer (some ⟨r, 0, none⟩)) w := by go_simp
theorem load_Q1 {w : World} {r : Nat} {n0 : Bool} {a0 : Option Addr} {l0 c0 : Nat} {n1 : Bool} {a1 : Option Addr} {l1 c1 : Nat} (h : QB w r (.agg #[.bool n0, .slice a0 l0 c0, .bool n1, .slice a1 l1 c1])) : (Instr.loadAt 31 (.pointer (some ⟨r, 2, none⟩))).run Tryz.prog w = .ok (.agg #[.bool n1, .slice a1 l1 c1]) w := by
  obtain ⟨k0, k1, k2, k3, _⟩ := h.cell
  go_simp
theorem field_Q1 {w : World} {r : Nat} : (Instr.fieldAt 33 (.pointer (some ⟨r, 0, none⟩)) 1).run Tryz.prog w = .ok (.pointer (some ⟨r, 2, none⟩)) w := by go_simp
theorem store_Q {w : World} {r : Nat} {u : Value} {m0 : Bool} {d0 : Option Addr} {f0 g0 : Nat} {m1 : Bool} {d1 : Option Addr} {f1 g1 : Nat} (h : QB w r u) : (Instr.storeAt 33 (.pointer (some ⟨r, 0, none⟩)) (.agg #[.bool m0, .slice d0 f0 g0, .bool m1, .slice d1 f1 g1])).run Tryz.prog w = .ok () ((((w.setCell ⟨r, 0, none⟩ (.bool m0)).setCell ⟨r, 1, none⟩ (.slice d0 f0 g0)).setCell ⟨r, 2, none⟩ (.bool m1)).setCell ⟨r, 3, none⟩ (.slice d1 f1 g1)) := by
  obtain ⟨n0, a0, l0, c0, n1, a1, l1, c1, rfl⟩ := h.form
  obtain ⟨k0, k1, k2, k3, fz⟩ := h.cell
  have z0 := fz 0; have z1 := fz 1; have z2 := fz 2; have z3 := fz 3;
  go_simp
theorem QB.set {w : World} {r : Nat} {u : Value} {m0 : Bool} {d0 : Option Addr} {f0 g0 : Nat} {m1 : Bool} {d1 : Option Addr} {f1 g1 : Nat} (h : QB w r u) : QB ((((w.setCell ⟨r, 0, none⟩ (.bool m0)).setCell ⟨r, 1, none⟩ (.slice d0 f0 g0)).setCell ⟨r, 2, none⟩ (.bool m1)).setCell ⟨r, 3, none⟩ (.slice d1 f1 g1)) r (.agg #[.bool m0, .slice d0 f0 g0, .bool m1, .slice d1 f1 g1]) := by
  obtain ⟨_, _, _, _, _, _, _, _, _, h⟩ := h
  have hl := heap_lt h
  refine ⟨m0, d0, f0, g0, m1, d1, f1, g1, rfl, ?_⟩
  simp [World.setCell, h, Array.getElem?_modify]
theorem put_Q {w : World} {r : Nat} {m0 : Bool} {d0 : Option Addr} {f0 g0 : Nat} {m1 : Bool} {d1 : Option Addr} {f1 g1 : Nat} : PutAt r w ((((w.setCell ⟨r, 0, none⟩ (.bool m0)).setCell ⟨r, 1, none⟩ (.slice d0 f0 g0)).setCell ⟨r, 2, none⟩ (.bool m1)).setCell ⟨r, 3, none⟩ (.slice d1 f1 g1)) := ((((PutAt.set _ ⟨r, 0, none⟩ _).trans (PutAt.set _ ⟨r, 1, none⟩ _)).trans (PutAt.set _ ⟨r, 2, none⟩ _)).trans (PutAt.set _ ⟨r, 3, none⟩ _))
theorem box_runQ {w : World} {n0 : Bool} {a0 : Option Addr} {l0 c0 : Nat} {n1 : Bool} {a1 : Option Addr} {l1 c1 : Nat} : (Instr.box 33 (.agg #[.bool n0, .slice a0 l0 c0, .bool n1, .slice a1 l1 c1])).run Tryz.prog w = .ok (.pointer (some ⟨w.heap.size, 0, none⟩)) (w.alloc (.cells #[.bool n0, .slice a0 l0 c0, .bool n1, .slice a1 l1 c1] 33)) := by go_simp

end Go.Proofs.YtlcfldkmojpkpaaGreatDoor

/- Steps of straight code over boxes, for the generator sx.py. -/
namespace Go.Proofs.YtlcfldkmojpkpaaGreatDoor
open Go Go.RowKit

theorem BoxT.I {w : World} {r : Nat} (h : BoxT 26 w r) : ∃ u, Bx w r u := by
  rcases h with ⟨_, h⟩ | ⟨e, _⟩ | ⟨e, _⟩ | ⟨e, _⟩ | ⟨e, _⟩
  · exact h
  all_goals exact absurd e (by decide)
theorem BoxT.R {w : World} {r : Nat} (h : BoxT 28 w r) : ∃ u, RB w r u := by
  rcases h with ⟨e, _⟩ | ⟨_, h⟩ | ⟨e, _⟩ | ⟨e, _⟩ | ⟨e, _⟩
  · exact absurd e (by decide)
  · exact h
  all_goals exact absurd e (by decide)
theorem BoxT.X {w : World} {r : Nat} (h : BoxT 68 w r) : ∃ u, XB w r u := by
  rcases h with ⟨e, _⟩ | ⟨e, _⟩ | ⟨_, h⟩ | ⟨e, _⟩ | ⟨e, _⟩
  · exact absurd e (by decide)
  · exact absurd e (by decide)
  · exact h
  all_goals exact absurd e (by decide)
theorem BoxT.N {w : World} {r : Nat} (h : BoxT 31 w r) : ∃ u, NB w r u := by
  rcases h with ⟨e, _⟩ | ⟨e, _⟩ | ⟨e, _⟩ | ⟨_, h⟩ | ⟨e, _⟩
  · exact absurd e (by decide)
  · exact absurd e (by decide)
  · exact absurd e (by decide)
  · exact h
  · exact absurd e (by decide)
theorem BoxT.Q {w : World} {r : Nat} (h : BoxT 33 w r) : ∃ u, QB w r u := by
  rcases h with ⟨e, _⟩ | ⟨e, _⟩ | ⟨e, _⟩ | ⟨e, _⟩ | ⟨_, h⟩
  · exact absurd e (by decide)
  · exact absurd e (by decide)
  · exact absurd e (by decide)
  · exact absurd e (by decide)
  · exact h
theorem Bx.bt {w : World} {r : Nat} {v : Value} (h : Bx w r v) : BoxT 26 w r := .inl ⟨rfl, v, h⟩
theorem RB.bt {w : World} {r : Nat} {v : Value} (h : RB w r v) : BoxT 28 w r := .inr (.inl ⟨rfl, v, h⟩)
theorem XB.bt {w : World} {r : Nat} {v : Value} (h : XB w r v) : BoxT 68 w r := .inr (.inr (.inl ⟨rfl, v, h⟩))
theorem NB.bt {w : World} {r : Nat} {v : Value} (h : NB w r v) : BoxT 31 w r := .inr (.inr (.inr (.inl ⟨rfl, v, h⟩)))
theorem QB.bt {w : World} {r : Nat} {v : Value} (h : QB w r v) : BoxT 33 w r := .inr (.inr (.inr (.inr ⟨rfl, v, h⟩)))
theorem NB.zr {w : World} {r : Nat} {v : Value} (h : NB w r v) : Zr w r := by
  intro o n hx
  obtain ⟨b, a, l, c, _, h⟩ := h
  simp only [World.cell?, h, Option.isSome_none, Bool.false_eq_true, if_false] at hx
  match o, hx with
  | 0, hx => simp at hx
  | 1, hx => simp at hx
  | k + 2, hx => simp at hx
theorem QB.zr {w : World} {r : Nat} {v : Value} (h : QB w r v) : Zr w r := by
  intro o n hx
  obtain ⟨_, _, _, _, _, _, _, _, _, h⟩ := h
  simp only [World.cell?, h, Option.isSome_none, Bool.false_eq_true, if_false] at hx
  match o, hx with
  | 0, hx => simp at hx
  | 1, hx => simp at hx
  | 2, hx => simp at hx
  | 3, hx => simp at hx
  | k + 4, hx => simp at hx
theorem IsR.form {w : World} {v : Value} {p b : Int} (h : IsR w v p b) : ∃ n a l c n' a' l' c', v = .agg #[.int .i64 n, .slice a l c, .int .i64 n', .slice a' l' c'] := by
  obtain ⟨n, a, l, c, n', a', l', c', e, _⟩ := h
  exact ⟨n, a, l, c, n', a', l', c', e⟩
theorem IsQ.form {w : World} {v : Value} {p b : Int} (h : IsQ w v p b) : ∃ n a l c n' a' l' c', v = .agg #[.bool n, .slice a l c, .bool n', .slice a' l' c'] := by
  obtain ⟨n, a, l, c, n', a', l', c', e, _⟩ := h
  exact ⟨n, a, l, c, n', a', l', c', e⟩
theorem IsX.form {w : World} {v : Value} {z0 z1 z2 z3 : Int} (h : IsX w v z0 z1 z2 z3) : ∃ n0 a0 l0 c0 n1 a1 l1 c1 n2 a2 l2 c2 n3 a3 l3 c3, v = .agg #[.int .i64 n0, .slice a0 l0 c0, .int .i64 n1, .slice a1 l1 c1, .int .i64 n2, .slice a2 l2 c2, .int .i64 n3, .slice a3 l3 c3] := by
  obtain ⟨n0, a0, l0, c0, n1, a1, l1, c1, n2, a2, l2, c2, n3, a3, l3, c3, e, _⟩ := h
  exact ⟨n0, a0, l0, c0, n1, a1, l1, c1, n2, a2, l2, c2, n3, a3, l3, c3, e⟩

/-- A method's value: its function and its receiver. -/
def IsF (w : World) (v : Value) (f : FuncId) (z : Int) : Prop := ∃ x, v = .func (.func f) #[x] #[] ∧ IsI w x z
def Xfun (T : Nat → Prop) (Z : World → Nat → Prop) (f : FuncId) (z : Int) : Sx (kd T Z) := ⟨fun w v => IsF w v f z, fun _ _ _ ⟨x, e, h⟩ hb => ⟨x, e, h.below hb⟩, fun _ _ _ _ _ ⟨x, e, h⟩ k _ p _ => ⟨x, e, IsI.putAt h k.2 p⟩⟩
theorem then_ret {K : Act → World → Prop} {Q : Exit → Act → World → Prop} {a : Act} {w : World} (h : Q .ret a w) : Exit.then K Q .ret a w := h
theorem inBlock_ret {i : Nat} {Q : Exit → Act → World → Prop} {a : Act} {w : World} (h : Q .ret a w) : Exit.inBlock i Q .ret a w := h
theorem act0_size {xs : Array Value} {n m : Nat} (hm : n = m) (h : xs.size ≤ m) : (xs ++ Array.replicate (n - xs.size) undef).size = m := by subst hm; simp; omega
theorem act0_get {xs : Array Value} {n k : Nat} {v : Value} (h : xs[k]? = some v) : (xs ++ Array.replicate (n - xs.size) undef)[k]? = some v := by
  have hk : k < xs.size := (Array.getElem?_eq_some_iff.1 h).1
  rw [Array.getElem?_append_left hk]
  exact h
theorem getD_of {a : Act} {k : Nat} {v : Value} (h : a.tmps[k]? = some v) : a.tmps.getD k undef = v := by simp [Array.getD_eq_getD_getElem?, h]
theorem eval_of {a : Act} {k : Nat} {v : Value} (h : a.tmps[k]? = some v) : a.eval (.tmp k) = v := by simp [Act.eval, h]
theorem ptr_inj {r s : Nat} (e9 : (Value.pointer (some ⟨r, 0, none⟩) : Value) = .pointer (some ⟨s, 0, none⟩)) : r = s := by
  injection e9 with e9
  injection e9 with e9
  injection e9 with e9
theorem ptr_ne {a : Act} {k j r s : Nat} (h : a.tmps[k]? = some (.pointer (some ⟨r, 0, none⟩))) (h' : a.tmps[j]? = some (.pointer (some ⟨s, 0, none⟩))) (hne : r ≠ s) : a.tmps.getD k undef ≠ a.tmps.getD j undef := by
  rw [getD_of h, getD_of h']
  exact fun e => hne (ptr_inj e)
theorem ne_ptr {a : Act} {k j r s : Nat} (hne : a.tmps.getD k undef ≠ a.tmps.getD j undef) (h : a.tmps[k]? = some (.pointer (some ⟨r, 0, none⟩))) (h' : a.tmps[j]? = some (.pointer (some ⟨s, 0, none⟩))) : r ≠ s := by
  rw [getD_of h, getD_of h'] at hne
  exact fun e => hne (by rw [e])
theorem isI_zero (w : World) : IsI w (.agg #[.int .i64 0, .slice none 0 0]) 0 := .inl ⟨rfl, by decide, by decide⟩
theorem isN_zero (w : World) : IsN w (.agg #[.bool false, .slice none 0 0]) 0 := ⟨none, 0, 0, [], rfl, ⟨none, 0, rfl, Nat.le_refl _, fun h => absurd rfl h⟩, T4.Dig.nil, T4.Norm.nil, rfl⟩
theorem isR_zero (w : World) : IsR w (.agg #[.int .i64 0, .slice none 0 0, .int .i64 0, .slice none 0 0]) 0 0 := ⟨_, _, _, _, _, _, _, _, rfl, isI_zero w, isI_zero w⟩
theorem isQ_zero (w : World) : IsQ w (.agg #[.bool false, .slice none 0 0, .bool false, .slice none 0 0]) 0 0 := ⟨_, _, _, _, _, _, _, _, rfl, isN_zero w, isN_zero w⟩
theorem isX_zero (w : World) : IsX w (.agg #[.int .i64 0, .slice none 0 0, .int .i64 0, .slice none 0 0, .int .i64 0, .slice none 0 0, .int .i64 0, .slice none 0 0]) 0 0 0 0 := ⟨_, _, _, _, _, _, _, _, _, _, _, _, _, _, _, _, rfl, isI_zero w, isI_zero w, isI_zero w, isI_zero w⟩
theorem box_I {w : World} {v : Value} {z : Int} (h : IsI w v z) : ∃ w', (Instr.box 26 v).run Tryz.prog w = .ok (.pointer (some ⟨w.heap.size, 0, none⟩)) w' ∧ Below w.heap.size w w' ∧ Bx w' w.heap.size v := by
  obtain ⟨n, a, l, c, rfl⟩ := h.form
  exact ⟨_, box_runI, (Below.refl _ w).alloc (Nat.le_refl _) _, Bx.new w n a l c⟩
theorem box_N {w : World} {v : Value} {z : Int} (h : IsN w v z) : ∃ w', (Instr.box 31 v).run Tryz.prog w = .ok (.pointer (some ⟨w.heap.size, 0, none⟩)) w' ∧ Below w.heap.size w w' ∧ NB w' w.heap.size v := by
  obtain ⟨n, a, l, c, rfl⟩ := h.form
  exact ⟨_, box_runN, (Below.refl _ w).alloc (Nat.le_refl _) _, NB.new w n a l c⟩
theorem box_R {w : World} {v : Value} {p b : Int} (h : IsR w v p b) : ∃ w', (Instr.box 28 v).run Tryz.prog w = .ok (.pointer (some ⟨w.heap.size, 0, none⟩)) w' ∧ Below w.heap.size w w' ∧ RB w' w.heap.size v := by
  obtain ⟨_, _, _, _, _, _, _, _, rfl⟩ := h.form
  exact ⟨_, box_runR, (Below.refl _ w).alloc (Nat.le_refl _) _, RB.new w _ _ _ _ _ _ _ _⟩
theorem box_Q {w : World} {v : Value} {p b : Int} (h : IsQ w v p b) : ∃ w', (Instr.box 33 v).run Tryz.prog w = .ok (.pointer (some ⟨w.heap.size, 0, none⟩)) w' ∧ Below w.heap.size w w' ∧ QB w' w.heap.size v := by
  obtain ⟨_, _, _, _, _, _, _, _, rfl⟩ := h.form
  exact ⟨_, box_runQ, (Below.refl _ w).alloc (Nat.le_refl _) _, QB.new w _ _ _ _ _ _ _ _⟩
theorem box_X {w : World} {v : Value} {z0 z1 z2 z3 : Int} (h : IsX w v z0 z1 z2 z3) : ∃ w', (Instr.box 68 v).run Tryz.prog w = .ok (.pointer (some ⟨w.heap.size, 0, none⟩)) w' ∧ Below w.heap.size w w' ∧ XB w' w.heap.size v := by
  obtain ⟨_, _, _, _, _, _, _, _, _, _, _, _, _, _, _, _, rfl⟩ := h.form
  exact ⟨_, box_runX, (Below.refl _ w).alloc (Nat.le_refl _) _, XB.new w _ _ _ _ _ _ _ _ _ _ _ _ _ _ _ _⟩
/-- What is said of a value that stands in a slot that is kept. -/
def Sx.at {κ : Kinds} (S : Sx κ) (u : Value) : Sx κ := ⟨fun w _ => S.ok w u, fun _ _ _ h hb => S.mono _ _ _ h hb, fun _ _ _ _ _ h k z p k' => S.put _ _ _ _ _ h k z p k'⟩
/-- A new box with this in it; nothing is filled here. -/
def Xown (T : Nat → Prop) (Z : World → Nat → Prop) (hT : ∀ r, T r → False) (H : World → Nat → Value → Prop) (loc : ∀ w w' r v, w'.heap[r]? = w.heap[r]? → H w r v → H w' r v) (lt : ∀ w r v, H w r v → r < w.heap.size) (B : Nat) (u : Value) (S : Sx (kd T Z)) : Sx (kd T Z) :=
  ⟨fun w v => ∃ r, v = .pointer (some ⟨r, 0, none⟩) ∧ B ≤ r ∧ H w r u ∧ S.ok w u, fun _ _ _ ⟨r, h1, h2, h3, h4⟩ hb => ⟨r, h1, h2, loc _ _ _ _ (hb.block r (lt _ _ _ h3)) h3, S.mono _ _ _ h4 hb⟩,
   fun _ _ _ _ _ _ k _ _ _ => (hT _ k.1).elim⟩

section
variable {Q : Exit → Act → World → Prop} {a : Act} {w : World} {ty : TypeId} {pos : String} {af : Array Edge} {gd : Option (Nat × Bool)} {dst : Option Tmp} {K : Act → World → Prop}
theorem sto_I {t s r : Nat} {u v : Value} {z : Int} (ht : a.tmps.getD t undef = .pointer (some ⟨r, 0, none⟩)) (hs : a.tmps.getD s undef = v) (hb : Bx w r u) (hi : IsI w v z) :
    Oper.wp Tryz.prog ⟨none, .store 26 (.tmp t) (.tmp s), ty, pos, af, gd⟩ a w (fun a' w' => a' = a ∧ PutAt r w w' ∧ Bx w' r v) Q := by
  obtain ⟨b1, a1, l1, c1, rfl⟩ := hi.form
  obtain ⟨_, _, _, _, rfl, _⟩ := id hb
  obtain ⟨k0, k1, f0, f1⟩ := hb.facts
  exact op_store (a := a) ht hs (by go_simp) ⟨rfl, put_I, hb.set b1 a1 l1 c1⟩
theorem sto_N {t s r : Nat} {u v : Value} {z : Int} (ht : a.tmps.getD t undef = .pointer (some ⟨r, 0, none⟩)) (hs : a.tmps.getD s undef = v) (hb : NB w r u) (hi : IsN w v z) :
    Oper.wp Tryz.prog ⟨none, .store 31 (.tmp t) (.tmp s), ty, pos, af, gd⟩ a w (fun a' w' => a' = a ∧ PutAt r w w' ∧ NB w' r v) Q := by
  obtain ⟨b1, a1, l1, c1, rfl⟩ := hi.form
  obtain ⟨_, _, k0, k1, f0, f1⟩ := NB.facts0 hb
  exact op_store (a := a) ht hs (storeN k0 k1 f0 f1) ⟨rfl, put_N, hb.set b1 a1 l1 c1⟩
theorem sto_R {t s r : Nat} {u v : Value} {p b : Int} (ht : a.tmps.getD t undef = .pointer (some ⟨r, 0, none⟩)) (hs : a.tmps.getD s undef = v) (hb : RB w r u) (hi : IsR w v p b) :
    Oper.wp Tryz.prog ⟨none, .store 28 (.tmp t) (.tmp s), ty, pos, af, gd⟩ a w (fun a' w' => a' = a ∧ PutAt r w w' ∧ RB w' r v) Q := by
  obtain ⟨_, _, _, _, _, _, _, _, rfl⟩ := hi.form
  exact op_store (a := a) ht hs (store_R hb) ⟨rfl, put_R, hb.set⟩
theorem sto_Q {t s r : Nat} {u v : Value} {p b : Int} (ht : a.tmps.getD t undef = .pointer (some ⟨r, 0, none⟩)) (hs : a.tmps.getD s undef = v) (hb : QB w r u) (hi : IsQ w v p b) :
    Oper.wp Tryz.prog ⟨none, .store 33 (.tmp t) (.tmp s), ty, pos, af, gd⟩ a w (fun a' w' => a' = a ∧ PutAt r w w' ∧ QB w' r v) Q := by
  obtain ⟨_, _, _, _, _, _, _, _, rfl⟩ := hi.form
  exact op_store (a := a) ht hs (store_Q hb) ⟨rfl, put_Q, hb.set⟩
theorem sto_X {t s r : Nat} {u v : Value} {z0 z1 z2 z3 : Int} (ht : a.tmps.getD t undef = .pointer (some ⟨r, 0, none⟩)) (hs : a.tmps.getD s undef = v) (hb : XB w r u) (hi : IsX w v z0 z1 z2 z3) :
    Oper.wp Tryz.prog ⟨none, .store 68 (.tmp t) (.tmp s), ty, pos, af, gd⟩ a w (fun a' w' => a' = a ∧ PutAt r w w' ∧ XB w' r v) Q := by
  obtain ⟨_, _, _, _, _, _, _, _, _, _, _, _, _, _, _, _, rfl⟩ := hi.form
  exact op_store (a := a) ht hs (store_X hb) ⟨rfl, put_X, hb.set⟩
/-- A box with this in it. -/
theorem op_box {t : TypeId} {x : Operand} {v u : Value} {w' : World} (hx : a.eval x = u) (hr : (Instr.box t u).run Tryz.prog w = .ok v w') (h : K (a.put dst v) w') : Oper.wp Tryz.prog ⟨dst, .box t x, ty, pos, af, gd⟩ a w K Q := by
  unfold Oper.wp
  simp [execOp, hx, hr, Oper.upon, h]
theorem op_build {t : TypeId} {xs : Array (Nat × Operand)} {v : Value} (hr : (execOp a.eval ⟨dst, .build t xs, ty, pos, af, gd⟩).run Tryz.prog w = .ok (.value v) w) (h : K (a.put dst v) w) : Oper.wp Tryz.prog ⟨dst, .build t xs, ty, pos, af, gd⟩ a w K Q := by
  unfold Oper.wp
  rw [hr]
  exact h
theorem op_extractA {s i : Nat} {p q v : Value} (hs : a.tmps.getD s undef = .tuple #[p, q]) (hi : (#[p, q] : Array Value)[i]? = some v) (h : K (a.put dst v) w) : Oper.wp Tryz.prog ⟨dst, .extract (.tmp s) i, ty, pos, af, gd⟩ a w K Q := by
  have hs' : a.eval (.tmp s) = .tuple #[p, q] := hs
  unfold Oper.wp
  simp only [execOp, hs']
  simp [go_sem, hi, Oper.upon]
  exact h
set_option maxRecDepth 100000 in
theorem bld_R0 {s : Nat} {p : Int} (hs : IsI w (a.tmps.getD s undef) p) (h : ∀ v, IsR w v p 0 → K (a.put dst v) w) : Oper.wp Tryz.prog ⟨dst, .build 28 #[(0, .tmp s)], ty, pos, af, gd⟩ a w K Q := by
  obtain ⟨n, aa, l, c, e⟩ := hs.form
  have he : a.eval (.tmp s) = .agg #[.int .i64 n, .slice aa l c] := e
  unfold Oper.wp
  simp only [execOp, he, List.map_toArray, List.map_cons, List.map_nil]
  go_simp
  exact h _ ⟨n, aa, l, c, _, _, _, _, rfl, by rw [← e]; exact hs, isI_zero w⟩
set_option maxRecDepth 100000 in
theorem bld_R {s t : Nat} {p b : Int} (hs : IsI w (a.tmps.getD s undef) p) (ht : IsI w (a.tmps.getD t undef) b) (h : ∀ v, IsR w v p b → K (a.put dst v) w) : Oper.wp Tryz.prog ⟨dst, .build 28 #[(0, .tmp s), (1, .tmp t)], ty, pos, af, gd⟩ a w K Q := by
  obtain ⟨n, aa, l, c, e⟩ := hs.form
  obtain ⟨n', aa', l', c', e'⟩ := ht.form
  have he : a.eval (.tmp s) = .agg #[.int .i64 n, .slice aa l c] := e
  have he' : a.eval (.tmp t) = .agg #[.int .i64 n', .slice aa' l' c'] := e'
  unfold Oper.wp
  simp only [execOp, he, he', List.map_toArray, List.map_cons, List.map_nil]
  go_simp
  exact h _ ⟨n, aa, l, c, n', aa', l', c', rfl, by rw [← e]; exact hs, by rw [← e']; exact ht⟩
set_option maxRecDepth 100000 in
theorem bld_Rz (h : ∀ v, IsR w v 0 0 → K (a.put dst v) w) : Oper.wp Tryz.prog ⟨dst, .build 28 #[], ty, pos, af, gd⟩ a w K Q := by
  unfold Oper.wp
  simp only [execOp]
  go_simp
  exact h _ (isR_zero w)
set_option maxRecDepth 100000 in
theorem bld_X {s0 s1 s2 s3 : Nat} {z0 z1 z2 z3 : Int} (h0 : IsI w (a.tmps.getD s0 undef) z0) (h1 : IsI w (a.tmps.getD s1 undef) z1) (h2 : IsI w (a.tmps.getD s2 undef) z2) (h3 : IsI w (a.tmps.getD s3 undef) z3) (h : ∀ v, IsX w v z0 z1 z2 z3 → K (a.put dst v) w) :
    Oper.wp Tryz.prog ⟨dst, .build 68 #[(0, .tmp s0), (1, .tmp s1), (2, .tmp s2), (3, .tmp s3)], ty, pos, af, gd⟩ a w K Q := by
  obtain ⟨n0, a0, l0, c0, e0⟩ := h0.form
  obtain ⟨n1, a1, l1, c1, e1⟩ := h1.form
  obtain ⟨n2, a2, l2, c2, e2⟩ := h2.form
  obtain ⟨n3, a3, l3, c3, e3⟩ := h3.form
  have g0 : a.eval (.tmp s0) = .agg #[.int .i64 n0, .slice a0 l0 c0] := e0
  have g1 : a.eval (.tmp s1) = .agg #[.int .i64 n1, .slice a1 l1 c1] := e1
  have g2 : a.eval (.tmp s2) = .agg #[.int .i64 n2, .slice a2 l2 c2] := e2
  have g3 : a.eval (.tmp s3) = .agg #[.int .i64 n3, .slice a3 l3 c3] := e3
  unfold Oper.wp
  simp only [execOp, g0, g1, g2, g3, List.map_toArray, List.map_cons, List.map_nil]
  go_simp
  rw [e0] at h0
  rw [e1] at h1
  rw [e2] at h2
  rw [e3] at h3
  exact h _ ⟨_, _, _, _, _, _, _, _, _, _, _, _, _, _, _, _, rfl, h0, h1, h2, h3⟩
set_option maxRecDepth 100000 in
theorem bld_Q {s t : Nat} {p b : Int} (hs : IsN w (a.tmps.getD s undef) p) (ht : IsN w (a.tmps.getD t undef) b) (h : ∀ v, IsQ w v p b → K (a.put dst v) w) : Oper.wp Tryz.prog ⟨dst, .build 33 #[(0, .tmp s), (1, .tmp t)], ty, pos, af, gd⟩ a w K Q := by
  obtain ⟨n, aa, l, c, e⟩ := hs.form
  obtain ⟨n', aa', l', c', e'⟩ := ht.form
  have he : a.eval (.tmp s) = .agg #[.bool n, .slice aa l c] := e
  have he' : a.eval (.tmp t) = .agg #[.bool n', .slice aa' l' c'] := e'
  unfold Oper.wp
  simp only [execOp, he, he', List.map_toArray, List.map_cons, List.map_nil]
  go_simp
  exact h _ ⟨n, aa, l, c, n', aa', l', c', rfl, by rw [← e]; exact hs, by rw [← e']; exact ht⟩
set_option maxRecDepth 100000 in
theorem bld_Q1 {t : Nat} {b : Int} (ht : IsN w (a.tmps.getD t undef) b) (h : ∀ v, IsQ w v 0 b → K (a.put dst v) w) : Oper.wp Tryz.prog ⟨dst, .build 33 #[(1, .tmp t)], ty, pos, af, gd⟩ a w K Q := by
  obtain ⟨n', aa', l', c', e'⟩ := ht.form
  have he' : a.eval (.tmp t) = .agg #[.bool n', .slice aa' l' c'] := e'
  unfold Oper.wp
  simp only [execOp, he', List.map_toArray, List.map_cons, List.map_nil]
  go_simp
  exact h _ ⟨_, _, _, _, n', aa', l', c', rfl, isN_zero w, by rw [← e']; exact ht⟩
theorem op_callF {f : FuncId} {s t : Nat} {x : Value} {tys : Array TypeId} (hf : Enters Tryz.prog f) (hs : a.tmps.getD s undef = .func (.func f) #[x] #[]) (hc : Calls Tryz.prog f #[x, a.tmps.getD t undef] w fun e w' => ∃ v, e = .returned v ∧ K (a.put dst v) w') :
    Oper.wp Tryz.prog ⟨dst, .call ⟨.value (.tmp s), #[.tmp t], tys⟩, ty, pos, af, gd⟩ a w K Q := by
  have hs' : a.tmps[s]?.getD undef = .func (.func f) #[x] #[] := by rw [← hs]; simp [Array.getD_eq_getD_getElem?]
  have ht' : a.tmps[t]?.getD undef = a.tmps.getD t undef := by simp [Array.getD_eq_getD_getElem?]
  unfold Oper.wp
  simp [go_sem, hs']
  rw [hf.run]
  refine Calls.mono (by simpa using hc) ?_
  rintro e w' ⟨v, rfl, h⟩
  exact h
theorem op_mkF {f : FuncId} {s : Nat} (h : K (a.put dst (.func (.func f) #[a.tmps.getD s undef] #[])) w) : Oper.wp Tryz.prog ⟨dst, .makeFunc (.func f) #[.tmp s] #[], ty, pos, af, gd⟩ a w K Q := by
  have hs' : a.eval (.tmp s) = a.tmps.getD s undef := rfl
  unfold Oper.wp
  simp only [execOp, hs', List.map_toArray, List.map_cons, List.map_nil]
  go_simp
  rw [show a.tmps.getD s undef = a.tmps[s]?.getD undef by simp [Array.getD_eq_getD_getElem?]] at h
  exact h
theorem op_binS {s : Nat} {y : Operand} {m n : ByteArray} (p : a.tmps.getD s undef = .string m) (q : a.eval y = .string n) (hl : m.size + n.size ≤ 100000) (h : K (a.put dst (.string (m ++ n))) w) : Oper.wp Tryz.prog ⟨dst, .binOp .add 9 (.tmp s) y 9, ty, pos, af, gd⟩ a w K Q := by
  have he : a.eval (.tmp s) = .string m := p
  unfold Oper.wp
  simp only [execOp, he, q]
  go_simp
  rw [if_neg (by omega)]
  exact h
end

theorem res_I {W : World} {fn : Func} {a : Act} {t r : Nat} {v : Value} (hf : fn.results = #[.cell t 26]) (ht : a.tmps[t]? = some (.pointer (some ⟨r, 0, none⟩))) (hb : Bx W r v) : (results fn a.tmps).run Tryz.prog W = .ok v W := by
  obtain ⟨b, aa, l, c, rfl, _⟩ := id hb
  obtain ⟨k0, k1, f0, f1⟩ := hb.facts
  simp [results, hf, ht, go_sem, k0, k1]
theorem res_R {W : World} {fn : Func} {a : Act} {t r : Nat} {v : Value} (hf : fn.results = #[.cell t 28]) (ht : a.tmps[t]? = some (.pointer (some ⟨r, 0, none⟩))) (hb : RB W r v) : (results fn a.tmps).run Tryz.prog W = .ok v W := by
  obtain ⟨_, _, _, _, _, _, _, _, rfl⟩ := hb.form
  obtain ⟨k0, k1, k2, k3, _⟩ := hb.cell
  simp [results, hf, ht, go_sem, k0, k1, k2, k3]
theorem res_X {W : World} {fn : Func} {a : Act} {t r : Nat} {v : Value} (hf : fn.results = #[.cell t 68]) (ht : a.tmps[t]? = some (.pointer (some ⟨r, 0, none⟩))) (hb : XB W r v) : (results fn a.tmps).run Tryz.prog W = .ok v W := by
  obtain ⟨_, _, _, _, _, _, _, _, _, _, _, _, _, _, _, _, rfl⟩ := hb.form
  obtain ⟨k0, k1, k2, k3, k4, k5, k6, k7, _⟩ := hb.cell
  simp [results, hf, ht, go_sem, k0, k1, k2, k3, k4, k5, k6, k7]
theorem res_Q {W : World} {fn : Func} {a : Act} {t r : Nat} {v : Value} (hf : fn.results = #[.cell t 33]) (ht : a.tmps[t]? = some (.pointer (some ⟨r, 0, none⟩))) (hb : QB W r v) : (results fn a.tmps).run Tryz.prog W = .ok v W := by
  obtain ⟨_, _, _, _, _, _, _, _, rfl⟩ := hb.form
  obtain ⟨k0, k1, k2, k3, _⟩ := hb.cell
  simp [results, hf, ht, go_sem, k0, k1, k2, k3]
theorem res_Rb {W : World} {fn : Func} {a : Act} {t r s : Nat} {v u : Value} (hf : fn.results = #[.cell t 28, .tmp s]) (ht : a.tmps[t]? = some (.pointer (some ⟨r, 0, none⟩))) (hs : a.tmps[s]? = some u) (hb : RB W r v) : (results fn a.tmps).run Tryz.prog W = .ok (.tuple #[v, u]) W := by
  obtain ⟨_, _, _, _, _, _, _, _, rfl⟩ := hb.form
  obtain ⟨k0, k1, k2, k3, _⟩ := hb.cell
  simp [results, hf, ht, hs, go_sem, k0, k1, k2, k3]
theorem res_Qb {W : World} {fn : Func} {a : Act} {t r s : Nat} {v u : Value} (hf : fn.results = #[.cell t 33, .tmp s]) (ht : a.tmps[t]? = some (.pointer (some ⟨r, 0, none⟩))) (hs : a.tmps[s]? = some u) (hb : QB W r v) : (results fn a.tmps).run Tryz.prog W = .ok (.tuple #[v, u]) W := by
  obtain ⟨_, _, _, _, _, _, _, _, rfl⟩ := hb.form
  obtain ⟨k0, k1, k2, k3, _⟩ := hb.cell
  simp [results, hf, ht, hs, go_sem, k0, k1, k2, k3]
theorem res_t {W : World} {fn : Func} {a : Act} {s : Nat} {u : Value} (hf : fn.results = #[.tmp s]) (hs : a.tmps[s]? = some u) : (results fn a.tmps).run Tryz.prog W = .ok u W := by
  simp [results, hf, hs, go_sem]

end Go.Proofs.YtlcfldkmojpkpaaGreatDoor

namespace Go.Proofs.YtlcfldkmojpkpaaGreatDoor
open Go Go.RowKit

def zaI : Value := .agg #[.int .i64 0, .slice none 0 0]
def zaR : Value := .agg #[.int .i64 0, .slice none 0 0, .int .i64 0, .slice none 0 0]
def zaX : Value := .agg #[.int .i64 0, .slice none 0 0, .int .i64 0, .slice none 0 0, .int .i64 0, .slice none 0 0, .int .i64 0, .slice none 0 0]
def zaN : Value := .agg #[.bool false, .slice none 0 0]
def zaQ : Value := .agg #[.bool false, .slice none 0 0, .bool false, .slice none 0 0]
theorem Zr.loc' (w w' : World) (r : Nat) (e : w'.heap[r]? = w.heap[r]?) (h : Zr w r) : Zr w' r := by
  intro o n hx
  exact h o n (by rw [← hx]; exact (World.cell?_of_block (w := w) e).symm)
/-- A store into a box that is made in the region; into one that is there already. -/
def stN {κ : Kinds} (op pt : Nat) (H : World → Nat → Value → Prop) (loc : ∀ w w' r v, w'.heap[r]? = w.heap[r]? → H w r v → H w' r v) (lt : ∀ w r v, H w r v → r < w.heap.size) (S : Sx κ) : St κ :=
  { op := op, pt := pt, H := H, S := S, loc := loc, lt := lt, F := Zr, floc := Zr.loc' }
def stX {κ : Kinds} (op pt : Nat) (H : World → Nat → Value → Prop) (loc : ∀ w w' r v, w'.heap[r]? = w.heap[r]? → H w r v → H w' r v) (lt : ∀ w r v, H w r v → r < w.heap.size) (S : Sx κ) (r : Nat) (v : Value) (S0 : Sx κ) : St κ :=
  { op := op, pt := pt, H := H, S := S, loc := loc, lt := lt, ob := r, O := fun w => H w r v ∧ S0.ok w v, om := fun _ _ h k => ⟨loc _ _ _ _ (k.block _ (lt _ _ _ h.1)) h.1, S0.mono _ _ _ h.2 k⟩,
    oput := fun _ _ _ _ h k z p k' hne => ⟨loc _ _ _ _ (p.block _ (Ne.symm hne)) h.1, S0.put _ _ _ _ _ h.2 k z p k'⟩ }
theorem fac {α : Type} {P : α → Prop} {x : α} {l : List α} (h : P x) (k : ∀ s ∈ l, P s) : ∀ s ∈ x :: l, P s := fun s hs => by
  rcases List.mem_cons.1 hs with rfl | hs
  · exact h
  · exact k s hs
theorem nq {n m : Nat} (h : Nat.beq n m = false) : n ≠ m := Nat.ne_of_beq_eq_false h
theorem fan {α : Type} {P : α → Prop} : ∀ s ∈ ([] : List α), P s := fun _ h => absurd h List.not_mem_nil
theorem st_dup {κ : Kinds} {sts : List (St κ)} (h : (sts.map (·.op)).Nodup) : ∀ s ∈ sts, ∀ s' ∈ sts, s.op = s'.op → s = s' := by
  induction sts with
  | nil => exact fan
  | cons x l ih =>
    rw [List.map_cons, List.nodup_cons] at h
    intro s hs s' hs' e
    rcases List.mem_cons.1 hs with e1 | m1
    · rcases List.mem_cons.1 hs' with e2 | m2
      · rw [e1, e2]
      · exact absurd (by rw [← e1, e]; exact List.mem_map_of_mem m2) h.1
    · rcases List.mem_cons.1 hs' with e2 | m2
      · exact absurd (by rw [← e2, ← e]; exact List.mem_map_of_mem m1) h.1
      · exact ih h.2 s m1 s' m2 e
/-- At most one box that was there is filled. -/
theorem dis_one {a0 : Act} {ptrs : List (Nat × Option Nat)} (h : (ptrs.all fun x => ptrs.all fun y => x.2.isSome || y.2.isSome || x.1 == y.1) = true) :
    ∀ x ∈ ptrs, ∀ y ∈ ptrs, x.2 = none → y.2 = none → x.1 ≠ y.1 → a0.tmps.getD x.1 undef ≠ a0.tmps.getD y.1 undef := by
  intro x hx y hy h1 h2 hne
  have := List.all_eq_true.1 (List.all_eq_true.1 h x hx) y hy
  simp [h1, h2, hne] at this
/-- Two are. -/
theorem dis_two {a0 : Act} {ptrs : List (Nat × Option Nat)} {p q r s : Nat} (hp : a0.tmps[p]? = some (.pointer (some ⟨r, 0, none⟩))) (hq : a0.tmps[q]? = some (.pointer (some ⟨s, 0, none⟩))) (hne : r ≠ s)
    (h : (ptrs.all fun x => x.2.isSome || x.1 == p || x.1 == q) = true) :
    ∀ x ∈ ptrs, ∀ y ∈ ptrs, x.2 = none → y.2 = none → x.1 ≠ y.1 → a0.tmps.getD x.1 undef ≠ a0.tmps.getD y.1 undef := by
  intro x hx y hy h1 h2 hd
  have a1 := List.all_eq_true.1 h x hx
  have a2 := List.all_eq_true.1 h y hy
  simp only [h1, h2, Option.isSome_none, Bool.false_or, Bool.or_eq_true, beq_iff_eq] at a1 a2
  rcases a1 with e1 | e1 <;> rcases a2 with e2 | e2
  · exact absurd (e1.trans e2.symm) hd
  · rw [e1, e2]; exact ptr_ne hp hq hne
  · rw [e1, e2]; exact (ptr_ne hp hq hne).symm
  · exact absurd (e1.trans e2.symm) hd
theorem nbx {T : Nat → Prop} {Z : World → Nat → Prop} {sp : List (Sx (kd T Z))} {p j B : Nat} {t : TypeId} (h : sp.getD j (Sx.any _) = Sx.box (kd T Z) B t) : ∀ i, ((p, some j) : Nat × Option Nat).2 = some i → ∀ w v, (sp.getD i (Sx.any _)).ok w v → ∃ r, v = .pointer (some ⟨r, 0, none⟩) ∧ r < w.heap.size := by
  intro i hi w v hv
  cases hi
  rw [h] at hv
  obtain ⟨r, h1, _, h3⟩ := hv
  exact ⟨r, h1, (kd T Z).lt _ _ _ h3⟩
theorem XB.zr0 {w : World} {r : Nat} (h : XB w r (.agg #[.int .i64 0, .slice none 0 0, .int .i64 0, .slice none 0 0, .int .i64 0, .slice none 0 0, .int .i64 0, .slice none 0 0]))
    : Zr w r := by
  intro o n hx
  obtain ⟨_, _, _, _, _, _, _, _, _, _, _, _, _, _, _, _, e, h⟩ := h
  simp only [Value.agg.injEq, Array.mk.injEq, List.cons.injEq, Value.int.injEq, Value.slice.injEq, true_and, and_true, and_assoc] at e
  obtain ⟨rfl, rfl, rfl, rfl, rfl, rfl, rfl, rfl, rfl, rfl, rfl, rfl, rfl, rfl, rfl, rfl⟩ := e
  simp only [World.cell?, h, Option.isSome_none, Bool.false_eq_true, if_false] at hx
  match o, hx with
  | 0, hx => simp at hx; exact hx.symm
  | 1, hx => simp at hx
  | 2, hx => simp at hx; exact hx.symm
  | 3, hx => simp at hx
  | 4, hx => simp at hx; exact hx.symm
  | 5, hx => simp at hx
  | 6, hx => simp at hx; exact hx.symm
  | 7, hx => simp at hx
  | k + 8, hx => simp at hx
theorem Bx.zr0 {w : World} {r : Nat} (h : Bx w r (.agg #[.int .i64 0, .slice none 0 0])) : Zr w r := by
  intro o n hx
  obtain ⟨_, _, _, _, e, h⟩ := h
  simp only [Value.agg.injEq, Array.mk.injEq, List.cons.injEq, Value.int.injEq, Value.slice.injEq, true_and, and_true] at e
  obtain ⟨rfl, rfl, rfl, rfl⟩ := e
  simp only [World.cell?, h, Option.isSome_none, Bool.false_eq_true, if_false] at hx
  match o, hx with
  | 0, hx => simp at hx; exact hx.symm
  | 1, hx => simp at hx
  | k + 2, hx => simp at hx
theorem RB.zr0 {w : World} {r : Nat} (h : RB w r (.agg #[.int .i64 0, .slice none 0 0, .int .i64 0, .slice none 0 0])) : Zr w r := by
  intro o n hx
  obtain ⟨_, _, _, _, _, _, _, _, e, h⟩ := h
  simp only [Value.agg.injEq, Array.mk.injEq, List.cons.injEq, Value.int.injEq, Value.slice.injEq, true_and, and_true, and_assoc] at e
  obtain ⟨rfl, rfl, rfl, rfl, rfl, rfl, rfl, rfl⟩ := e
  simp only [World.cell?, h, Option.isSome_none, Bool.false_eq_true, if_false] at hx
  match o, hx with
  | 0, hx => simp at hx; exact hx.symm
  | 1, hx => simp at hx
  | 2, hx => simp at hx; exact hx.symm
  | 3, hx => simp at hx
  | k + 4, hx => simp at hx
theorem NB.zr0 {w : World} {r : Nat} {v : Value} (h : NB w r v) : Zr w r := h.zr
theorem QB.zr0 {w : World} {r : Nat} {v : Value} (h : QB w r v) : Zr w r := h.zr

def XoI (Z : World → Nat → Prop) (B : Nat) (u : Value) (S : Sx (kd (fun _ => False) Z)) : Sx (kd (fun _ => False) Z) := Xown (fun _ => False) Z (fun _ h => h) Bx Bx.loc' Bx.lt' B u S
def XhI {T : Nat → Prop} {Z : World → Nat → Prop} (r : Nat) (hr : ¬ T r) (v : Value) (S : Sx (kd T Z)) : Sx (kd T Z) := Xheld T Z Bx Bx.loc' Bx.lt' r hr v S
def stNI {κ : Kinds} (op pt : Nat) (S : Sx κ) : St κ := stN op pt Bx Bx.loc' Bx.lt' S
def stXI {κ : Kinds} (op pt : Nat) (S : Sx κ) (r : Nat) (v : Value) (S0 : Sx κ) : St κ := stX op pt Bx Bx.loc' Bx.lt' S r v S0
theorem npI {Z : World → Nat → Prop} {sp : List (Sx (kd (fun _ => False) Z))} {p j B : Nat} {u : Value} {S : Sx (kd (fun _ => False) Z)} (h : sp.getD j (Sx.any _) = XoI Z B u S) : ((p, some j) : Nat × Option Nat).2.isSome = true ∧ ∀ i, ((p, some j) : Nat × Option Nat).2 = some i → ∀ w v, (sp.getD i (Sx.any _)).ok w v → ∃ r, v = .pointer (some ⟨r, 0, none⟩) ∧ r < w.heap.size := by
  refine ⟨rfl, fun i hi w v hv => ?_⟩
  cases hi
  rw [h] at hv
  obtain ⟨r, h1, _, h3, _⟩ := hv
  exact ⟨r, h1, h3.lt⟩
theorem toI {Z : World → Nat → Prop} {B B0 : Nat} {u : Value} {S : Sx (kd (fun _ => False) Z)} {a : Act} {w : World} {k : Nat} (h : (XoI Z B0 u S).ok w (a.tmps.getD k undef)) (hB : B ≤ B0) (hk : k < a.tmps.size) : ∃ r, a.tmps[k]? = some (.pointer (some ⟨r, 0, none⟩)) ∧ (B ≤ r ∧ B0 ≤ r) ∧ Bx w r u ∧ S.ok w u := by
  obtain ⟨r, h1, h2, h3, h4⟩ := h
  exact ⟨r, tmp_get hk h1, ⟨Nat.le_trans hB h2, h2⟩, h3, h4⟩
theorem tnI {κ : Kinds} {S : Sx κ} {a : Act} {w : World} {k B B0 : Nat} {t : TypeId} (h : ∃ r v, a.tmps.getD k undef = .pointer (some ⟨r, 0, none⟩) ∧ Bx w r v ∧ S.ok w v) (hx : (Sx.box κ B0 t).ok w (a.tmps.getD k undef)) (hB : B ≤ B0) (hk : k < a.tmps.size) : ∃ r v, a.tmps[k]? = some (.pointer (some ⟨r, 0, none⟩)) ∧ (B ≤ r ∧ B0 ≤ r) ∧ Bx w r v ∧ S.ok w v := by
  obtain ⟨r, v, h1, h2, h3⟩ := h
  obtain ⟨r', h4, h5, _⟩ := hx
  obtain rfl := ptr_inj (h1.symm.trans h4)
  exact ⟨r, v, tmp_get hk h1, ⟨Nat.le_trans hB h5, h5⟩, h2, h3⟩
theorem txI {κ : Kinds} {S : Sx κ} {a : Act} {w : World} {k r : Nat} (h : ∃ r v, a.tmps.getD k undef = .pointer (some ⟨r, 0, none⟩) ∧ Bx w r v ∧ S.ok w v) (hk : a.tmps[k]? = some (.pointer (some ⟨r, 0, none⟩))) : ∃ v, Bx w r v ∧ S.ok w v := by
  obtain ⟨r', v, h1, h2, h3⟩ := h
  obtain rfl := ptr_inj (h1.symm.trans (getD_of hk))
  exact ⟨v, h2, h3⟩
def XoR (Z : World → Nat → Prop) (B : Nat) (u : Value) (S : Sx (kd (fun _ => False) Z)) : Sx (kd (fun _ => False) Z) := Xown (fun _ => False) Z (fun _ h => h) RB RB.loc' RB.lt' B u S
def XhR {T : Nat → Prop} {Z : World → Nat → Prop} (r : Nat) (hr : ¬ T r) (v : Value) (S : Sx (kd T Z)) : Sx (kd T Z) := Xheld T Z RB RB.loc' RB.lt' r hr v S
def stNR {κ : Kinds} (op pt : Nat) (S : Sx κ) : St κ := stN op pt RB RB.loc' RB.lt' S
def stXR {κ : Kinds} (op pt : Nat) (S : Sx κ) (r : Nat) (v : Value) (S0 : Sx κ) : St κ := stX op pt RB RB.loc' RB.lt' S r v S0
theorem npR {Z : World → Nat → Prop} {sp : List (Sx (kd (fun _ => False) Z))} {p j B : Nat} {u : Value} {S : Sx (kd (fun _ => False) Z)} (h : sp.getD j (Sx.any _) = XoR Z B u S) : ((p, some j) : Nat × Option Nat).2.isSome = true ∧ ∀ i, ((p, some j) : Nat × Option Nat).2 = some i → ∀ w v, (sp.getD i (Sx.any _)).ok w v → ∃ r, v = .pointer (some ⟨r, 0, none⟩) ∧ r < w.heap.size := by
  refine ⟨rfl, fun i hi w v hv => ?_⟩
  cases hi
  rw [h] at hv
  obtain ⟨r, h1, _, h3, _⟩ := hv
  exact ⟨r, h1, h3.lt⟩
theorem toR {Z : World → Nat → Prop} {B B0 : Nat} {u : Value} {S : Sx (kd (fun _ => False) Z)} {a : Act} {w : World} {k : Nat} (h : (XoR Z B0 u S).ok w (a.tmps.getD k undef)) (hB : B ≤ B0) (hk : k < a.tmps.size) : ∃ r, a.tmps[k]? = some (.pointer (some ⟨r, 0, none⟩)) ∧ (B ≤ r ∧ B0 ≤ r) ∧ RB w r u ∧ S.ok w u := by
  obtain ⟨r, h1, h2, h3, h4⟩ := h
  exact ⟨r, tmp_get hk h1, ⟨Nat.le_trans hB h2, h2⟩, h3, h4⟩
theorem tnR {κ : Kinds} {S : Sx κ} {a : Act} {w : World} {k B B0 : Nat} {t : TypeId} (h : ∃ r v, a.tmps.getD k undef = .pointer (some ⟨r, 0, none⟩) ∧ RB w r v ∧ S.ok w v) (hx : (Sx.box κ B0 t).ok w (a.tmps.getD k undef)) (hB : B ≤ B0) (hk : k < a.tmps.size) : ∃ r v, a.tmps[k]? = some (.pointer (some ⟨r, 0, none⟩)) ∧ (B ≤ r ∧ B0 ≤ r) ∧ RB w r v ∧ S.ok w v := by
  obtain ⟨r, v, h1, h2, h3⟩ := h
  obtain ⟨r', h4, h5, _⟩ := hx
  obtain rfl := ptr_inj (h1.symm.trans h4)
  exact ⟨r, v, tmp_get hk h1, ⟨Nat.le_trans hB h5, h5⟩, h2, h3⟩
theorem txR {κ : Kinds} {S : Sx κ} {a : Act} {w : World} {k r : Nat} (h : ∃ r v, a.tmps.getD k undef = .pointer (some ⟨r, 0, none⟩) ∧ RB w r v ∧ S.ok w v) (hk : a.tmps[k]? = some (.pointer (some ⟨r, 0, none⟩))) : ∃ v, RB w r v ∧ S.ok w v := by
  obtain ⟨r', v, h1, h2, h3⟩ := h
  obtain rfl := ptr_inj (h1.symm.trans (getD_of hk))
  exact ⟨v, h2, h3⟩
def XoX (Z : World → Nat → Prop) (B : Nat) (u : Value) (S : Sx (kd (fun _ => False) Z)) : Sx (kd (fun _ => False) Z) := Xown (fun _ => False) Z (fun _ h => h) XB XB.loc' XB.lt' B u S
def XhX {T : Nat → Prop} {Z : World → Nat → Prop} (r : Nat) (hr : ¬ T r) (v : Value) (S : Sx (kd T Z)) : Sx (kd T Z) := Xheld T Z XB XB.loc' XB.lt' r hr v S
def stNX {κ : Kinds} (op pt : Nat) (S : Sx κ) : St κ := stN op pt XB XB.loc' XB.lt' S
def stXX {κ : Kinds} (op pt : Nat) (S : Sx κ) (r : Nat) (v : Value) (S0 : Sx κ) : St κ := stX op pt XB XB.loc' XB.lt' S r v S0
theorem npX {Z : World → Nat → Prop} {sp : List (Sx (kd (fun _ => False) Z))} {p j B : Nat} {u : Value} {S : Sx (kd (fun _ => False) Z)} (h : sp.getD j (Sx.any _) = XoX Z B u S) : ((p, some j) : Nat × Option Nat).2.isSome = true ∧ ∀ i, ((p, some j) : Nat × Option Nat).2 = some i → ∀ w v, (sp.getD i (Sx.any _)).ok w v → ∃ r, v = .pointer (some ⟨r, 0, none⟩) ∧ r < w.heap.size := by
  refine ⟨rfl, fun i hi w v hv => ?_⟩
  cases hi
  rw [h] at hv
  obtain ⟨r, h1, _, h3, _⟩ := hv
  exact ⟨r, h1, h3.lt⟩
theorem toX {Z : World → Nat → Prop} {B B0 : Nat} {u : Value} {S : Sx (kd (fun _ => False) Z)} {a : Act} {w : World} {k : Nat} (h : (XoX Z B0 u S).ok w (a.tmps.getD k undef)) (hB : B ≤ B0) (hk : k < a.tmps.size) : ∃ r, a.tmps[k]? = some (.pointer (some ⟨r, 0, none⟩)) ∧ (B ≤ r ∧ B0 ≤ r) ∧ XB w r u ∧ S.ok w u := by
  obtain ⟨r, h1, h2, h3, h4⟩ := h
  exact ⟨r, tmp_get hk h1, ⟨Nat.le_trans hB h2, h2⟩, h3, h4⟩
theorem tnX {κ : Kinds} {S : Sx κ} {a : Act} {w : World} {k B B0 : Nat} {t : TypeId} (h : ∃ r v, a.tmps.getD k undef = .pointer (some ⟨r, 0, none⟩) ∧ XB w r v ∧ S.ok w v) (hx : (Sx.box κ B0 t).ok w (a.tmps.getD k undef)) (hB : B ≤ B0) (hk : k < a.tmps.size) : ∃ r v, a.tmps[k]? = some (.pointer (some ⟨r, 0, none⟩)) ∧ (B ≤ r ∧ B0 ≤ r) ∧ XB w r v ∧ S.ok w v := by
  obtain ⟨r, v, h1, h2, h3⟩ := h
  obtain ⟨r', h4, h5, _⟩ := hx
  obtain rfl := ptr_inj (h1.symm.trans h4)
  exact ⟨r, v, tmp_get hk h1, ⟨Nat.le_trans hB h5, h5⟩, h2, h3⟩
theorem txX {κ : Kinds} {S : Sx κ} {a : Act} {w : World} {k r : Nat} (h : ∃ r v, a.tmps.getD k undef = .pointer (some ⟨r, 0, none⟩) ∧ XB w r v ∧ S.ok w v) (hk : a.tmps[k]? = some (.pointer (some ⟨r, 0, none⟩))) : ∃ v, XB w r v ∧ S.ok w v := by
  obtain ⟨r', v, h1, h2, h3⟩ := h
  obtain rfl := ptr_inj (h1.symm.trans (getD_of hk))
  exact ⟨v, h2, h3⟩
def XoN (Z : World → Nat → Prop) (B : Nat) (u : Value) (S : Sx (kd (fun _ => False) Z)) : Sx (kd (fun _ => False) Z) := Xown (fun _ => False) Z (fun _ h => h) NB NB.loc' NB.lt' B u S
def XhN {T : Nat → Prop} {Z : World → Nat → Prop} (r : Nat) (hr : ¬ T r) (v : Value) (S : Sx (kd T Z)) : Sx (kd T Z) := Xheld T Z NB NB.loc' NB.lt' r hr v S
def stNN {κ : Kinds} (op pt : Nat) (S : Sx κ) : St κ := stN op pt NB NB.loc' NB.lt' S
def stXN {κ : Kinds} (op pt : Nat) (S : Sx κ) (r : Nat) (v : Value) (S0 : Sx κ) : St κ := stX op pt NB NB.loc' NB.lt' S r v S0
theorem npN {Z : World → Nat → Prop} {sp : List (Sx (kd (fun _ => False) Z))} {p j B : Nat} {u : Value} {S : Sx (kd (fun _ => False) Z)} (h : sp.getD j (Sx.any _) = XoN Z B u S) : ((p, some j) : Nat × Option Nat).2.isSome = true ∧ ∀ i, ((p, some j) : Nat × Option Nat).2 = some i → ∀ w v, (sp.getD i (Sx.any _)).ok w v → ∃ r, v = .pointer (some ⟨r, 0, none⟩) ∧ r < w.heap.size := by
  refine ⟨rfl, fun i hi w v hv => ?_⟩
  cases hi
  rw [h] at hv
  obtain ⟨r, h1, _, h3, _⟩ := hv
  exact ⟨r, h1, h3.lt⟩
theorem toN {Z : World → Nat → Prop} {B B0 : Nat} {u : Value} {S : Sx (kd (fun _ => False) Z)} {a : Act} {w : World} {k : Nat} (h : (XoN Z B0 u S).ok w (a.tmps.getD k undef)) (hB : B ≤ B0) (hk : k < a.tmps.size) : ∃ r, a.tmps[k]? = some (.pointer (some ⟨r, 0, none⟩)) ∧ (B ≤ r ∧ B0 ≤ r) ∧ NB w r u ∧ S.ok w u := by
  obtain ⟨r, h1, h2, h3, h4⟩ := h
  exact ⟨r, tmp_get hk h1, ⟨Nat.le_trans hB h2, h2⟩, h3, h4⟩
theorem tnN {κ : Kinds} {S : Sx κ} {a : Act} {w : World} {k B B0 : Nat} {t : TypeId} (h : ∃ r v, a.tmps.getD k undef = .pointer (some ⟨r, 0, none⟩) ∧ NB w r v ∧ S.ok w v) (hx : (Sx.box κ B0 t).ok w (a.tmps.getD k undef)) (hB : B ≤ B0) (hk : k < a.tmps.size) : ∃ r v, a.tmps[k]? = some (.pointer (some ⟨r, 0, none⟩)) ∧ (B ≤ r ∧ B0 ≤ r) ∧ NB w r v ∧ S.ok w v := by
  obtain ⟨r, v, h1, h2, h3⟩ := h
  obtain ⟨r', h4, h5, _⟩ := hx
  obtain rfl := ptr_inj (h1.symm.trans h4)
  exact ⟨r, v, tmp_get hk h1, ⟨Nat.le_trans hB h5, h5⟩, h2, h3⟩
theorem txN {κ : Kinds} {S : Sx κ} {a : Act} {w : World} {k r : Nat} (h : ∃ r v, a.tmps.getD k undef = .pointer (some ⟨r, 0, none⟩) ∧ NB w r v ∧ S.ok w v) (hk : a.tmps[k]? = some (.pointer (some ⟨r, 0, none⟩))) : ∃ v, NB w r v ∧ S.ok w v := by
  obtain ⟨r', v, h1, h2, h3⟩ := h
  obtain rfl := ptr_inj (h1.symm.trans (getD_of hk))
  exact ⟨v, h2, h3⟩
def XoQ (Z : World → Nat → Prop) (B : Nat) (u : Value) (S : Sx (kd (fun _ => False) Z)) : Sx (kd (fun _ => False) Z) := Xown (fun _ => False) Z (fun _ h => h) QB QB.loc' QB.lt' B u S
def XhQ {T : Nat → Prop} {Z : World → Nat → Prop} (r : Nat) (hr : ¬ T r) (v : Value) (S : Sx (kd T Z)) : Sx (kd T Z) := Xheld T Z QB QB.loc' QB.lt' r hr v S
def stNQ {κ : Kinds} (op pt : Nat) (S : Sx κ) : St κ := stN op pt QB QB.loc' QB.lt' S
def stXQ {κ : Kinds} (op pt : Nat) (S : Sx κ) (r : Nat) (v : Value) (S0 : Sx κ) : St κ := stX op pt QB QB.loc' QB.lt' S r v S0
theorem npQ {Z : World → Nat → Prop} {sp : List (Sx (kd (fun _ => False) Z))} {p j B : Nat} {u : Value} {S : Sx (kd (fun _ => False) Z)} (h : sp.getD j (Sx.any _) = XoQ Z B u S) : ((p, some j) : Nat × Option Nat).2.isSome = true ∧ ∀ i, ((p, some j) : Nat × Option Nat).2 = some i → ∀ w v, (sp.getD i (Sx.any _)).ok w v → ∃ r, v = .pointer (some ⟨r, 0, none⟩) ∧ r < w.heap.size := by
  refine ⟨rfl, fun i hi w v hv => ?_⟩
  cases hi
  rw [h] at hv
  obtain ⟨r, h1, _, h3, _⟩ := hv
  exact ⟨r, h1, h3.lt⟩
theorem toQ {Z : World → Nat → Prop} {B B0 : Nat} {u : Value} {S : Sx (kd (fun _ => False) Z)} {a : Act} {w : World} {k : Nat} (h : (XoQ Z B0 u S).ok w (a.tmps.getD k undef)) (hB : B ≤ B0) (hk : k < a.tmps.size) : ∃ r, a.tmps[k]? = some (.pointer (some ⟨r, 0, none⟩)) ∧ (B ≤ r ∧ B0 ≤ r) ∧ QB w r u ∧ S.ok w u := by
  obtain ⟨r, h1, h2, h3, h4⟩ := h
  exact ⟨r, tmp_get hk h1, ⟨Nat.le_trans hB h2, h2⟩, h3, h4⟩
theorem tnQ {κ : Kinds} {S : Sx κ} {a : Act} {w : World} {k B B0 : Nat} {t : TypeId} (h : ∃ r v, a.tmps.getD k undef = .pointer (some ⟨r, 0, none⟩) ∧ QB w r v ∧ S.ok w v) (hx : (Sx.box κ B0 t).ok w (a.tmps.getD k undef)) (hB : B ≤ B0) (hk : k < a.tmps.size) : ∃ r v, a.tmps[k]? = some (.pointer (some ⟨r, 0, none⟩)) ∧ (B ≤ r ∧ B0 ≤ r) ∧ QB w r v ∧ S.ok w v := by
  obtain ⟨r, v, h1, h2, h3⟩ := h
  obtain ⟨r', h4, h5, _⟩ := hx
  obtain rfl := ptr_inj (h1.symm.trans h4)
  exact ⟨r, v, tmp_get hk h1, ⟨Nat.le_trans hB h5, h5⟩, h2, h3⟩
theorem txQ {κ : Kinds} {S : Sx κ} {a : Act} {w : World} {k r : Nat} (h : ∃ r v, a.tmps.getD k undef = .pointer (some ⟨r, 0, none⟩) ∧ QB w r v ∧ S.ok w v) (hk : a.tmps[k]? = some (.pointer (some ⟨r, 0, none⟩))) : ∃ v, QB w r v ∧ S.ok w v := by
  obtain ⟨r', v, h1, h2, h3⟩ := h
  obtain rfl := ptr_inj (h1.symm.trans (getD_of hk))
  exact ⟨v, h2, h3⟩
theorem zI (w : World) : Zr (w.alloc (.cells #[.int .i64 0, .slice none 0 0] 26)) w.heap.size := Bx.zr0 (Bx.new w 0 none 0 0)
theorem zR (w : World) : Zr (w.alloc (.cells #[.int .i64 0, .slice none 0 0, .int .i64 0, .slice none 0 0] 28)) w.heap.size := RB.zr0 (RB.new w 0 0 none 0 0 none 0 0)
theorem zX (w : World) : Zr (w.alloc (.cells #[.int .i64 0, .slice none 0 0, .int .i64 0, .slice none 0 0, .int .i64 0, .slice none 0 0, .int .i64 0, .slice none 0 0] 68)) w.heap.size := XB.zr0 (XB.new w 0 0 0 0 none 0 0 none 0 0 none 0 0 none 0 0)
theorem zN (w : World) : Zr (w.alloc (.cells #[.bool false, .slice none 0 0] 31)) w.heap.size := NB.zr0 (NB.new w false none 0 0)
theorem zQ (w : World) : Zr (w.alloc (.cells #[.bool false, .slice none 0 0, .bool false, .slice none 0 0] 33)) w.heap.size := QB.zr0 (QB.new w false false none 0 0 none 0 0)

/-- What is said besides of an operation that makes a box. -/
def Fin {κ : Kinds} (ptrs : List (Nat × Option Nat)) (sts : List (St κ)) (i : Nat) (w w' : World) (v : Value) : Prop := (∃ x ∈ ptrs, x.2 = some i) → v = .pointer (some ⟨w.heap.size, 0, none⟩) ∧ ∀ s ∈ sts, s.F w' w.heap.size
theorem fin0 {κ : Kinds} {ptrs : List (Nat × Option Nat)} {sts : List (St κ)} {i : Nat} {w w' : World} {v : Value} (h : (ptrs.all fun x => x.2 != some i) = true) : Fin ptrs sts i w w' v := fun ⟨x, hx, e⟩ => by
  have := List.all_eq_true.1 h x hx
  simp [e] at this
theorem gf {κ : Kinds} {ptrs : List (Nat × Option Nat)} {sts : List (St κ)} {i : Nat} {w : World} (h : (ptrs.all fun x => x.2 != some i) = true) : ∀ w' v, Fin ptrs sts i w w' v := fun _ _ => fin0 h
theorem gt : ∀ (_ : World) (_ : Value), True := fun _ _ => trivial
theorem tv_get {κ : Kinds} {S : Sx κ} {a : Act} {w : World} {k : Nat} (h : S.ok w (a.tmps.getD k undef)) (hk : k < a.tmps.size) : ∃ v, a.tmps[k]? = some v ∧ S.ok w v := ⟨_, tmp_get hk rfl, h⟩

section
variable {κ : Kinds} {Q : Exit → Act → World → Prop} {a : Act} {w : World} {ty : TypeId} {pos : String} {af : Array Edge} {gd : Option (Nat × Bool)} {dst : Option Tmp} {Y : Prop} {ops : Array Oper} {S : Sx κ} {G : World → Value → Prop}
/-- What a step must show. -/
def Arm (Q : Exit → Act → World → Prop) (ops : Array Oper) (o : Oper) (a : Act) (w : World) (S : Sx κ) (G : World → Value → Prop) (Y : Prop) : Prop :=
  if Region.wanted o (yielded ops a.tmps) then o.wp Tryz.prog a w (fun a' w' => ∃ v, a' = a.put o.dst v ∧ Below w.heap.size w w' ∧ S.ok w' v ∧ G w' v) Q else Y
theorem arm {o : Oper} (hw : Region.wanted o (yielded ops a.tmps) = true) (h : o.wp Tryz.prog a w (fun a' w' => ∃ v, a' = a.put o.dst v ∧ Below w.heap.size w w' ∧ S.ok w' v ∧ G w' v) Q) : Arm Q ops o a w S G Y := st_want hw h

set_option maxRecDepth 100000 in
theorem s_move {s : Nat} (p : S.ok w (a.tmps.getD s undef)) (hg : ∀ w' v, G w' v) (hw : Region.wanted ⟨dst, .move (.tmp s), ty, pos, af, gd⟩ (yielded ops a.tmps) = true := by exact wanted_none rfl) :
    Arm Q ops ⟨dst, .move (.tmp s), ty, pos, af, gd⟩ a w S G Y := arm hw (op_move ⟨_, rfl, Below.refl _ _, p, hg _ _⟩)
set_option maxRecDepth 100000 in
theorem s_assign {s : Nat} (p : S.ok w (a.tmps.getD s undef)) (hg : ∀ w' v, G w' v) (hw : Region.wanted ⟨dst, .assign (.tmp s), ty, pos, af, gd⟩ (yielded ops a.tmps) = true := by exact wanted_none rfl) :
    Arm Q ops ⟨dst, .assign (.tmp s), ty, pos, af, gd⟩ a w S G Y := arm hw (op_assign ⟨_, rfl, Below.refl _ _, p, hg _ _⟩)
set_option maxRecDepth 100000 in
theorem s_kmove {s : Nat} {u : Value} (k : a.tmps[s]? = some u) (p : S.ok w u) (hg : ∀ w' v, G w' v) (hw : Region.wanted ⟨dst, .move (.tmp s), ty, pos, af, gd⟩ (yielded ops a.tmps) = true := by exact wanted_none rfl) :
    Arm Q ops ⟨dst, .move (.tmp s), ty, pos, af, gd⟩ a w S G Y := s_move (S := S) (by rw [getD_of k]; exact p) hg hw
set_option maxRecDepth 100000 in
theorem s_cassign {u : Value} (p : S.ok w u) (hg : ∀ w' v, G w' v) (hw : Region.wanted ⟨dst, .assign (.const u), ty, pos, af, gd⟩ (yielded ops a.tmps) = true := by exact wanted_none rfl) :
    Arm Q ops ⟨dst, .assign (.const u), ty, pos, af, gd⟩ a w S G Y := arm hw (op_assign ⟨_, rfl, Below.refl _ _, p, hg _ _⟩)
set_option maxRecDepth 100000 in
theorem s_load {s : Nat} {t : TypeId} {q : Option Addr} {v : Value} (k : a.tmps[s]? = some (.pointer q)) (hr : (Instr.loadAt t (.pointer q)).run Tryz.prog w = .ok v w) (p : S.ok w v) (hg : ∀ w' v, G w' v) (hw : Region.wanted ⟨dst, .load t (.tmp s), ty, pos, af, gd⟩ (yielded ops a.tmps) = true := by exact wanted_none rfl) :
    Arm Q ops ⟨dst, .load t (.tmp s), ty, pos, af, gd⟩ a w S G Y := arm hw (op_load (a := a) (eval_of k) hr ⟨_, rfl, Below.refl _ _, p, hg _ _⟩)
set_option maxRecDepth 100000 in
theorem s_loadP {s : Nat} {t : TypeId} {q : Option Addr} {v : Value} (k : a.tmps.getD s undef = .pointer q) (hr : (Instr.loadAt t (.pointer q)).run Tryz.prog w = .ok v w) (p : S.ok w v) (hg : ∀ w' v, G w' v) (hw : Region.wanted ⟨dst, .load t (.tmp s), ty, pos, af, gd⟩ (yielded ops a.tmps) = true := by exact wanted_none rfl) :
    Arm Q ops ⟨dst, .load t (.tmp s), ty, pos, af, gd⟩ a w S G Y := arm hw (op_load (a := a) k hr ⟨_, rfl, Below.refl _ _, p, hg _ _⟩)
set_option maxRecDepth 100000 in
theorem s_field {s n : Nat} {t : TypeId} {q q2 : Option Addr} (k : a.tmps[s]? = some (.pointer q)) (hr : (Instr.fieldAt t (.pointer q) n).run Tryz.prog w = .ok (.pointer q2) w) (p : S.ok w (.pointer q2)) (hg : ∀ w' v, G w' v) (hw : Region.wanted ⟨dst, .fieldAddr t (.tmp s) n, ty, pos, af, gd⟩ (yielded ops a.tmps) = true := by exact wanted_none rfl) :
    Arm Q ops ⟨dst, .fieldAddr t (.tmp s) n, ty, pos, af, gd⟩ a w S G Y := arm hw (op_fieldAddr (eval_of k) hr ⟨_, rfl, Below.refl _ _, p, hg _ _⟩)
set_option maxRecDepth 100000 in
theorem s_ext0 {s : Nat} {S2 : Sx κ} (p : ∃ x y, a.tmps.getD s undef = .tuple #[x, y] ∧ S.ok w x ∧ S2.ok w y) (hg : ∀ w' v, G w' v) (hw : Region.wanted ⟨dst, .extract (.tmp s) 0, ty, pos, af, gd⟩ (yielded ops a.tmps) = true := by exact wanted_none rfl) :
    Arm Q ops ⟨dst, .extract (.tmp s) 0, ty, pos, af, gd⟩ a w S G Y := by
  obtain ⟨x, y, e, h1, h2⟩ := p
  exact arm hw (op_extractA (a := a) e rfl ⟨_, rfl, Below.refl _ _, h1, hg _ _⟩)
set_option maxRecDepth 100000 in
theorem s_ext1 {s : Nat} {S2 : Sx κ} (p : ∃ x y, a.tmps.getD s undef = .tuple #[x, y] ∧ S2.ok w x ∧ S.ok w y) (hg : ∀ w' v, G w' v) (hw : Region.wanted ⟨dst, .extract (.tmp s) 1, ty, pos, af, gd⟩ (yielded ops a.tmps) = true := by exact wanted_none rfl) :
    Arm Q ops ⟨dst, .extract (.tmp s) 1, ty, pos, af, gd⟩ a w S G Y := by
  obtain ⟨x, y, e, h1, h2⟩ := p
  exact arm hw (op_extractA (a := a) e rfl ⟨_, rfl, Below.refl _ _, h2, hg _ _⟩)
set_option maxRecDepth 100000 in
theorem s_call1 {f : FuncId} {s : Nat} {tys : Array TypeId} (hf : Enters Tryz.prog f) (hc : Calls Tryz.prog f #[a.tmps.getD s undef] w fun e w' => ∃ r, e = .returned r ∧ Below w.heap.size w w' ∧ S.ok w' r) (hg : ∀ w' v, G w' v) (hw : Region.wanted ⟨dst, .call ⟨.value (.func f), #[.tmp s], tys⟩, ty, pos, af, gd⟩ (yielded ops a.tmps) = true := by exact wanted_none rfl) :
    Arm Q ops ⟨dst, .call ⟨.value (.func f), #[.tmp s], tys⟩, ty, pos, af, gd⟩ a w S G Y := by
  refine arm hw (op_call hf ?_)
  rw [args1]
  refine Calls.mono hc ?_
  rintro e w9 ⟨r, rfl, hb9, h9⟩
  exact ⟨_, rfl, _, rfl, hb9, h9, hg _ _⟩
set_option maxRecDepth 100000 in
theorem s_call2 {f : FuncId} {s t : Nat} {tys : Array TypeId} (hf : Enters Tryz.prog f) (hc : Calls Tryz.prog f #[a.tmps.getD s undef, a.tmps.getD t undef] w fun e w' => ∃ r, e = .returned r ∧ Below w.heap.size w w' ∧ S.ok w' r) (hg : ∀ w' v, G w' v) (hw : Region.wanted ⟨dst, .call ⟨.value (.func f), #[.tmp s, .tmp t], tys⟩, ty, pos, af, gd⟩ (yielded ops a.tmps) = true := by exact wanted_none rfl) :
    Arm Q ops ⟨dst, .call ⟨.value (.func f), #[.tmp s, .tmp t], tys⟩, ty, pos, af, gd⟩ a w S G Y := by
  refine arm hw (op_call hf ?_)
  rw [args2]
  refine Calls.mono hc ?_
  rintro e w9 ⟨r, rfl, hb9, h9⟩
  exact ⟨_, rfl, _, rfl, hb9, h9, hg _ _⟩
set_option maxRecDepth 100000 in
theorem s_callC {f : FuncId} {u : Value} {tys : Array TypeId} (hf : Enters Tryz.prog f) (hc : Calls Tryz.prog f #[u] w fun e w' => ∃ r, e = .returned r ∧ Below w.heap.size w w' ∧ S.ok w' r) (hg : ∀ w' v, G w' v) (hw : Region.wanted ⟨dst, .call ⟨.value (.func f), #[.const u], tys⟩, ty, pos, af, gd⟩ (yielded ops a.tmps) = true := by exact wanted_none rfl) :
    Arm Q ops ⟨dst, .call ⟨.value (.func f), #[.const u], tys⟩, ty, pos, af, gd⟩ a w S G Y := by
  refine arm hw (op_call hf ?_)
  rw [show (#[Operand.const u]).map a.eval = #[u] by simp only [List.map_toArray, List.map_cons, List.map_nil, Act.eval]]
  refine Calls.mono hc ?_
  rintro e w9 ⟨r, rfl, hb9, h9⟩
  exact ⟨_, rfl, _, rfl, hb9, h9, hg _ _⟩
set_option maxRecDepth 100000 in
theorem s_call0 {f : FuncId} {tys : Array TypeId} (hf : Enters Tryz.prog f) (hc : Calls Tryz.prog f #[] w fun e w' => ∃ r, e = .returned r ∧ Below w.heap.size w w' ∧ S.ok w' r) (hg : ∀ w' v, G w' v) (hw : Region.wanted ⟨dst, .call ⟨.value (.func f), #[], tys⟩, ty, pos, af, gd⟩ (yielded ops a.tmps) = true := by exact wanted_none rfl) :
    Arm Q ops ⟨dst, .call ⟨.value (.func f), #[], tys⟩, ty, pos, af, gd⟩ a w S G Y := by
  refine arm hw (op_call hf ?_)
  rw [show (#[] : Array Operand).map a.eval = #[] by simp only [List.map_toArray, List.map_nil]]
  refine Calls.mono hc ?_
  rintro e w9 ⟨r, rfl, hb9, h9⟩
  exact ⟨_, rfl, _, rfl, hb9, h9, hg _ _⟩
set_option maxRecDepth 100000 in
theorem s_callF {f : FuncId} {s t : Nat} {z : Int} {tys : Array TypeId} (hf : Enters Tryz.prog f) (p : ∃ x, a.tmps.getD s undef = .func (.func f) #[x] #[] ∧ IsI w x z) (hc : ∀ x, IsI w x z → Calls Tryz.prog f #[x, a.tmps.getD t undef] w fun e w' => ∃ r, e = .returned r ∧ Below w.heap.size w w' ∧ S.ok w' r) (hg : ∀ w' v, G w' v) (hw : Region.wanted ⟨dst, .call ⟨.value (.tmp s), #[.tmp t], tys⟩, ty, pos, af, gd⟩ (yielded ops a.tmps) = true := by exact wanted_none rfl) :
    Arm Q ops ⟨dst, .call ⟨.value (.tmp s), #[.tmp t], tys⟩, ty, pos, af, gd⟩ a w S G Y := by
  obtain ⟨x, e9, p0⟩ := p
  refine arm hw (op_callF (a := a) hf e9 ?_)
  refine Calls.mono (hc x p0) ?_
  rintro e w9 ⟨r, rfl, hb9, h9⟩
  exact ⟨_, rfl, _, rfl, hb9, h9, hg _ _⟩
set_option maxRecDepth 100000 in
theorem s_mkF {f : FuncId} {s : Nat} (p : ∀ x, x = a.tmps.getD s undef → S.ok w (.func (.func f) #[x] #[])) (hg : ∀ w' v, G w' v) (hw : Region.wanted ⟨dst, .makeFunc (.func f) #[.tmp s] #[], ty, pos, af, gd⟩ (yielded ops a.tmps) = true := by exact wanted_none rfl) :
    Arm Q ops ⟨dst, .makeFunc (.func f) #[.tmp s] #[], ty, pos, af, gd⟩ a w S G Y := arm hw (op_mkF (a := a) ⟨_, rfl, Below.refl _ _, p _ rfl, hg _ _⟩)
set_option maxRecDepth 100000 in
theorem s_not {s : Nat} {b : Bool} (p : a.tmps.getD s undef = .bool b) (q : S.ok w (.bool (!b))) (hg : ∀ w' v, G w' v) (hw : Region.wanted ⟨dst, .unOp .not 4 (.tmp s), ty, pos, af, gd⟩ (yielded ops a.tmps) = true := by exact wanted_none rfl) :
    Arm Q ops ⟨dst, .unOp .not 4 (.tmp s), ty, pos, af, gd⟩ a w S G Y := by
  have he : a.eval (.tmp s) = .bool b := p
  refine arm hw ?_
  unfold Oper.wp
  simp only [execOp, he]
  go_simp
  exact ⟨_, rfl, Below.refl _ _, q, hg _ _⟩
set_option maxRecDepth 100000 in
theorem s_neg {s : Nat} {n : Int} (p : a.tmps.getD s undef = .int .i64 n) (hn : -9223372036854775807 ≤ n ∧ n ≤ 9223372036854775807) (q : S.ok w (.int .i64 (-n))) (hg : ∀ w' v, G w' v) (hw : Region.wanted ⟨dst, .unOp .neg 3 (.tmp s), ty, pos, af, gd⟩ (yielded ops a.tmps) = true := by exact wanted_none rfl) :
    Arm Q ops ⟨dst, .unOp .neg 3 (.tmp s), ty, pos, af, gd⟩ a w S G Y := by
  have he : a.eval (.tmp s) = .int .i64 n := p
  have hm : IntKind.i64.wrap (-n) = -n := by simp only [IntKind.wrap_i64]; omega
  refine arm hw ?_
  unfold Oper.wp
  simp only [execOp, he]
  go_simp
  try rw [hm]
  exact ⟨_, rfl, Below.refl _ _, q, hg _ _⟩
set_option maxRecDepth 100000 in
theorem s_eql {s : Nat} {y : Operand} {m n : Int} (p : a.tmps.getD s undef = .int .i64 m) (q : a.eval y = .int .i64 n) (h : S.ok w (.bool (m == n))) (hg : ∀ w' v, G w' v) (hw : Region.wanted ⟨dst, .binOp .eql 3 (.tmp s) y 3, ty, pos, af, gd⟩ (yielded ops a.tmps) = true := by exact wanted_none rfl) :
    Arm Q ops ⟨dst, .binOp .eql 3 (.tmp s) y 3, ty, pos, af, gd⟩ a w S G Y := by
  have he : a.eval (.tmp s) = .int .i64 m := p
  refine arm hw ?_
  unfold Oper.wp
  simp only [execOp, he, q]
  go_simp
  exact ⟨_, rfl, Below.refl _ _, h, hg _ _⟩
set_option maxRecDepth 100000 in
theorem s_neq {s : Nat} {y : Operand} {m n : Int} (p : a.tmps.getD s undef = .int .i64 m) (q : a.eval y = .int .i64 n) (h : S.ok w (.bool (m != n))) (hg : ∀ w' v, G w' v) (hw : Region.wanted ⟨dst, .binOp .neq 3 (.tmp s) y 3, ty, pos, af, gd⟩ (yielded ops a.tmps) = true := by exact wanted_none rfl) :
    Arm Q ops ⟨dst, .binOp .neq 3 (.tmp s) y 3, ty, pos, af, gd⟩ a w S G Y := by
  have he : a.eval (.tmp s) = .int .i64 m := p
  refine arm hw ?_
  unfold Oper.wp
  simp only [execOp, he, q]
  go_simp
  exact ⟨_, rfl, Below.refl _ _, h, hg _ _⟩
set_option maxRecDepth 100000 in
theorem s_lss {s : Nat} {y : Operand} {m n : Int} (p : a.tmps.getD s undef = .int .i64 m) (q : a.eval y = .int .i64 n) (h : S.ok w (.bool (decide (m < n)))) (hg : ∀ w' v, G w' v) (hw : Region.wanted ⟨dst, .binOp .lss 3 (.tmp s) y 3, ty, pos, af, gd⟩ (yielded ops a.tmps) = true := by exact wanted_none rfl) :
    Arm Q ops ⟨dst, .binOp .lss 3 (.tmp s) y 3, ty, pos, af, gd⟩ a w S G Y := by
  have he : a.eval (.tmp s) = .int .i64 m := p
  refine arm hw ?_
  unfold Oper.wp
  simp only [execOp, he, q]
  go_simp
  exact ⟨_, rfl, Below.refl _ _, h, hg _ _⟩
set_option maxRecDepth 100000 in
theorem s_leq {s : Nat} {y : Operand} {m n : Int} (p : a.tmps.getD s undef = .int .i64 m) (q : a.eval y = .int .i64 n) (h : S.ok w (.bool (decide (m ≤ n)))) (hg : ∀ w' v, G w' v) (hw : Region.wanted ⟨dst, .binOp .leq 3 (.tmp s) y 3, ty, pos, af, gd⟩ (yielded ops a.tmps) = true := by exact wanted_none rfl) :
    Arm Q ops ⟨dst, .binOp .leq 3 (.tmp s) y 3, ty, pos, af, gd⟩ a w S G Y := by
  have he : a.eval (.tmp s) = .int .i64 m := p
  refine arm hw ?_
  unfold Oper.wp
  simp only [execOp, he, q]
  go_simp
  exact ⟨_, rfl, Below.refl _ _, h, hg _ _⟩
set_option maxRecDepth 100000 in
theorem s_geq {s : Nat} {y : Operand} {m n : Int} (p : a.tmps.getD s undef = .int .i64 m) (q : a.eval y = .int .i64 n) (h : S.ok w (.bool (decide (n ≤ m)))) (hg : ∀ w' v, G w' v) (hw : Region.wanted ⟨dst, .binOp .geq 3 (.tmp s) y 3, ty, pos, af, gd⟩ (yielded ops a.tmps) = true := by exact wanted_none rfl) :
    Arm Q ops ⟨dst, .binOp .geq 3 (.tmp s) y 3, ty, pos, af, gd⟩ a w S G Y := by
  have he : a.eval (.tmp s) = .int .i64 m := p
  refine arm hw ?_
  unfold Oper.wp
  simp only [execOp, he, q]
  go_simp
  exact ⟨_, rfl, Below.refl _ _, h, hg _ _⟩
set_option maxRecDepth 100000 in
theorem s_eqS {s : Nat} {y : Operand} {m n : ByteArray} (p : a.tmps.getD s undef = .string m) (q : a.eval y = .string n) (h : S.ok w (.bool (m.toList == n.toList))) (hg : ∀ w' v, G w' v) (hw : Region.wanted ⟨dst, .binOp .eql 9 (.tmp s) y 9, ty, pos, af, gd⟩ (yielded ops a.tmps) = true := by exact wanted_none rfl) :
    Arm Q ops ⟨dst, .binOp .eql 9 (.tmp s) y 9, ty, pos, af, gd⟩ a w S G Y := by
  have he : a.eval (.tmp s) = .string m := p
  refine arm hw ?_
  unfold Oper.wp
  simp only [execOp, he, q]
  go_simp
  exact ⟨_, rfl, Below.refl _ _, h, hg _ _⟩
set_option maxRecDepth 100000 in
theorem s_neS {s : Nat} {y : Operand} {m n : ByteArray} (p : a.tmps.getD s undef = .string m) (q : a.eval y = .string n) (h : S.ok w (.bool (!(m.toList == n.toList)))) (hg : ∀ w' v, G w' v) (hw : Region.wanted ⟨dst, .binOp .neq 9 (.tmp s) y 9, ty, pos, af, gd⟩ (yielded ops a.tmps) = true := by exact wanted_none rfl) :
    Arm Q ops ⟨dst, .binOp .neq 9 (.tmp s) y 9, ty, pos, af, gd⟩ a w S G Y := by
  have he : a.eval (.tmp s) = .string m := p
  refine arm hw ?_
  unfold Oper.wp
  simp only [execOp, he, q]
  go_simp
  exact ⟨_, rfl, Below.refl _ _, h, hg _ _⟩
set_option maxRecDepth 100000 in
theorem s_neB {s t : Nat} {m n : Bool} (p : a.tmps.getD s undef = .bool m) (q : a.tmps.getD t undef = .bool n) (h : S.ok w (.bool (m != n))) (hg : ∀ w' v, G w' v) (hw : Region.wanted ⟨dst, .binOp .neq 4 (.tmp s) (.tmp t) 4, ty, pos, af, gd⟩ (yielded ops a.tmps) = true := by exact wanted_none rfl) :
    Arm Q ops ⟨dst, .binOp .neq 4 (.tmp s) (.tmp t) 4, ty, pos, af, gd⟩ a w S G Y := by
  have he : a.eval (.tmp s) = .bool m := p
  have hf : a.eval (.tmp t) = .bool n := q
  refine arm hw ?_
  unfold Oper.wp
  simp only [execOp, he, hf]
  cases m <;> cases n <;> go_simp <;> exact ⟨_, rfl, Below.refl _ _, h, hg _ _⟩
set_option maxRecDepth 100000 in
theorem s_cat {s : Nat} {y : Operand} {m n : ByteArray} (p : a.tmps.getD s undef = .string m) (q : a.eval y = .string n) (hl : m.size + n.size ≤ 100000) (h : S.ok w (.string (m ++ n))) (hg : ∀ w' v, G w' v) (hw : Region.wanted ⟨dst, .binOp .add 9 (.tmp s) y 9, ty, pos, af, gd⟩ (yielded ops a.tmps) = true := by exact wanted_none rfl) :
    Arm Q ops ⟨dst, .binOp .add 9 (.tmp s) y 9, ty, pos, af, gd⟩ a w S G Y := arm hw (op_binS (a := a) p q hl ⟨_, rfl, Below.refl _ _, h, hg _ _⟩)
set_option maxRecDepth 100000 in
theorem s_pickT {c : Nat} {x y : Operand} (p : a.tmps.getD c undef = .bool true) (q : S.ok w (a.eval x)) (hg : ∀ w' v, G w' v) (hw : Region.wanted ⟨dst, .pick (.tmp c) x y, ty, pos, af, gd⟩ (yielded ops a.tmps) = true := by exact wanted_none rfl) :
    Arm Q ops ⟨dst, .pick (.tmp c) x y, ty, pos, af, gd⟩ a w S G Y := arm hw (op_pick (a := a) (c := .tmp c) p ⟨_, rfl, Below.refl _ _, q, hg _ _⟩)
set_option maxRecDepth 100000 in
theorem s_pickF {c : Nat} {x y : Operand} (p : a.tmps.getD c undef = .bool false) (q : S.ok w (a.eval y)) (hg : ∀ w' v, G w' v) (hw : Region.wanted ⟨dst, .pick (.tmp c) x y, ty, pos, af, gd⟩ (yielded ops a.tmps) = true := by exact wanted_none rfl) :
    Arm Q ops ⟨dst, .pick (.tmp c) x y, ty, pos, af, gd⟩ a w S G Y := arm hw (op_pick (a := a) (c := .tmp c) p ⟨_, rfl, Below.refl _ _, q, hg _ _⟩)
set_option maxRecDepth 100000 in
theorem s_bldR0 {s : Nat} {p : Int}  (hs : IsI w (a.tmps.getD s undef) p) (k : ∀ v, IsR w v p 0 → S.ok w v) (hg : ∀ w' v, G w' v) (hw : Region.wanted ⟨dst, .build 28 #[(0, .tmp s)], ty, pos, af, gd⟩ (yielded ops a.tmps) = true := by exact wanted_none rfl) :
    Arm Q ops ⟨dst, .build 28 #[(0, .tmp s)], ty, pos, af, gd⟩ a w S G Y := arm hw (bld_R0 (a := a) hs fun v hv => ⟨_, rfl, Below.refl _ _, k v hv, hg _ _⟩)
set_option maxRecDepth 100000 in
theorem s_bldR {s : Nat} {t : Nat} {p : Int} {b : Int} (hs : IsI w (a.tmps.getD s undef) p) (ht : IsI w (a.tmps.getD t undef) b) (k : ∀ v, IsR w v p b → S.ok w v) (hg : ∀ w' v, G w' v) (hw : Region.wanted ⟨dst, .build 28 #[(0, .tmp s), (1, .tmp t)], ty, pos, af, gd⟩ (yielded ops a.tmps) = true := by exact wanted_none rfl) :
    Arm Q ops ⟨dst, .build 28 #[(0, .tmp s), (1, .tmp t)], ty, pos, af, gd⟩ a w S G Y := arm hw (bld_R (a := a) hs ht fun v hv => ⟨_, rfl, Below.refl _ _, k v hv, hg _ _⟩)
set_option maxRecDepth 100000 in
theorem s_bldRz   (k : ∀ v, IsR w v 0 0 → S.ok w v) (hg : ∀ w' v, G w' v) (hw : Region.wanted ⟨dst, .build 28 #[], ty, pos, af, gd⟩ (yielded ops a.tmps) = true := by exact wanted_none rfl) :
    Arm Q ops ⟨dst, .build 28 #[], ty, pos, af, gd⟩ a w S G Y := arm hw (bld_Rz (a := a)  fun v hv => ⟨_, rfl, Below.refl _ _, k v hv, hg _ _⟩)
set_option maxRecDepth 100000 in
theorem s_bldQ {s : Nat} {t : Nat} {p : Int} {b : Int} (hs : IsN w (a.tmps.getD s undef) p) (ht : IsN w (a.tmps.getD t undef) b) (k : ∀ v, IsQ w v p b → S.ok w v) (hg : ∀ w' v, G w' v) (hw : Region.wanted ⟨dst, .build 33 #[(0, .tmp s), (1, .tmp t)], ty, pos, af, gd⟩ (yielded ops a.tmps) = true := by exact wanted_none rfl) :
    Arm Q ops ⟨dst, .build 33 #[(0, .tmp s), (1, .tmp t)], ty, pos, af, gd⟩ a w S G Y := arm hw (bld_Q (a := a) hs ht fun v hv => ⟨_, rfl, Below.refl _ _, k v hv, hg _ _⟩)
set_option maxRecDepth 100000 in
theorem s_bldQ1 {t : Nat} {b : Int} (ht : IsN w (a.tmps.getD t undef) b) (k : ∀ v, IsQ w v 0 b → S.ok w v) (hg : ∀ w' v, G w' v) (hw : Region.wanted ⟨dst, .build 33 #[(1, .tmp t)], ty, pos, af, gd⟩ (yielded ops a.tmps) = true := by exact wanted_none rfl) :
    Arm Q ops ⟨dst, .build 33 #[(1, .tmp t)], ty, pos, af, gd⟩ a w S G Y := arm hw (bld_Q1 (a := a) ht fun v hv => ⟨_, rfl, Below.refl _ _, k v hv, hg _ _⟩)
set_option maxRecDepth 100000 in
theorem s_bldX {s0 s1 s2 s3 : Nat} {z0 z1 z2 z3 : Int} (h0 : IsI w (a.tmps.getD s0 undef) z0) (h1 : IsI w (a.tmps.getD s1 undef) z1) (h2 : IsI w (a.tmps.getD s2 undef) z2) (h3 : IsI w (a.tmps.getD s3 undef) z3) (k : ∀ v, IsX w v z0 z1 z2 z3 → S.ok w v) (hg : ∀ w' v, G w' v) (hw : Region.wanted ⟨dst, .build 68 #[(0, .tmp s0), (1, .tmp s1), (2, .tmp s2), (3, .tmp s3)], ty, pos, af, gd⟩ (yielded ops a.tmps) = true := by exact wanted_none rfl) :
    Arm Q ops ⟨dst, .build 68 #[(0, .tmp s0), (1, .tmp s1), (2, .tmp s2), (3, .tmp s3)], ty, pos, af, gd⟩ a w S G Y := arm hw (bld_X (a := a) h0 h1 h2 h3 fun v hv => ⟨_, rfl, Below.refl _ _, k v hv, hg _ _⟩)
set_option maxRecDepth 100000 in
theorem s_bldI  (k : S.ok w (.agg #[.int .i64 0, .slice none 0 0])) (hg : ∀ w' v, G w' v) (hw : Region.wanted ⟨dst, .build 26 #[], ty, pos, af, gd⟩ (yielded ops a.tmps) = true := by exact wanted_none rfl) :
    Arm Q ops ⟨dst, .build 26 #[], ty, pos, af, gd⟩ a w S G Y := arm hw (op_build (a := a) (by simp only [execOp]; go_simp) ⟨_, rfl, Below.refl _ _, k, hg _ _⟩)
/-- What is said where a condition holds. -/
def Ximp (c : Prop) (S : Sx κ) : Sx κ := ⟨fun w v => c → S.ok w v, fun _ _ _ h hb hc => S.mono _ _ _ (h hc) hb, fun _ _ _ _ _ h k z p k' hc => S.put _ _ _ _ _ (h hc) k z p k'⟩
theorem arm_imp {c : Prop} {o : Oper} (h : Arm Q ops o a w S G False) : Arm Q ops o a w (Ximp c S) G Y := by
  unfold Arm at h ⊢
  split at h <;> rename_i hw
  · rw [if_pos hw]
    refine Oper.wp_mono ?_ h
    rintro a' w' ⟨v, h1, h2, h3, h4⟩
    exact ⟨v, h1, h2, fun _ => h3, h4⟩
  · exact h.elim
set_option maxRecDepth 100000 in
theorem s_pickO {c y : Nat} {b b2 : Bool} (p : a.tmps.getD c undef = .bool b) (q : b = false → a.tmps.getD y undef = .bool b2) (h : S.ok w (.bool (b || b2))) (hg : ∀ w' v, G w' v) (hw : Region.wanted ⟨dst, .pick (.tmp c) (.const (.bool true)) (.tmp y), ty, pos, af, gd⟩ (yielded ops a.tmps) = true := by exact wanted_none rfl) :
    Arm Q ops ⟨dst, .pick (.tmp c) (.const (.bool true)) (.tmp y), ty, pos, af, gd⟩ a w S G Y := by
  cases b with
  | true => exact s_pickT p h hg hw
  | false => exact s_pickF p (by rw [show a.eval (.tmp y) = .bool b2 from q rfl]; exact h) hg hw
theorem unw {o : Oper} (hw : Region.wanted o (yielded ops a.tmps) = false) (h : Y) : Arm Q ops o a w S G Y := st_unwant hw h
end
theorem calls_act {fn : Func} {f : FuncId} {c : Code} {xs : Array Value} {w : World} {R : Ending → World → Prop} {N : Nat} (hf : Tryz.prog.funcs[f]? = some fn) (hb : fn.body = some c) (hN : fn.ntmps = N) (hx : xs.size ≤ N)
    (h : ∀ a0 : Act, a0.tmps.size = N → a0.defers = [] → (∀ (k : Nat) (v : Value), xs[k]? = some v → a0.tmps[k]? = some v) → c.wp Tryz.prog (bodyPost Tryz.prog fn R) a0 w) : Calls Tryz.prog f xs w R :=
  calls_of_wp hf hb (h _ (act0_size hN hx) rfl fun _ _ e => act0_get e)
set_option maxRecDepth 100000 in
theorem ldR0 {w : World} {r : Nat} {v : Value} {p b : Int} (n : RB w r v) (i : IsR w v p b) : ∃ u, (Instr.loadAt 26 (.pointer (some ⟨r, 0, none⟩))).run Tryz.prog w = .ok u w ∧ IsI w u p := by
  obtain ⟨_, _, _, _, _, _, _, _, rfl, h1, h2⟩ := i
  exact ⟨_, load_R0 n, h1⟩
set_option maxRecDepth 100000 in
theorem ldR1 {w : World} {r : Nat} {v : Value} {p b : Int} (n : RB w r v) (i : IsR w v p b) : ∃ u, (Instr.loadAt 26 (.pointer (some ⟨r, 2, none⟩))).run Tryz.prog w = .ok u w ∧ IsI w u b := by
  obtain ⟨_, _, _, _, _, _, _, _, rfl, h1, h2⟩ := i
  exact ⟨_, load_R1 n, h2⟩
set_option maxRecDepth 100000 in
theorem ldQ0 {w : World} {r : Nat} {v : Value} {p b : Int} (n : QB w r v) (i : IsQ w v p b) : ∃ u, (Instr.loadAt 31 (.pointer (some ⟨r, 0, none⟩))).run Tryz.prog w = .ok u w ∧ IsN w u p := by
  obtain ⟨_, _, _, _, _, _, _, _, rfl, h1, h2⟩ := i
  exact ⟨_, load_Q0 n, h1⟩
set_option maxRecDepth 100000 in
theorem ldQ1 {w : World} {r : Nat} {v : Value} {p b : Int} (n : QB w r v) (i : IsQ w v p b) : ∃ u, (Instr.loadAt 31 (.pointer (some ⟨r, 2, none⟩))).run Tryz.prog w = .ok u w ∧ IsN w u b := by
  obtain ⟨_, _, _, _, _, _, _, _, rfl, h1, h2⟩ := i
  exact ⟨_, load_Q1 n, h2⟩

set_option maxRecDepth 100000 in
theorem ldX0 {w : World} {r : Nat} {v : Value} {z0 z1 z2 z3 : Int} (n : XB w r v) (i : IsX w v z0 z1 z2 z3) : ∃ u, (Instr.loadAt 26 (.pointer (some ⟨r, 0, none⟩))).run Tryz.prog w = .ok u w ∧ IsI w u z0 := by
  obtain ⟨_, _, _, _, _, _, _, _, _, _, _, _, _, _, _, _, rfl, h0, h1, h2, h3⟩ := i
  exact ⟨_, load_X0 n, h0⟩
set_option maxRecDepth 100000 in
theorem ldX1 {w : World} {r : Nat} {v : Value} {z0 z1 z2 z3 : Int} (n : XB w r v) (i : IsX w v z0 z1 z2 z3) : ∃ u, (Instr.loadAt 26 (.pointer (some ⟨r, 2, none⟩))).run Tryz.prog w = .ok u w ∧ IsI w u z1 := by
  obtain ⟨_, _, _, _, _, _, _, _, _, _, _, _, _, _, _, _, rfl, h0, h1, h2, h3⟩ := i
  exact ⟨_, load_X1 n, h1⟩
set_option maxRecDepth 100000 in
theorem ldX2 {w : World} {r : Nat} {v : Value} {z0 z1 z2 z3 : Int} (n : XB w r v) (i : IsX w v z0 z1 z2 z3) : ∃ u, (Instr.loadAt 26 (.pointer (some ⟨r, 4, none⟩))).run Tryz.prog w = .ok u w ∧ IsI w u z2 := by
  obtain ⟨_, _, _, _, _, _, _, _, _, _, _, _, _, _, _, _, rfl, h0, h1, h2, h3⟩ := i
  exact ⟨_, load_X2 n, h2⟩
set_option maxRecDepth 100000 in
theorem ldX3 {w : World} {r : Nat} {v : Value} {z0 z1 z2 z3 : Int} (n : XB w r v) (i : IsX w v z0 z1 z2 z3) : ∃ u, (Instr.loadAt 26 (.pointer (some ⟨r, 6, none⟩))).run Tryz.prog w = .ok u w ∧ IsI w u z3 := by
  obtain ⟨_, _, _, _, _, _, _, _, _, _, _, _, _, _, _, _, rfl, h0, h1, h2, h3⟩ := i
  exact ⟨_, load_X3 n, h3⟩
section
variable {T : Nat → Prop} {Z : World → Nat → Prop} {Q : Exit → Act → World → Prop} {a : Act} {w : World} {ty : TypeId} {pos : String} {af : Array Edge} {dst : Option Tmp} {Y : Prop} {ops : Array Oper} {ptrs : List (Nat × Option Nat)} {sts : List (St (kd T Z))} {i : Nat} {B B0 : Nat}
set_option maxRecDepth 100000 in
theorem sA_I (hb : B0 ≤ w.heap.size) (hT : T w.heap.size) (hF : ∀ s ∈ sts, s.F (w.alloc (.cells #[.int .i64 0, .slice none 0 0] 26)) w.heap.size) :
    Arm Q ops ⟨dst, .alloc 26, ty, pos, af, none⟩ a w (Sx.box (kd T Z) B0 26) (Fin ptrs sts i w) Y :=
  arm (wanted_none rfl) (op_alloc alloc_I ⟨_, rfl, (Below.refl _ w).alloc (Nat.le_refl _) _, ⟨_, rfl, hb, ⟨hT, (Bx.new w 0 none 0 0).bt⟩⟩, fun _ => ⟨rfl, hF⟩⟩)
set_option maxRecDepth 100000 in
theorem sO_I {S : Sx (kd (fun _ => False) Z)} {sts : List (St (kd (fun _ => False) Z))} (hb : B0 ≤ w.heap.size) (hz : ∀ w', S.ok w' (.agg #[.int .i64 0, .slice none 0 0])) (hF : sts = []) :
    Arm Q ops ⟨dst, .alloc 26, ty, pos, af, none⟩ a w (XoI Z B0 (.agg #[.int .i64 0, .slice none 0 0]) S) (Fin ptrs sts i w) Y := by
  subst hF
  exact arm (wanted_none rfl) (op_alloc alloc_I ⟨_, rfl, (Below.refl _ w).alloc (Nat.le_refl _) _, ⟨_, rfl, hb, Bx.new w 0 none 0 0, hz _⟩, fun _ => ⟨rfl, fan⟩⟩)
set_option maxRecDepth 100000 in
theorem sB_I {S : Sx (kd (fun _ => False) Z)} {sts : List (St (kd (fun _ => False) Z))} {s : Nat} {u : Value} {z : Int} (hb : B0 ≤ w.heap.size) (k : a.tmps[s]? = some u) (h : IsI w u z) (hS : S.ok w u) (hF : sts = []) :
    Arm Q ops ⟨dst, .box 26 (.tmp s), ty, pos, af, none⟩ a w (XoI Z B0 u S) (Fin ptrs sts i w) Y := by
  subst hF
  obtain ⟨wb, hr, hbb, hn⟩ := box_I (w := w) h
  exact arm (wanted_none rfl) (op_box (a := a) (eval_of k) hr ⟨_, rfl, hbb, ⟨_, rfl, hb, hn, S.mono _ _ _ hS hbb⟩, fun _ => ⟨rfl, fan⟩⟩)
set_option maxRecDepth 100000 in
theorem sN_I {S : Sx (kd T Z)} {pp s : Nat} {z : Int} (hx : (Sx.box (kd T Z) B0 26).ok w (a.tmps.getD pp undef)) (hv : IsI w (a.tmps.getD s undef) z) (hS : S.ok w (a.tmps.getD s undef)) (hB : B ≤ B0) (hf : ∃ r, a.tmps.getD pp undef = .pointer (some ⟨r, 0, none⟩) ∧ Zr w r) (hZ : ∀ r, Zr w r → Z w r) :
    Oper.wp Tryz.prog ⟨none, .store 26 (.tmp pp) (.tmp s), ty, pos, af, none⟩ a w (fun a' w' => a' = a ∧ ∃ r v t, a.tmps.getD pp undef = .pointer (some ⟨r, 0, none⟩) ∧ B ≤ r ∧ (kd T Z).K t w r ∧ (kd T Z).Z w r ∧ PutAt r w w' ∧ (kd T Z).K t w' r ∧ Bx w' r v ∧ S.ok w v) Q := by
  obtain ⟨r, er, hr0, hT, hbt⟩ := hx
  obtain ⟨r', er', hz⟩ := hf
  obtain rfl := ptr_inj (er.symm.trans er')
  obtain ⟨u, hu⟩ := hbt.I
  refine Oper.wp_mono ?_ (sto_I (a := a) er rfl hu hv)
  rintro a' w'' ⟨rfl, hpa, hh⟩
  exact ⟨rfl, r, _, _, er, Nat.le_trans hB hr0, ⟨hT, hu.bt⟩, hZ _ hz, hpa, ⟨hT, hh.bt⟩, hh, hS⟩
set_option maxRecDepth 100000 in
theorem sX_I {S : Sx (kd T Z)} {pp s r : Nat} {u : Value} {z : Int} (k : a.tmps[pp]? = some (.pointer (some ⟨r, 0, none⟩))) (hu : Bx w r u) (hv : IsI w (a.tmps.getD s undef) z) (hS : S.ok w (a.tmps.getD s undef)) (hB : B ≤ r) (hT : T r) (hz : Z w r) :
    Oper.wp Tryz.prog ⟨none, .store 26 (.tmp pp) (.tmp s), ty, pos, af, none⟩ a w (fun a' w' => a' = a ∧ ∃ r v t, a.tmps.getD pp undef = .pointer (some ⟨r, 0, none⟩) ∧ B ≤ r ∧ (kd T Z).K t w r ∧ (kd T Z).Z w r ∧ PutAt r w w' ∧ (kd T Z).K t w' r ∧ Bx w' r v ∧ S.ok w v) Q := by
  refine Oper.wp_mono ?_ (sto_I (a := a) (getD_of k) rfl hu hv)
  rintro a' w'' ⟨rfl, hpa, hh⟩
  exact ⟨rfl, r, _, _, getD_of k, hB, ⟨hT, hu.bt⟩, hz, hpa, ⟨hT, hh.bt⟩, hh, hS⟩
set_option maxRecDepth 100000 in
theorem sA_R (hb : B0 ≤ w.heap.size) (hT : T w.heap.size) (hF : ∀ s ∈ sts, s.F (w.alloc (.cells #[.int .i64 0, .slice none 0 0, .int .i64 0, .slice none 0 0] 28)) w.heap.size) :
    Arm Q ops ⟨dst, .alloc 28, ty, pos, af, none⟩ a w (Sx.box (kd T Z) B0 28) (Fin ptrs sts i w) Y :=
  arm (wanted_none rfl) (op_alloc alloc_R ⟨_, rfl, (Below.refl _ w).alloc (Nat.le_refl _) _, ⟨_, rfl, hb, ⟨hT, (RB.new w 0 0 none 0 0 none 0 0).bt⟩⟩, fun _ => ⟨rfl, hF⟩⟩)
set_option maxRecDepth 100000 in
theorem sO_R {S : Sx (kd (fun _ => False) Z)} {sts : List (St (kd (fun _ => False) Z))} (hb : B0 ≤ w.heap.size) (hz : ∀ w', S.ok w' (.agg #[.int .i64 0, .slice none 0 0, .int .i64 0, .slice none 0 0])) (hF : sts = []) :
    Arm Q ops ⟨dst, .alloc 28, ty, pos, af, none⟩ a w (XoR Z B0 (.agg #[.int .i64 0, .slice none 0 0, .int .i64 0, .slice none 0 0]) S) (Fin ptrs sts i w) Y := by
  subst hF
  exact arm (wanted_none rfl) (op_alloc alloc_R ⟨_, rfl, (Below.refl _ w).alloc (Nat.le_refl _) _, ⟨_, rfl, hb, RB.new w 0 0 none 0 0 none 0 0, hz _⟩, fun _ => ⟨rfl, fan⟩⟩)
set_option maxRecDepth 100000 in
theorem sB_R {S : Sx (kd (fun _ => False) Z)} {sts : List (St (kd (fun _ => False) Z))} {s : Nat} {u : Value} {p b : Int} (hb : B0 ≤ w.heap.size) (k : a.tmps[s]? = some u) (h : IsR w u p b) (hS : S.ok w u) (hF : sts = []) :
    Arm Q ops ⟨dst, .box 28 (.tmp s), ty, pos, af, none⟩ a w (XoR Z B0 u S) (Fin ptrs sts i w) Y := by
  subst hF
  obtain ⟨wb, hr, hbb, hn⟩ := box_R (w := w) h
  exact arm (wanted_none rfl) (op_box (a := a) (eval_of k) hr ⟨_, rfl, hbb, ⟨_, rfl, hb, hn, S.mono _ _ _ hS hbb⟩, fun _ => ⟨rfl, fan⟩⟩)
set_option maxRecDepth 100000 in
theorem sN_R {S : Sx (kd T Z)} {pp s : Nat} {p b : Int} (hx : (Sx.box (kd T Z) B0 28).ok w (a.tmps.getD pp undef)) (hv : IsR w (a.tmps.getD s undef) p b) (hS : S.ok w (a.tmps.getD s undef)) (hB : B ≤ B0) (hf : ∃ r, a.tmps.getD pp undef = .pointer (some ⟨r, 0, none⟩) ∧ Zr w r) (hZ : ∀ r, Zr w r → Z w r) :
    Oper.wp Tryz.prog ⟨none, .store 28 (.tmp pp) (.tmp s), ty, pos, af, none⟩ a w (fun a' w' => a' = a ∧ ∃ r v t, a.tmps.getD pp undef = .pointer (some ⟨r, 0, none⟩) ∧ B ≤ r ∧ (kd T Z).K t w r ∧ (kd T Z).Z w r ∧ PutAt r w w' ∧ (kd T Z).K t w' r ∧ RB w' r v ∧ S.ok w v) Q := by
  obtain ⟨r, er, hr0, hT, hbt⟩ := hx
  obtain ⟨r', er', hz⟩ := hf
  obtain rfl := ptr_inj (er.symm.trans er')
  obtain ⟨u, hu⟩ := hbt.R
  refine Oper.wp_mono ?_ (sto_R (a := a) er rfl hu hv)
  rintro a' w'' ⟨rfl, hpa, hh⟩
  exact ⟨rfl, r, _, _, er, Nat.le_trans hB hr0, ⟨hT, hu.bt⟩, hZ _ hz, hpa, ⟨hT, hh.bt⟩, hh, hS⟩
set_option maxRecDepth 100000 in
theorem sX_R {S : Sx (kd T Z)} {pp s r : Nat} {u : Value} {p b : Int} (k : a.tmps[pp]? = some (.pointer (some ⟨r, 0, none⟩))) (hu : RB w r u) (hv : IsR w (a.tmps.getD s undef) p b) (hS : S.ok w (a.tmps.getD s undef)) (hB : B ≤ r) (hT : T r) (hz : Z w r) :
    Oper.wp Tryz.prog ⟨none, .store 28 (.tmp pp) (.tmp s), ty, pos, af, none⟩ a w (fun a' w' => a' = a ∧ ∃ r v t, a.tmps.getD pp undef = .pointer (some ⟨r, 0, none⟩) ∧ B ≤ r ∧ (kd T Z).K t w r ∧ (kd T Z).Z w r ∧ PutAt r w w' ∧ (kd T Z).K t w' r ∧ RB w' r v ∧ S.ok w v) Q := by
  refine Oper.wp_mono ?_ (sto_R (a := a) (getD_of k) rfl hu hv)
  rintro a' w'' ⟨rfl, hpa, hh⟩
  exact ⟨rfl, r, _, _, getD_of k, hB, ⟨hT, hu.bt⟩, hz, hpa, ⟨hT, hh.bt⟩, hh, hS⟩
set_option maxRecDepth 100000 in
theorem sA_X (hb : B0 ≤ w.heap.size) (hT : T w.heap.size) (hF : ∀ s ∈ sts, s.F (w.alloc (.cells #[.int .i64 0, .slice none 0 0, .int .i64 0, .slice none 0 0, .int .i64 0, .slice none 0 0, .int .i64 0, .slice none 0 0] 68)) w.heap.size) :
    Arm Q ops ⟨dst, .alloc 68, ty, pos, af, none⟩ a w (Sx.box (kd T Z) B0 68) (Fin ptrs sts i w) Y :=
  arm (wanted_none rfl) (op_alloc alloc_X ⟨_, rfl, (Below.refl _ w).alloc (Nat.le_refl _) _, ⟨_, rfl, hb, ⟨hT, (XB.new w 0 0 0 0 none 0 0 none 0 0 none 0 0 none 0 0).bt⟩⟩, fun _ => ⟨rfl, hF⟩⟩)
set_option maxRecDepth 100000 in
theorem sO_X {S : Sx (kd (fun _ => False) Z)} {sts : List (St (kd (fun _ => False) Z))} (hb : B0 ≤ w.heap.size) (hz : ∀ w', S.ok w' (.agg #[.int .i64 0, .slice none 0 0, .int .i64 0, .slice none 0 0, .int .i64 0, .slice none 0 0, .int .i64 0, .slice none 0 0])) (hF : sts = []) :
    Arm Q ops ⟨dst, .alloc 68, ty, pos, af, none⟩ a w (XoX Z B0 (.agg #[.int .i64 0, .slice none 0 0, .int .i64 0, .slice none 0 0, .int .i64 0, .slice none 0 0, .int .i64 0, .slice none 0 0]) S) (Fin ptrs sts i w) Y := by
  subst hF
  exact arm (wanted_none rfl) (op_alloc alloc_X ⟨_, rfl, (Below.refl _ w).alloc (Nat.le_refl _) _, ⟨_, rfl, hb, XB.new w 0 0 0 0 none 0 0 none 0 0 none 0 0 none 0 0, hz _⟩, fun _ => ⟨rfl, fan⟩⟩)
set_option maxRecDepth 100000 in
theorem sB_X {S : Sx (kd (fun _ => False) Z)} {sts : List (St (kd (fun _ => False) Z))} {s : Nat} {u : Value} {z0 z1 z2 z3 : Int} (hb : B0 ≤ w.heap.size) (k : a.tmps[s]? = some u) (h : IsX w u z0 z1 z2 z3) (hS : S.ok w u) (hF : sts = []) :
    Arm Q ops ⟨dst, .box 68 (.tmp s), ty, pos, af, none⟩ a w (XoX Z B0 u S) (Fin ptrs sts i w) Y := by
  subst hF
  obtain ⟨wb, hr, hbb, hn⟩ := box_X (w := w) h
  exact arm (wanted_none rfl) (op_box (a := a) (eval_of k) hr ⟨_, rfl, hbb, ⟨_, rfl, hb, hn, S.mono _ _ _ hS hbb⟩, fun _ => ⟨rfl, fan⟩⟩)
set_option maxRecDepth 100000 in
theorem sN_X {S : Sx (kd T Z)} {pp s : Nat} {z0 z1 z2 z3 : Int} (hx : (Sx.box (kd T Z) B0 68).ok w (a.tmps.getD pp undef)) (hv : IsX w (a.tmps.getD s undef) z0 z1 z2 z3) (hS : S.ok w (a.tmps.getD s undef)) (hB : B ≤ B0) (hf : ∃ r, a.tmps.getD pp undef = .pointer (some ⟨r, 0, none⟩) ∧ Zr w r) (hZ : ∀ r, Zr w r → Z w r) :
    Oper.wp Tryz.prog ⟨none, .store 68 (.tmp pp) (.tmp s), ty, pos, af, none⟩ a w (fun a' w' => a' = a ∧ ∃ r v t, a.tmps.getD pp undef = .pointer (some ⟨r, 0, none⟩) ∧ B ≤ r ∧ (kd T Z).K t w r ∧ (kd T Z).Z w r ∧ PutAt r w w' ∧ (kd T Z).K t w' r ∧ XB w' r v ∧ S.ok w v) Q := by
  obtain ⟨r, er, hr0, hT, hbt⟩ := hx
  obtain ⟨r', er', hz⟩ := hf
  obtain rfl := ptr_inj (er.symm.trans er')
  obtain ⟨u, hu⟩ := hbt.X
  refine Oper.wp_mono ?_ (sto_X (a := a) er rfl hu hv)
  rintro a' w'' ⟨rfl, hpa, hh⟩
  exact ⟨rfl, r, _, _, er, Nat.le_trans hB hr0, ⟨hT, hu.bt⟩, hZ _ hz, hpa, ⟨hT, hh.bt⟩, hh, hS⟩
set_option maxRecDepth 100000 in
theorem sX_X {S : Sx (kd T Z)} {pp s r : Nat} {u : Value} {z0 z1 z2 z3 : Int} (k : a.tmps[pp]? = some (.pointer (some ⟨r, 0, none⟩))) (hu : XB w r u) (hv : IsX w (a.tmps.getD s undef) z0 z1 z2 z3) (hS : S.ok w (a.tmps.getD s undef)) (hB : B ≤ r) (hT : T r) (hz : Z w r) :
    Oper.wp Tryz.prog ⟨none, .store 68 (.tmp pp) (.tmp s), ty, pos, af, none⟩ a w (fun a' w' => a' = a ∧ ∃ r v t, a.tmps.getD pp undef = .pointer (some ⟨r, 0, none⟩) ∧ B ≤ r ∧ (kd T Z).K t w r ∧ (kd T Z).Z w r ∧ PutAt r w w' ∧ (kd T Z).K t w' r ∧ XB w' r v ∧ S.ok w v) Q := by
  refine Oper.wp_mono ?_ (sto_X (a := a) (getD_of k) rfl hu hv)
  rintro a' w'' ⟨rfl, hpa, hh⟩
  exact ⟨rfl, r, _, _, getD_of k, hB, ⟨hT, hu.bt⟩, hz, hpa, ⟨hT, hh.bt⟩, hh, hS⟩
set_option maxRecDepth 100000 in
theorem sA_N (hb : B0 ≤ w.heap.size) (hT : T w.heap.size) (hF : ∀ s ∈ sts, s.F (w.alloc (.cells #[.bool false, .slice none 0 0] 31)) w.heap.size) :
    Arm Q ops ⟨dst, .alloc 31, ty, pos, af, none⟩ a w (Sx.box (kd T Z) B0 31) (Fin ptrs sts i w) Y :=
  arm (wanted_none rfl) (op_alloc alloc_N ⟨_, rfl, (Below.refl _ w).alloc (Nat.le_refl _) _, ⟨_, rfl, hb, ⟨hT, (NB.new w false none 0 0).bt⟩⟩, fun _ => ⟨rfl, hF⟩⟩)
set_option maxRecDepth 100000 in
theorem sO_N {S : Sx (kd (fun _ => False) Z)} {sts : List (St (kd (fun _ => False) Z))} (hb : B0 ≤ w.heap.size) (hz : ∀ w', S.ok w' (.agg #[.bool false, .slice none 0 0])) (hF : sts = []) :
    Arm Q ops ⟨dst, .alloc 31, ty, pos, af, none⟩ a w (XoN Z B0 (.agg #[.bool false, .slice none 0 0]) S) (Fin ptrs sts i w) Y := by
  subst hF
  exact arm (wanted_none rfl) (op_alloc alloc_N ⟨_, rfl, (Below.refl _ w).alloc (Nat.le_refl _) _, ⟨_, rfl, hb, NB.new w false none 0 0, hz _⟩, fun _ => ⟨rfl, fan⟩⟩)
set_option maxRecDepth 100000 in
theorem sB_N {S : Sx (kd (fun _ => False) Z)} {sts : List (St (kd (fun _ => False) Z))} {s : Nat} {u : Value} {z : Int} (hb : B0 ≤ w.heap.size) (k : a.tmps[s]? = some u) (h : IsN w u z) (hS : S.ok w u) (hF : sts = []) :
    Arm Q ops ⟨dst, .box 31 (.tmp s), ty, pos, af, none⟩ a w (XoN Z B0 u S) (Fin ptrs sts i w) Y := by
  subst hF
  obtain ⟨wb, hr, hbb, hn⟩ := box_N (w := w) h
  exact arm (wanted_none rfl) (op_box (a := a) (eval_of k) hr ⟨_, rfl, hbb, ⟨_, rfl, hb, hn, S.mono _ _ _ hS hbb⟩, fun _ => ⟨rfl, fan⟩⟩)
set_option maxRecDepth 100000 in
theorem sN_N {S : Sx (kd T Z)} {pp s : Nat} {z : Int} (hx : (Sx.box (kd T Z) B0 31).ok w (a.tmps.getD pp undef)) (hv : IsN w (a.tmps.getD s undef) z) (hS : S.ok w (a.tmps.getD s undef)) (hB : B ≤ B0) (hf : ∃ r, a.tmps.getD pp undef = .pointer (some ⟨r, 0, none⟩) ∧ Zr w r) (hZ : ∀ r, Zr w r → Z w r) :
    Oper.wp Tryz.prog ⟨none, .store 31 (.tmp pp) (.tmp s), ty, pos, af, none⟩ a w (fun a' w' => a' = a ∧ ∃ r v t, a.tmps.getD pp undef = .pointer (some ⟨r, 0, none⟩) ∧ B ≤ r ∧ (kd T Z).K t w r ∧ (kd T Z).Z w r ∧ PutAt r w w' ∧ (kd T Z).K t w' r ∧ NB w' r v ∧ S.ok w v) Q := by
  obtain ⟨r, er, hr0, hT, hbt⟩ := hx
  obtain ⟨r', er', hz⟩ := hf
  obtain rfl := ptr_inj (er.symm.trans er')
  obtain ⟨u, hu⟩ := hbt.N
  refine Oper.wp_mono ?_ (sto_N (a := a) er rfl hu hv)
  rintro a' w'' ⟨rfl, hpa, hh⟩
  exact ⟨rfl, r, _, _, er, Nat.le_trans hB hr0, ⟨hT, hu.bt⟩, hZ _ hz, hpa, ⟨hT, hh.bt⟩, hh, hS⟩
set_option maxRecDepth 100000 in
theorem sX_N {S : Sx (kd T Z)} {pp s r : Nat} {u : Value} {z : Int} (k : a.tmps[pp]? = some (.pointer (some ⟨r, 0, none⟩))) (hu : NB w r u) (hv : IsN w (a.tmps.getD s undef) z) (hS : S.ok w (a.tmps.getD s undef)) (hB : B ≤ r) (hT : T r) (hz : Z w r) :
    Oper.wp Tryz.prog ⟨none, .store 31 (.tmp pp) (.tmp s), ty, pos, af, none⟩ a w (fun a' w' => a' = a ∧ ∃ r v t, a.tmps.getD pp undef = .pointer (some ⟨r, 0, none⟩) ∧ B ≤ r ∧ (kd T Z).K t w r ∧ (kd T Z).Z w r ∧ PutAt r w w' ∧ (kd T Z).K t w' r ∧ NB w' r v ∧ S.ok w v) Q := by
  refine Oper.wp_mono ?_ (sto_N (a := a) (getD_of k) rfl hu hv)
  rintro a' w'' ⟨rfl, hpa, hh⟩
  exact ⟨rfl, r, _, _, getD_of k, hB, ⟨hT, hu.bt⟩, hz, hpa, ⟨hT, hh.bt⟩, hh, hS⟩
set_option maxRecDepth 100000 in
theorem sA_Q (hb : B0 ≤ w.heap.size) (hT : T w.heap.size) (hF : ∀ s ∈ sts, s.F (w.alloc (.cells #[.bool false, .slice none 0 0, .bool false, .slice none 0 0] 33)) w.heap.size) :
    Arm Q ops ⟨dst, .alloc 33, ty, pos, af, none⟩ a w (Sx.box (kd T Z) B0 33) (Fin ptrs sts i w) Y :=
  arm (wanted_none rfl) (op_alloc alloc_Q ⟨_, rfl, (Below.refl _ w).alloc (Nat.le_refl _) _, ⟨_, rfl, hb, ⟨hT, (QB.new w false false none 0 0 none 0 0).bt⟩⟩, fun _ => ⟨rfl, hF⟩⟩)
set_option maxRecDepth 100000 in
theorem sO_Q {S : Sx (kd (fun _ => False) Z)} {sts : List (St (kd (fun _ => False) Z))} (hb : B0 ≤ w.heap.size) (hz : ∀ w', S.ok w' (.agg #[.bool false, .slice none 0 0, .bool false, .slice none 0 0])) (hF : sts = []) :
    Arm Q ops ⟨dst, .alloc 33, ty, pos, af, none⟩ a w (XoQ Z B0 (.agg #[.bool false, .slice none 0 0, .bool false, .slice none 0 0]) S) (Fin ptrs sts i w) Y := by
  subst hF
  exact arm (wanted_none rfl) (op_alloc alloc_Q ⟨_, rfl, (Below.refl _ w).alloc (Nat.le_refl _) _, ⟨_, rfl, hb, QB.new w false false none 0 0 none 0 0, hz _⟩, fun _ => ⟨rfl, fan⟩⟩)
set_option maxRecDepth 100000 in
theorem sB_Q {S : Sx (kd (fun _ => False) Z)} {sts : List (St (kd (fun _ => False) Z))} {s : Nat} {u : Value} {p b : Int} (hb : B0 ≤ w.heap.size) (k : a.tmps[s]? = some u) (h : IsQ w u p b) (hS : S.ok w u) (hF : sts = []) :
    Arm Q ops ⟨dst, .box 33 (.tmp s), ty, pos, af, none⟩ a w (XoQ Z B0 u S) (Fin ptrs sts i w) Y := by
  subst hF
  obtain ⟨wb, hr, hbb, hn⟩ := box_Q (w := w) h
  exact arm (wanted_none rfl) (op_box (a := a) (eval_of k) hr ⟨_, rfl, hbb, ⟨_, rfl, hb, hn, S.mono _ _ _ hS hbb⟩, fun _ => ⟨rfl, fan⟩⟩)
set_option maxRecDepth 100000 in
theorem sN_Q {S : Sx (kd T Z)} {pp s : Nat} {p b : Int} (hx : (Sx.box (kd T Z) B0 33).ok w (a.tmps.getD pp undef)) (hv : IsQ w (a.tmps.getD s undef) p b) (hS : S.ok w (a.tmps.getD s undef)) (hB : B ≤ B0) (hf : ∃ r, a.tmps.getD pp undef = .pointer (some ⟨r, 0, none⟩) ∧ Zr w r) (hZ : ∀ r, Zr w r → Z w r) :
    Oper.wp Tryz.prog ⟨none, .store 33 (.tmp pp) (.tmp s), ty, pos, af, none⟩ a w (fun a' w' => a' = a ∧ ∃ r v t, a.tmps.getD pp undef = .pointer (some ⟨r, 0, none⟩) ∧ B ≤ r ∧ (kd T Z).K t w r ∧ (kd T Z).Z w r ∧ PutAt r w w' ∧ (kd T Z).K t w' r ∧ QB w' r v ∧ S.ok w v) Q := by
  obtain ⟨r, er, hr0, hT, hbt⟩ := hx
  obtain ⟨r', er', hz⟩ := hf
  obtain rfl := ptr_inj (er.symm.trans er')
  obtain ⟨u, hu⟩ := hbt.Q
  refine Oper.wp_mono ?_ (sto_Q (a := a) er rfl hu hv)
  rintro a' w'' ⟨rfl, hpa, hh⟩
  exact ⟨rfl, r, _, _, er, Nat.le_trans hB hr0, ⟨hT, hu.bt⟩, hZ _ hz, hpa, ⟨hT, hh.bt⟩, hh, hS⟩
set_option maxRecDepth 100000 in
theorem sX_Q {S : Sx (kd T Z)} {pp s r : Nat} {u : Value} {p b : Int} (k : a.tmps[pp]? = some (.pointer (some ⟨r, 0, none⟩))) (hu : QB w r u) (hv : IsQ w (a.tmps.getD s undef) p b) (hS : S.ok w (a.tmps.getD s undef)) (hB : B ≤ r) (hT : T r) (hz : Z w r) :
    Oper.wp Tryz.prog ⟨none, .store 33 (.tmp pp) (.tmp s), ty, pos, af, none⟩ a w (fun a' w' => a' = a ∧ ∃ r v t, a.tmps.getD pp undef = .pointer (some ⟨r, 0, none⟩) ∧ B ≤ r ∧ (kd T Z).K t w r ∧ (kd T Z).Z w r ∧ PutAt r w w' ∧ (kd T Z).K t w' r ∧ QB w' r v ∧ S.ok w v) Q := by
  refine Oper.wp_mono ?_ (sto_Q (a := a) (getD_of k) rfl hu hv)
  rintro a' w'' ⟨rfl, hpa, hh⟩
  exact ⟨rfl, r, _, _, getD_of k, hB, ⟨hT, hu.bt⟩, hz, hpa, ⟨hT, hh.bt⟩, hh, hS⟩
end

set_option maxRecDepth 100000 in
/-- The law, its steps told by Arm. -/
theorem fx3 (T : Nat → Prop) (Z : World → Nat → Prop) {Q : Exit → Act → World → Prop} {l : List Oper} {a0 : Act} {w0 : World} {id : Nat} (d : Bool) (hm : Tryz.prog.follows .mixedOrders = true) (n N B : Nat) (kept : List Nat) (sp : List (Sx (kd T Z))) (inv : Sx (kd T Z)) (ptrs : List (Nat × Option Nat)) (sts : List (St (kd T Z))) (hn : l.length = n)
    (hg : fitF N 0 kept l = true) (hB : fxB l kept ptrs (sts.map fun s => (s.op, s.pt)) = true) (hN : a0.tmps.size = N) (hi0 : inv.ok w0 undef) (hBw : B ≤ w0.heap.size)
    (hstA : ∀ s ∈ sts, ∀ w v, (sp.getD s.op (Sx.any _)).ok w v) (hnd : (sts.map (·.op)).Nodup)
    (hOx : ∀ s ∈ sts, (∀ w, s.O w) ∨ (s.pt ∈ kept ∧ (s.pt, none) ∈ ptrs ∧ a0.tmps.getD s.pt undef = .pointer (some ⟨s.ob, 0, none⟩))) (hO0 : ∀ s ∈ sts, s.O w0)
    (hold : ∀ x ∈ ptrs, x.2 = none → ∃ r, a0.tmps.getD x.1 undef = .pointer (some ⟨r, 0, none⟩) ∧ r < w0.heap.size)
    (hdis : ∀ x ∈ ptrs, ∀ y ∈ ptrs, x.2 = none → y.2 = none → x.1 ≠ y.1 → a0.tmps.getD x.1 undef ≠ a0.tmps.getD y.1 undef)
    (hnew : ∀ x ∈ ptrs, ∀ i, x.2 = some i → ∀ w v, (sp.getD i (Sx.any _)).ok w v → ∃ r, v = .pointer (some ⟨r, 0, none⟩) ∧ r < w.heap.size)
    (hstep : ∀ i, i < n → (∀ s ∈ sts, s.op ≠ i) → ∀ (a : Act) (w : World), Below B w0 w → inv.ok w undef → (∀ k, k ∈ kept → a.tmps[k]? = a0.tmps[k]?) → (∀ j, (preds (l.getD i default)).contains j = true → (sp.getD j (Sx.any _)).ok w (slotOf l.toArray a j)) → (∀ s ∈ sts, (ancs l 4 [s.op]).contains i = true → s.O w) →
      Arm Q l.toArray (l.getD i default) a w (sp.getD i (Sx.any _)) (Fin ptrs sts i w) ((sp.getD i (Sx.any _)).ok w undef ∧ ∀ x ∈ ptrs, x.2 ≠ some i))
    (hstore : ∀ s ∈ sts, ∀ (a : Act) (w : World), Below B w0 w → inv.ok w undef → (∀ k, k ∈ kept → a.tmps[k]? = a0.tmps[k]?) → (∀ j, (preds (l.getD s.op default)).contains j = true → (sp.getD j (Sx.any _)).ok w (slotOf l.toArray a j)) → s.O w → (∀ i, (s.pt, some i) ∈ ptrs → ∃ r, a.tmps.getD s.pt undef = .pointer (some ⟨r, 0, none⟩) ∧ s.F w r) →
      (l.getD s.op default).wp Tryz.prog a w (fun a' w' => a' = a ∧ ∃ r v t, a.tmps.getD s.pt undef = .pointer (some ⟨r, 0, none⟩) ∧ B ≤ r ∧ (kd T Z).K t w r ∧ (kd T Z).Z w r ∧ PutAt r w w' ∧ (kd T Z).K t w' r ∧ s.H w' r v ∧ s.S.ok w v) Q)
    (hend : ∀ (a : Act) (w : World), Below B w0 w → a.defers = a0.defers → a.tmps.size = N → (∀ k, k ∈ kept → a.tmps[k]? = a0.tmps[k]?) → inv.ok w undef → (∀ i, i < n → (∀ s ∈ sts, s.op ≠ i) → (sp.getD i (Sx.any _)).ok w (slotOf l.toArray a i)) →
      (∀ s ∈ sts, ∃ r v, a.tmps.getD s.pt undef = .pointer (some ⟨r, 0, none⟩) ∧ s.H w r v ∧ s.S.ok w v) →
      (∀ x ∈ ptrs, ∀ y ∈ ptrs, x.1 ≠ y.1 → a.tmps.getD x.1 undef ≠ a.tmps.getD y.1 undef) → Q .normal a w) :
    (Code.region id l.toArray d).wp Tryz.prog Q a0 w0 :=
  fx2 (kd T Z) d hm n N B kept sp inv ptrs sts hn hg hB hN hi0 hBw hstA (st_dup hnd) hOx hO0 hold hdis hnew hstep hstore hend
theorem nst : (∀ (_ : World) (_ : Value), True) ∧ ∀ (_ : World), True := ⟨fun _ _ => trivial, fun _ => trivial⟩
theorem nby {T : Nat → Prop} {Z : World → Nat → Prop} {sp : List (Sx (kd T Z))} {p j B : Nat} {t : TypeId} (h : sp.getD j (Sx.any _) = Sx.box (kd T Z) B t) : ((p, some j) : Nat × Option Nat).2.isSome = true ∧ ∀ i, ((p, some j) : Nat × Option Nat).2 = some i → ∀ w v, (sp.getD i (Sx.any _)).ok w v → ∃ r, v = .pointer (some ⟨r, 0, none⟩) ∧ r < w.heap.size := ⟨rfl, nbx h⟩
set_option maxRecDepth 100000 in
/-- Only boxes that are made here are filled. -/
theorem fxN (T : Nat → Prop) (Z : World → Nat → Prop) {Q : Exit → Act → World → Prop} {l : List Oper} {a0 : Act} {w0 : World} {id : Nat} (d : Bool) (hm : Tryz.prog.follows .mixedOrders = true) (n N B : Nat) (kept : List Nat) (sp : List (Sx (kd T Z))) (inv : Sx (kd T Z)) (ptrs : List (Nat × Option Nat)) (sts : List (St (kd T Z))) (hn : l.length = n)
    (hg : fitF N 0 kept l = true) (hB : fxB l kept ptrs (sts.map fun s => (s.op, s.pt)) = true) (hN : a0.tmps.size = N) (hi0 : inv.ok w0 undef) (hBw : B ≤ w0.heap.size) (hnd : (sts.map (·.op)).Nodup)
    (hst : ∀ s ∈ sts, (∀ w v, (sp.getD s.op (Sx.any _)).ok w v) ∧ ∀ w, s.O w)
    (hp : ∀ x ∈ ptrs, x.2.isSome = true ∧ ∀ i, x.2 = some i → ∀ w v, (sp.getD i (Sx.any _)).ok w v → ∃ r, v = .pointer (some ⟨r, 0, none⟩) ∧ r < w.heap.size)
    (hstep : ∀ i, i < n → (∀ s ∈ sts, s.op ≠ i) → ∀ (a : Act) (w : World), Below B w0 w → inv.ok w undef → (∀ k, k ∈ kept → a.tmps[k]? = a0.tmps[k]?) → (∀ j, (preds (l.getD i default)).contains j = true → (sp.getD j (Sx.any _)).ok w (slotOf l.toArray a j)) → (∀ s ∈ sts, (ancs l 4 [s.op]).contains i = true → s.O w) →
      Arm Q l.toArray (l.getD i default) a w (sp.getD i (Sx.any _)) (Fin ptrs sts i w) ((sp.getD i (Sx.any _)).ok w undef ∧ ∀ x ∈ ptrs, x.2 ≠ some i))
    (hstore : ∀ s ∈ sts, ∀ (a : Act) (w : World), Below B w0 w → inv.ok w undef → (∀ k, k ∈ kept → a.tmps[k]? = a0.tmps[k]?) → (∀ j, (preds (l.getD s.op default)).contains j = true → (sp.getD j (Sx.any _)).ok w (slotOf l.toArray a j)) → s.O w → (∀ i, (s.pt, some i) ∈ ptrs → ∃ r, a.tmps.getD s.pt undef = .pointer (some ⟨r, 0, none⟩) ∧ s.F w r) →
      (l.getD s.op default).wp Tryz.prog a w (fun a' w' => a' = a ∧ ∃ r v t, a.tmps.getD s.pt undef = .pointer (some ⟨r, 0, none⟩) ∧ B ≤ r ∧ (kd T Z).K t w r ∧ (kd T Z).Z w r ∧ PutAt r w w' ∧ (kd T Z).K t w' r ∧ s.H w' r v ∧ s.S.ok w v) Q)
    (hend : ∀ (a : Act) (w : World), Below B w0 w → a.defers = a0.defers → a.tmps.size = N → (∀ k, k ∈ kept → a.tmps[k]? = a0.tmps[k]?) → inv.ok w undef → (∀ i, i < n → (∀ s ∈ sts, s.op ≠ i) → (sp.getD i (Sx.any _)).ok w (slotOf l.toArray a i)) →
      (∀ s ∈ sts, ∃ r v, a.tmps.getD s.pt undef = .pointer (some ⟨r, 0, none⟩) ∧ s.H w r v ∧ s.S.ok w v) →
      (∀ x ∈ ptrs, ∀ y ∈ ptrs, x.1 ≠ y.1 → a.tmps.getD x.1 undef ≠ a.tmps.getD y.1 undef) → Q .normal a w) :
    (Code.region id l.toArray d).wp Tryz.prog Q a0 w0 :=
  have hx : ∀ x ∈ ptrs, x.2 ≠ none := fun x hx e => by have := (hp x hx).1; rw [e] at this; cases this
  fx3 T Z d hm n N B kept sp inv ptrs sts hn hg hB hN hi0 hBw (fun s hs => (hst s hs).1) hnd (fun s hs => .inl (hst s hs).2) (fun s hs => (hst s hs).2 w0)
    (fun x h e => absurd e (hx x h)) (fun x h _ _ e _ _ => absurd e (hx x h)) (fun x h => (hp x h).2) hstep hstore hend
set_option maxRecDepth 100000 in
/-- Nothing is made or filled. -/
theorem fx3n {Q : Exit → Act → World → Prop} {l : List Oper} {a0 : Act} {w0 : World} {id : Nat} (Z : World → Nat → Prop) (d : Bool) (hm : Tryz.prog.follows .mixedOrders = true) (n N B : Nat) (kept : List Nat) (sp : List (Sx (kd (fun _ => False) Z))) (inv : Sx (kd (fun _ => False) Z)) (hn : l.length = n)
    (hg : fitF N 0 kept l = true) (hB : fxB l kept [] [] = true) (hN : a0.tmps.size = N) (hi0 : inv.ok w0 undef) (hBw : B ≤ w0.heap.size)
    (hstep : ∀ i, i < n → ∀ (a : Act) (w : World), Below B w0 w → inv.ok w undef → (∀ k, k ∈ kept → a.tmps[k]? = a0.tmps[k]?) → (∀ j, (preds (l.getD i default)).contains j = true → (sp.getD j (Sx.any _)).ok w (slotOf l.toArray a j)) →
      Arm Q l.toArray (l.getD i default) a w (sp.getD i (Sx.any _)) (fun _ _ => True) ((sp.getD i (Sx.any _)).ok w undef ∧ True))
    (hend : ∀ (a : Act) (w : World), Below B w0 w → a.defers = a0.defers → a.tmps.size = N → (∀ k, k ∈ kept → a.tmps[k]? = a0.tmps[k]?) → inv.ok w undef → (∀ i, i < n → (sp.getD i (Sx.any _)).ok w (slotOf l.toArray a i)) → Q .normal a w) :
    (Code.region id l.toArray d).wp Tryz.prog Q a0 w0 :=
  fx3 _ Z d hm n N B kept sp inv [] [] hn hg hB hN hi0 hBw fan List.nodup_nil fan fan fan (fun _ h => absurd h List.not_mem_nil) fan
    (fun i hi _ a w hb hv hk hp _ => by
      have h := hstep i hi a w hb hv hk hp
      unfold Arm at h ⊢
      split at h <;> rename_i hw
      · rw [if_pos hw]
        refine Oper.wp_mono ?_ h
        rintro a' w' ⟨v, h1, h2, h3, _⟩
        exact ⟨v, h1, h2, h3, fin0 rfl⟩
      · rw [if_neg hw]
        exact ⟨h.1, fan⟩) fan
    (fun a w hb hd hs hk hv hsp _ _ => hend a w hb hd hs hk hv fun i hi => hsp i hi fan)

end Go.Proofs.YtlcfldkmojpkpaaGreatDoor
