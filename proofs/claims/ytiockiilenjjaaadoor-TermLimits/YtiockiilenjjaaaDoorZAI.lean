/- Sorts out of operands' sorts. -/
import Derived.Test.YtiockiilenjjaaaDoorZAH
import Derived.Laws.AppendOwn
import Derived.Deep.AppendLies
set_option linter.unusedVariables false
set_option linter.unusedSimpArgs false

/- The checker in memory. -/
namespace Go.Proofs.YtiockiilenjjaaaDoor
open Go Go.RowKit
def IR (w : World) (l : List Int) (b o j : Nat) : Prop := ∀ x, l[j]? = some x → w.cell? ⟨b, o, none⟩ = some (.int .i64 x) ∧ fits x
/-- A function's signature, as a value. -/
def FnV (w : World) (B : Nat) (v : Value) (f : Fn) : Prop := ∃ a c, v = .agg #[.string f.name, .slice a f.args.length c, .int .i64 f.out] ∧ fits f.out ∧ Row B a f.args.length c 1 (IR w f.args)
def FM (w : World) (B rf : Nat) (sig : List Fn) : Prop := ∃ es, NM w rf es ∧ ∀ k, (findF k sig = none ∧ look k es = none) ∨ ∃ f v, findF k sig = some f ∧ look k es = some v ∧ FnV w B v f
def BM (w : World) (B rb : Nat) (env : ByteArray → List Int) : Prop := ∃ es, NM w rb es ∧ (∀ k, (look k es = none ∧ env k = []) ∨ ∃ v, look k es = some v ∧ w.ownsRow B 3 1 v (env k).length ((env k).map (Value.int .i64)) ∧ ∀ x ∈ env k, fits x) ∧ ∀ k k' v v' g, look k es = some v → look k' es = some v' → v.ownBlock = some g → v'.ownBlock = some g → k = k'
/-- A checker: functions by names, sorts by the names that are bound. -/
structure KS (w : World) (B r rf rb : Nat) (sig : List Fn) (env : ByteArray → List Int) : Prop where
  hr : B ≤ r
  hrf : B ≤ rf
  hrb : B ≤ rb
  ne : rf ≠ rb
  blk : w.heap[r]? = some (.cells #[.map (some rf), .map (some rb)] 100)
  fm : FM w B rf sig
  bm : BM w B rb env
/-- Blocks that hold the sorts of a name that is bound. -/
def OB (w : World) (rb g : Nat) : Prop := ∃ es k v, NM w rb es ∧ look k es = some v ∧ v.ownBlock = some g
/-- All stands, but the map rb and the blocks that it owns; and it owns no old ones more. -/
structure CF (rb : Nat) (w w' : World) : Prop where
  os : w'.os = w.os
  tape : w'.tape = w.tape
  output : w'.output = w.output
  size : w.heap.size ≤ w'.heap.size
  block : ∀ k, k < w.heap.size → k ≠ rb → ¬ OB w rb k → w'.heap[k]? = w.heap[k]?
  own : ∀ g, OB w' rb g → OB w rb g ∨ w.heap.size ≤ g
theorem CF.refl (rb : Nat) (w : World) : CF rb w w := ⟨rfl, rfl, rfl, Nat.le_refl _, fun _ _ _ _ => rfl, fun _ h => .inl h⟩
theorem CF.trans {rb : Nat} {a b c : World} (h : CF rb a b) (k : CF rb b c) : CF rb a c :=
  ⟨k.os.trans h.os, k.tape.trans h.tape, k.output.trans h.output, Nat.le_trans h.size k.size, fun j hj hr ho => by
    refine (k.block j (Nat.lt_of_lt_of_le hj h.size) hr fun o => ?_).trans (h.block j hj hr ho)
    rcases h.own j o with o | o
    · exact ho o
    · omega, fun g o => by
    rcases k.own g o with o | o
    · exact h.own g o
    · exact .inr (Nat.le_trans h.size o)⟩
theorem NM.lt' {w : World} {r : Nat} {es : List (ByteArray × Value)} (h : NM w r es) : r < w.heap.size := h.lt
theorem OB.same {w w' : World} {rb g : Nat} (h : w'.heap[rb]? = w.heap[rb]?) (o : OB w' rb g) : OB w rb g := by
  obtain ⟨es, k, v, h1, h2⟩ := o
  exact ⟨es, k, v, h1.same h.symm, h2⟩
theorem CF.of {rb C : Nat} {w w' : World} (h : Below C w w') (hC : w.heap.size ≤ C) (hrb : rb < w.heap.size) : CF rb w w' :=
  ⟨h.os, h.tape, h.output, h.size, fun k hk _ _ => h.block k (Nat.lt_of_lt_of_le hk hC), fun _ o => .inl (o.same (h.block rb (by omega)))⟩
theorem CF.blk {rb q : Nat} {w w' : World} {x : Obj} (h : CF rb w w') (hx : w.heap[q]? = some x) (hq : q ≠ rb) (ho : ¬ OB w rb q) : w'.heap[q]? = some x := by
  rw [h.block q (Array.getElem?_eq_some_iff.1 hx).1 hq ho]
  exact hx
theorem nm_det {w : World} {r : Nat} {es es' : List (ByteArray × Value)} (h : NM w r es) (h' : NM w r es') : es = es' := by
  obtain ⟨a, c, h1, h2⟩ := h
  obtain ⟨a', c', h1', h2'⟩ := h'
  rw [h1] at h1'
  injection h1' with e
  injection e with e
  subst e
  rw [h2] at h2'
  clear h1 h2
  induction es generalizing es' with
  | nil => cases es' with
    | nil => rfl
    | cons p l => simp at h2'
  | cons p l ih => cases es' with
    | nil => simp at h2'
    | cons q m =>
      simp only [List.map_cons, List.cons.injEq, Prod.mk.injEq] at h2'
      obtain ⟨⟨e1, e2⟩, e3⟩ := h2'
      injection e1 with e1
      rw [Prod.ext e1 e2, ih e3]
section
variable {w : World} {B r rf rb : Nat} {sig : List Fn} {env : ByteArray → List Int}
theorem KS.rb_lt (h : KS w B r rf rb sig env) : rb < w.heap.size := by
  obtain ⟨es, h1, _⟩ := h.bm
  exact h1.lt
theorem KS.rf_lt (h : KS w B r rf rb sig env) : rf < w.heap.size := by
  obtain ⟨es, h1, _⟩ := h.fm
  exact h1.lt
theorem KS.r_lt (h : KS w B r rf rb sig env) : r < w.heap.size := (Array.getElem?_eq_some_iff.1 h.blk).1
/-- What is owned is a row of ints of the call's own. -/
theorem KS.owned (h : KS w B r rf rb sig env) {g : Nat} (o : OB w rb g) : B ≤ g ∧ g < w.heap.size ∧ ∃ cur, w.heap[g]? = some (.cells cur 3 (0, 0)) := by
  obtain ⟨es', k, v, h1, h2, h3⟩ := o
  obtain ⟨es, e1, e2, _⟩ := h.bm
  obtain rfl := nm_det e1 h1
  rcases e2 k with ⟨e3, _⟩ | ⟨v', e3, e4, _⟩
  · rw [h2] at e3; cases e3
  · rw [h2] at e3
    injection e3 with e3
    subst e3
    rcases e4.2 with ⟨rfl, _⟩ | ⟨g', cap, cur, rfl, hB, hg, _⟩
    · cases h3
    · cases h3
      exact ⟨hB, (Array.getElem?_eq_some_iff.1 hg).1, cur, hg⟩
theorem KS.r_free (h : KS w B r rf rb sig env) : ¬ OB w rb r := fun o => by
  obtain ⟨_, _, cur, hc⟩ := h.owned o
  rw [h.blk] at hc
  injection hc with hc
  injection hc with _ hc
  exact absurd hc (by decide)
theorem KS.rf_free (h : KS w B r rf rb sig env) : ¬ OB w rb rf := fun o => by
  obtain ⟨_, _, cur, hc⟩ := h.owned o
  obtain ⟨es, ⟨a, c, h1, _⟩, _⟩ := h.fm
  rw [h1] at hc
  cases hc
theorem KS.r_ne (h : KS w B r rf rb sig env) : r ≠ rb := fun e => by
  obtain ⟨es, ⟨a, c, h1, _⟩, _⟩ := h.bm
  have := h.blk
  rw [e, h1] at this
  cases this
theorem KS.cf_below (h : KS w B r rf rb sig env) {w' : World} (hc : CF rb w w') : Below B w w' := by
  have hs := h.rb_lt
  have hb := h.hrb
  exact ⟨hc.os, hc.tape, hc.output, hc.size, fun k hk => hc.block k (by omega) (by omega) fun o => by have := (h.owned o).1; omega⟩
theorem FnV.below {w' : World} {v : Value} {f : Fn} (h : FnV w B v f) (hb : Below B w w') : FnV w' B v f := by
  obtain ⟨a, c, h1, h2, h3⟩ := h
  refine ⟨a, c, h1, h2, h3.mono (Nat.le_refl _) fun b o j hbB hj x hx => ⟨?_, (hj x hx).2⟩⟩
  rw [hb.cell (p := ⟨b, o, none⟩) hbB]
  exact (hj x hx).1
theorem FM.same {w' : World} (h : FM w B rf sig) (hb : Below B w w') (hf : w'.heap[rf]? = w.heap[rf]?) : FM w' B rf sig := by
  obtain ⟨es, h1, h2⟩ := h
  refine ⟨es, h1.same hf, fun k => (h2 k).imp id ?_⟩
  rintro ⟨f, v, e1, e2, e3⟩
  exact ⟨f, v, e1, e2, e3.below hb⟩
/-- Memory that only grows leaves a checker alone. -/
theorem KS.below {w' : World} {C : Nat} (h : KS w B r rf rb sig env) (hb : Below C w w') (hC : w.heap.size ≤ C) : KS w' B r rf rb sig env := by
  have h1 := h.r_lt
  have h2 := h.rf_lt
  have h3 := h.rb_lt
  have h4 := h.hrf
  refine ⟨h.hr, h.hrf, h.hrb, h.ne, by rw [hb.block r (by omega)]; exact h.blk, h.fm.same (hb.mono (by omega)) (hb.block rf (by omega)), ?_⟩
  have hO := fun g (o : OB w rb g) => (h.owned o).2.1
  obtain ⟨es, e1, e2, e3⟩ := h.bm
  refine ⟨es, e1.same (hb.block rb (by omega)), fun k => (e2 k).imp id ?_, e3⟩
  rintro ⟨v, f1, f2, f3⟩
  refine ⟨v, f1, ⟨f2.1, f2.2.imp id ?_⟩, f3⟩
  rintro ⟨g, cap, cur, rfl, g1, g2, g3⟩
  exact ⟨g, cap, cur, rfl, g1, by rw [hb.block g (by have := hO g ⟨es, k, _, e1, f1, rfl⟩; omega)]; exact g2, g3⟩
theorem KS.cells (h : KS w B r rf rb sig env) : w.cell? ⟨r, 0, none⟩ = some (.map (some rf)) ∧ w.cell? ⟨r, 1, none⟩ = some (.map (some rb)) := by
  obtain ⟨_, h2, _⟩ := Go.Proofs.YtiockiilenjjaaaDoor.blk h.blk
  exact ⟨h2 0 _ rfl, h2 1 _ rfl⟩
end
theorem umF : Tryd.prog.underlying 97 = some (.map 9 56) := by kernel_rfl
theorem umB : Tryd.prog.underlying 98 = some (.map 9 54) := by kernel_rfl
theorem ukS : Tryd.prog.underlying 9 = some .string := by kernel_rfl
def zeroFun : Value := .agg #[.string .empty, .slice none 0 0, .int .i64 0]
set_option maxRecDepth 100000 in
theorem zF (w : World) : (zeroValue 56).run Tryd.prog w = .ok zeroFun w := by unfold zeroFun; go_simp; rfl
set_option maxRecDepth 100000 in
theorem zB (w : World) : (zeroValue 54).run Tryd.prog w = .ok (.slice none 0 0) w := by go_simp
end Go.Proofs.YtiockiilenjjaaaDoor

/- The check's small functions: shapes. -/
namespace Go.Proofs.YtiockiilenjjaaaDoor
open Go Go.RowKit
theorem a2 {w : World} {b o : Nat} {v : Value} (hb : b < w.heap.size) (h : w.cell? ⟨b, o, none⟩ = some v) (x y : Obj) : ((w.alloc x).alloc y).cell? ⟨b, o, none⟩ = some v := by
  have h1 := (Below.refl w.heap.size w).alloc (Nat.le_refl _) x
  have h2 := h1.alloc (show w.heap.size ≤ (w.alloc x).heap.size by simp) y
  exact (h2.cell (p := ⟨b, o, none⟩) hb).trans h
theorem a1 {w : World} {b o : Nat} {v : Value} (hb : b < w.heap.size) (h : w.cell? ⟨b, o, none⟩ = some v) (x : Obj) : (w.alloc x).cell? ⟨b, o, none⟩ = some v := ((((Below.refl w.heap.size w).alloc (Nat.le_refl _) x)).cell (p := ⟨b, o, none⟩) hb).trans h
theorem opCount_15 : opCount 15 = 2 := rfl
set_option maxRecDepth 100000 in
set_option maxHeartbeats 4000000 in
theorem hasOperands_any {w : World} {b o n c : Nat} {a : Option Addr} {op h : Int} (hb : b < w.heap.size) (h0 : 0 < w.heap.size) (hR : RL w) (c0 : w.cell? ⟨b, o, none⟩ = some (.int .i64 op)) (c4 : w.cell? ⟨b, o + 4, none⟩ = some (.slice a n c)) (hop : 4 ≤ op ∧ op ≤ 16)
    (hh : n ≠ 0 → ∃ b' o', a = some ⟨b', o', none⟩ ∧ b' < w.heap.size ∧ w.cell? ⟨b', o', none⟩ = some (.int .i64 h)) (hnm : n ≤ 281474976710656) :
    Calls Tryd.prog 102 #[.agg #[.pointer (some ⟨b, o, none⟩)]] w (VPost (.bool (operandsB op n h)) w) := by
  obtain ⟨k, rfl⟩ : ∃ k : Nat, op = (k : Int) := ⟨op.toNat, by omega⟩
  have hk1 : 4 ≤ k := by omega
  have hk2 : k ≤ 16 := by omega
  have hki : (k : Int) < 17 := by omega
  unfold operandsB
  rw [show ((k : Int)).toNat = k from by omega]
  have r1 := (hR k hk1 hk2).2.1
  obtain ⟨W, eW, hbW, hsW, hcW, hhW⟩ := box_new w #[.pointer (some ⟨b, o, none⟩)] 159
  have q0 : W.cell? ⟨w.heap.size, 0, none⟩ = some (.pointer (some ⟨b, o, none⟩)) := hcW 0 _ rfl
  have d0 : W.cell? ⟨b, o, none⟩ = some (.int .i64 (k : Int)) := (hbW.cell (p := ⟨b, o, none⟩) hb).trans c0
  have d4 : W.cell? ⟨b, o + 4, none⟩ = some (.slice a n c) := (hbW.cell (p := ⟨b, o + 4, none⟩) hb).trans c4
  have d1 : W.cell? ⟨0, k * 4 + 1, none⟩ = some (.int .i64 (opCount k)) := (hbW.cell (p := ⟨0, k * 4 + 1, none⟩) h0).trans r1
  have HBW := hide hbW
  have HS := hide hsW
  have HH := hide hh
  clear r1 hR hbW hsW hcW hhW c0 c4 hop hh
  have h15 : (k = 15 → opCount k = 2) := fun e => by rw [e]; rfl
  have H15 := hide h15
  clear h15
  generalize hcnt : opCount k = cnt at *
  have HC := hide hcnt
  clear hcnt
  by_cases hm : cnt = -1
  · have e1 : (cnt != -1) = false := by simp [hm]
    have hk15 : ¬ k = 15 := fun e => by have := unhide H15 e; omega
    have e2 : ((k : Int) != 15) = true := by simp; omega
    have e3 : ((k : Int) == 15) = false := by simp; omega
    have HM := hide (And.intro hm (And.intro hk15 e3))
    clear hm hk15 e3
    go_enter Tryd.func102, Tryd.ntmps102
    go_wp2
    go_ret
    refine ⟨?_, unhide HBW⟩
    rw [(unhide HM).1, (unhide HM).2.2]
    rfl
  · have e1 : (cnt != -1) = true := by simp [hm]
    by_cases hn : cnt = (n : Int)
    · have e2 : (cnt != (n : Int)) = false := by simp [hn]
      by_cases hk15 : k = 15
      · have e3 : ((k : Int) != 15) = false := by simp; omega
        have hcn : cnt = 2 := unhide H15 hk15
        obtain ⟨b', o', rfl, hb', hc'⟩ := unhide HH (by omega)
        have d5 : W.cell? ⟨b', o', none⟩ = some (.int .i64 h) := ((unhide HBW).cell (p := ⟨b', o', none⟩) hb').trans hc'
        have hn0 : (0 : Int) < (n : Int) := by omega
        have hbW' : b' < W.heap.size := by have := unhide HS; omega
        have HV := hide (view_any b' o' h W d5 hbW')
        have HM := hide (And.intro hm (And.intro hn hk15))
        clear hm hn hk15 hcn hc' hb'
        go_enter Tryd.func102, Tryd.ntmps102
        go_wp2_with fail
        refine (unhide HV).mono ?_
        rintro e w2 ⟨rfl, hb2⟩
        have HB2 := hide hb2
        clear hb2
        by_cases h1 : h = 1
        · have hkk : kindOf h = 125 := by rw [h1]; rfl
          rw [hkk]
          have H1 := hide h1
          clear h1 hkk
          have ta0 := fun w => ta_yes (ty := 125) (v := .agg #[.pointer (some ⟨b', o', none⟩)]) (w := w) rfl rfl
          go_wp2
          go_ret
          refine ⟨?_, ((unhide HBW).trans ((unhide HB2).mono (unhide HBW).size)).alloc (by have := (unhide HBW).size; have := (unhide HB2).size; omega) _⟩
          rw [(unhide HM).2.2, unhide H1, (unhide HM).2.1]
          simp
        · have hkk : kindOf h ≠ 125 := by
            rcases op_kind (op := h) with ⟨h, e⟩ | ⟨h, e⟩ | ⟨h, e⟩ | ⟨h, e⟩ | ⟨h, e⟩ | ⟨h, e⟩ | ⟨h, e⟩ <;> first | exact absurd h h1 | (rw [e]; decide)
          generalize kindOf h = kk at *
          have H1 := hide h1
          clear h1
          have ta0 := fun w => ta_no (ty := 125) (v := .agg #[.pointer (some ⟨b', o', none⟩)]) (z := .agg #[.pointer none]) (w := w) hkk rfl rfl (by go_simp)
          go_wp2
          go_ret
          refine ⟨?_, ((unhide HBW).trans ((unhide HB2).mono (unhide HBW).size)).alloc (by have := (unhide HBW).size; have := (unhide HB2).size; omega) _⟩
          rw [(unhide HM).2.2, beq_eq_false_iff_ne.2 (unhide H1)]
          simp
      · have e3 : ((k : Int) != 15) = true := by simp; omega
        have e4 : ((k : Int) == 15) = false := by simp; omega
        have HM := hide (And.intro hm (And.intro hn e4))
        clear hm hn hk15 e4
        go_enter Tryd.func102, Tryd.ntmps102
        go_wp2
        go_ret
        refine ⟨?_, unhide HBW⟩
        rw [(unhide HM).2.1, (unhide HM).2.2]
        simp
    · have e2 : (cnt != (n : Int)) = true := by simp [hn]
      have HM := hide (And.intro hm hn)
      clear hm hn
      go_enter Tryd.func102, Tryd.ntmps102
      go_wp2
      go_ret
      refine ⟨?_, unhide HBW⟩
      rw [beq_eq_false_iff_ne.2 (unhide HM).1, beq_eq_false_iff_ne.2 (unhide HM).2]
      rfl
end Go.Proofs.YtiockiilenjjaaaDoor

/- Binders: words, of sorts, each once. -/
namespace Go.Proofs.YtiockiilenjjaaaDoor
open Go Go.RowKit
def seenL (l : List ByteArray) : List (ByteArray × Value) := l.foldl (fun es k => put k (.agg #[]) es) []
theorem seenL_snoc (l : List ByteArray) (k : ByteArray) : seenL (l ++ [k]) = put k (.agg #[]) (seenL l) := by simp [seenL]
theorem memB_snoc (k j : ByteArray) (l : List ByteArray) : memB k (l ++ [j]) = (memB k l || decide (j = k)) := by simp [memB]
theorem snoc_ind {α : Type} {p : List α → Prop} (h0 : p []) (h1 : ∀ l a, p l → p (l ++ [a])) (l : List α) : p l := by
  have : ∀ m : List α, p m.reverse := by
    intro m
    induction m with
    | nil => exact h0
    | cons a m ih => rw [List.reverse_cons]; exact h1 _ _ ih
  have h := this l.reverse
  rwa [List.reverse_reverse] at h
theorem seenL_look (k : ByteArray) (l : List ByteArray) : (look k (seenL l)).isSome = memB k l := by
  refine snoc_ind (p := fun l => (look k (seenL l)).isSome = memB k l) rfl (fun l a ih => ?_) l
  rw [seenL_snoc, look_put, memB_snoc]
  by_cases h : k = a
  · simp [h]
  · have : ¬ a = k := fun e => h e.symm
    rw [if_neg h, ih]
    simp [this]
theorem distinct_snoc (l : List ByteArray) (k : ByteArray) : distinct (l ++ [k]) = (distinct l && !memB k l) := by
  induction l with
  | nil => rfl
  | cons a l ih =>
    show (!memB a (l ++ [k]) && distinct (l ++ [k])) = ((!memB a l && distinct l) && !memB k (a :: l))
    rw [ih, memB_snoc]
    have e : memB k (a :: l) = (decide (a = k) || memB k l) := rfl
    rw [e]
    have hs : decide (k = a) = decide (a = k) := by
      by_cases h : k = a
      · simp [h]
      · have : ¬ a = k := fun e => h e.symm
        simp [h, this]
    rw [hs]
    cases memB a l <;> cases distinct l <;> cases memB k l <;> cases decide (a = k) <;> rfl
theorem seenL_len (l : List ByteArray) : (seenL l).length ≤ l.length ∧ ((seenL l).length = l.length ↔ distinct l = true) := by
  refine snoc_ind (p := fun l => (seenL l).length ≤ l.length ∧ ((seenL l).length = l.length ↔ distinct l = true)) ⟨Nat.le_refl _, by simp [seenL, distinct]⟩ (fun l a ih => ?_) l
  rw [seenL_snoc, put_len, distinct_snoc, List.length_append]
  have hl := seenL_look a l
  cases hm : memB a l with
  | true =>
    rw [hm] at hl
    have hn : ¬ look a (seenL l) = none := fun e => by rw [e] at hl; cases hl
    rw [if_neg hn]
    refine ⟨by simp; omega, ?_⟩
    simp
    omega
  | false =>
    rw [hm] at hl
    have hn : look a (seenL l) = none := by
      cases h : look a (seenL l) with
      | none => rfl
      | some v => rw [h] at hl; cases hl
    rw [if_pos hn]
    refine ⟨by simp; omega, ?_⟩
    have := ih.2
    simp
    exact this
theorem bindersB_take {l : List (ByteArray × Int)} {i : Nat} (h : i < l.length) : ((l.take (i + 1)).all fun v => wordB v.1 && sortB v.2) = (((l.take i).all fun v => wordB v.1 && sortB v.2) && (wordB l[i].1 && sortB l[i].2)) := by
  rw [take_more h, List.all_append]
  simp
theorem bindersB_no {l : List (ByteArray × Int)} {i : Nat} (h : i < l.length) (hn : (wordB l[i].1 && sortB l[i].2) = false) : bindersB l = false := by
  unfold bindersB
  have : (l.all fun v => wordB v.1 && sortB v.2) = false := by
    rw [List.all_eq_false]
    exact ⟨l[i], List.getElem_mem h, by rw [hn]; decide⟩
  rw [this]
  rfl
theorem umU : Tryd.prog.underlying 205 = some (.map 9 179) := by kernel_rfl
def EP (w : World) (B : Nat) (x : List (ByteArray × Int)) (b o j : Nat) : Prop := ∀ u, x[j]? = some u → w.rangeAt b o [.string u.1, .int .i64 u.2] ∧ fits u.2
set_option maxRecDepth 1000000 in
set_option maxHeartbeats 16000000 in
theorem areBinders_any (B : Nat) (w : World) (a : Option Addr) (n c : Nat) (x : List (ByteArray × Int)) (hx : Row B a n c 2 (BR w x)) (hn : n = x.length) (hB : B ≤ w.heap.size) (hs : ∀ v ∈ x, v.1.size ≤ 9223372036854775807) :
    Calls Tryd.prog 103 #[.slice a n c] w (VPost (.bool (bindersB x)) w) := by
  have HX := hide hx
  have HN := hide hn
  have HSz := hide hs
  have hmax : n ≤ 281474976710656 := by have := hx.1; have := hx.2.1; omega
  clear hx hn hs
  have km : (Instr.makeMap 205 none).run Tryd.prog w = .ok (.map (some w.heap.size)) (w.alloc (.map #[] 0)) := rfl
  go_enter Tryd.func103, Tryd.ntmps103
  go_wp2
  go_loopw [9] (fun iv wr => ∃ i : Nat, i ≤ n ∧ iv = .int .i64 (i : Int) ∧ ((x.take i).all fun v => wordB v.1 && sortB v.2) = true ∧ NM wr w.heap.size (seenL ((x.take i).map (·.1))) ∧ Below w.heap.size w wr) (fun iv _ => (n - (intOf iv).toNat))
  case atStart => exact ⟨0, Nat.zero_le _, rfl, rfl, NM.new w, (Below.refl _ w).alloc (Nat.le_refl _) _⟩
  case round =>
    obtain ⟨i, hi, rfl, hok, hNM, hbel⟩ := hrel
    by_cases hlt : i < n
    · have h1 : i < x.length := by have := unhide HN; omega
      have hd1 : decide ((i : Int) < (n : Int)) = true := by simp; omega
      have hXi : (i : Int) < (n : Int) := by omega
      have hcap : (i : Int) < 281474976710656 := by omega
      obtain ⟨bv, ov, rfl, hbvB, hj⟩ := (unhide HX).2.2 (by omega)
      obtain ⟨rg, hfit⟩ := hj i (by omega) _ (List.getElem?_eq_getElem h1)
      have hsz := unhide HSz _ (List.getElem_mem h1)
      have htk := bindersB_take h1
      have hno := bindersB_no h1
      have hmap : (x.take (i + 1)).map (·.1) = (x.take i).map (·.1) ++ [x[i].1] := by rw [take_more h1, List.map_append]; rfl
      generalize hu : x[i] = u at *
      obtain ⟨u1, u2⟩ := u
      have hbvw : bv < w.heap.size := by omega
      have p0 : wr.cell? ⟨bv, ov + i * 2, none⟩ = some (.string u1) := (hbel.cell (p := ⟨bv, ov + i * 2, none⟩) hbvw).trans (rg 0 _ rfl)
      have p1 : wr.cell? ⟨bv, ov + i * 2 + 1, none⟩ = some (.int .i64 u2) := (hbel.cell (p := ⟨bv, ov + i * 2 + 1, none⟩) hbvw).trans (rg 1 _ rfl)
      have hbv : bv < wr.heap.size := by have := hbel.size; omega
      obtain ⟨V, eV, hbV, hsV, hcV, hhV⟩ := box_new wr #[.string u1, .int .i64 u2] 45
      have v0 : V.cell? ⟨wr.heap.size, 0, none⟩ = some (.string u1) := hcV 0 _ rfl
      have v1 : V.cell? ⟨wr.heap.size, 1, none⟩ = some (.int .i64 u2) := hcV 1 _ rfl
      have hmlt : w.heap.size < wr.heap.size := hNM.lt
      have HM := hide (And.intro hok (And.intro htk (And.intro hno hmap)))
      have HW := hide (isWord_b u1 V hsz)
      have HI := hide (And.intro hbel (And.intro hbV (And.intro hhV hNM)))
      have HSV := hide hsV
      clear hj rg hfit hu hok htk hno hmap hbel hbV hhV hcV hNM hsV
      cases hw1 : wordB u1 with
      | false =>
        rw [hw1] at HW
        have HW1 := hide hw1
        clear hw1
        go_wp2_with fail
        refine (unhide HW).mono ?_
        rintro e w3 ⟨rfl, hb3⟩
        have H3 := hide hb3
        clear hb3
        go_wp2
        go_ret
        obtain ⟨hok, htk, hno, _⟩ := unhide HM
        obtain ⟨hbel, hbV, _, _⟩ := unhide HI
        refine ⟨?_, (hbel.trans (hbV.mono (by omega))).trans ((unhide H3).mono (by have := unhide HSV; omega))⟩
        rw [hno (by rw [unhide HW1]; rfl)]
        rfl
      | true =>
        rw [hw1] at HW
        have HW1 := hide hw1
        clear hw1
        go_wp2_with fail
        refine (unhide HW).mono ?_
        rintro e w3 ⟨rfl, hb3⟩
        obtain ⟨hbel, hbV, hhV, hNM⟩ := unhide HI
        have hh3 := (hb3.block wr.heap.size (by have := unhide HSV; omega)).trans hhV
        have g0 : w3.cell? ⟨wr.heap.size, 0, none⟩ = some (.string u1) := (blk hh3).2.1 0 _ rfl
        have g1 : w3.cell? ⟨wr.heap.size, 1, none⟩ = some (.int .i64 u2) := (blk hh3).2.1 1 _ rfl
        have hb03 : Below w.heap.size w w3 := (hbel.trans (hbV.mono (by omega))).trans (hb3.mono (by have := unhide HSV; omega))
        have hNM3 : NM w3 w.heap.size (seenL ((x.take i).map (·.1))) := (hNM.below hbV hmlt).below hb3 (by have := unhide HSV; omega)
        obtain ⟨w4, hrun, hput, hNM4⟩ := nm_update (P := Tryd.prog) (k := u1) (v := .agg #[]) umU ukS hNM3
        have HS2 := hide (isSort_any u2 w3)
        have H3 := hide (And.intro hb03 (And.intro hput hNM4))
        clear hb3 hbel hbV hhV hNM hh3 hb03 hNM3 hput hNM4
        cases hs1 : sortB u2 with
        | false =>
          have HS1 := hide hs1
          unfold sortB at hs1
          rw [hs1] at HS2
          clear hs1 hrun
          go_wp2_with fail
          refine (unhide HS2).mono ?_
          rintro e w' ⟨rfl, rfl⟩
          go_wp2
          go_ret
          obtain ⟨hok, htk, hno, _⟩ := unhide HM
          refine ⟨?_, (unhide H3).1⟩
          rw [hno (by rw [unhide HW1, unhide HS1]; rfl)]
          rfl
        | true =>
          have HS1 := hide hs1
          unfold sortB at hs1
          rw [hs1] at HS2
          clear hs1
          go_wp2_with fail
          refine (unhide HS2).mono ?_
          rintro e w' ⟨rfl, rfl⟩
          go_wp2
          obtain ⟨hok, htk, hno, hmap⟩ := unhide HM
          obtain ⟨hb03, hput, hNM4⟩ := unhide H3
          refine ⟨⟨i + 1, by omega, rfl, ?_, ?_, hput.below hb03 (Nat.le_refl _)⟩, by simp only [intOf]; omega⟩
          · rw [htk, hok, unhide HW1, unhide HS1]; rfl
          · rw [hmap, seenL_snoc]; exact hNM4
    · have hin : i = n := by omega
      have hd1 : decide ((i : Int) < (n : Int)) = false := by simp; omega
      have htake : x.take i = x := List.take_of_length_le (by have := unhide HN; omega)
      rw [htake] at hok hNM
      have hlen := nm_len (P := Tryd.prog) (ty := 3) umU hNM
      have hsl := seenL_len (x.map (·.1))
      have HB := hide hbel
      have HSl := hide (And.intro hok hsl)
      clear htake hNM hbel hok hsl
      generalize hm : (seenL (x.map (·.1))).length = m at *
      have HMm := hide hm
      clear hm
      by_cases hn0 : n = 0
      · have hN0 : decide (0 < n) = false := by simp [hn0]
        have H0 := hide hn0
        clear hn0
        go_wp2
        go_ret
        refine ⟨?_, unhide HB⟩
        have : x.length = 0 := by have := unhide HN; have := unhide H0; omega
        unfold bindersB
        rw [this]
        simp
      · have hposN : 0 < n := by omega
        have H0 := hide hn0
        clear hn0
        cases hq : ((m : Int) == (n : Int)) with
        | true =>
          have HQ := hide hq
          clear hq
          have hq2 : ((m : Int) == (n : Int)) = true := unhide HQ
          go_wp2
          go_ret
          refine ⟨?_, unhide HB⟩
          have e : m = n := by have := unhide HQ; simp at this; omega
          obtain ⟨hok, _, hiff⟩ := unhide HSl
          have hd : distinct (x.map (·.1)) = true := hiff.1 (by rw [List.length_map, ← unhide HN]; exact e)
          unfold bindersB
          rw [hok, hd, beq_eq_false_iff_ne.2 (show x.length ≠ 0 by have := unhide HN; omega)]
          rfl
        | false =>
          have HQ := hide hq
          clear hq
          have hq2 : ((m : Int) == (n : Int)) = false := unhide HQ
          go_wp2
          go_ret
          refine ⟨?_, unhide HB⟩
          have e : ¬ m = n := fun e => by have := unhide HQ; rw [e] at this; simp at this
          obtain ⟨hok, _, hiff⟩ := unhide HSl
          have hd : distinct (x.map (·.1)) = false := by
            cases h : distinct (x.map (·.1)) with
            | false => rfl
            | true => exact absurd (by have := hiff.2 h; rw [List.length_map, ← unhide HN] at this; exact this) e
          unfold bindersB
          rw [hok, hd]
          simp
end Go.Proofs.YtiockiilenjjaaaDoor

/- Shapes. -/
namespace Go.Proofs.YtiockiilenjjaaaDoor
open Go Go.RowKit
/-- What package num says of a text: whether it is a number's. -/
def PC (rt : ByteArray → Bool) (s : ByteArray) : Prop := ∀ w : World, Calls Tryd.prog 101 #[.string s] w fun e w' => ∃ (z : Int) (q : Option Addr) (m c : Nat), e = .returned (.tuple #[.agg #[.int .i64 z, .slice q m c], .bool (rt s)]) ∧ Below w.heap.size w w'
theorem beq0 (n : Nat) : (((n : Int)) == 0) = (n == 0) := by
  by_cases h : n = 0
  · simp [h]
  · rw [beq_eq_false_iff_ne.2 h, beq_eq_false_iff_ne.2 (by omega)]
theorem beq1 (n : Nat) : (((n : Int)) == 1) = (n == 1) := by
  by_cases h : n = 1
  · simp [h]
  · rw [beq_eq_false_iff_ne.2 h, beq_eq_false_iff_ne.2 (by omega)]
set_option maxRecDepth 1000000 in
set_option maxHeartbeats 16000000 in
theorem shape_num {w : World} {b o n c : Nat} {a : Option Addr} {num : ByteArray} {rt : ByteArray → Bool} (hb : b < w.heap.size) (c3 : w.cell? ⟨b, o + 3, none⟩ = some (.string num)) (c4 : w.cell? ⟨b, o + 4, none⟩ = some (.slice a n c)) (hP : PC rt num) :
    Calls Tryd.prog 81 #[.iface 125 (.agg #[.pointer (some ⟨b, o, none⟩)])] w (VPost (.bool (rt num && n == 0)) w) := by
  have ta0 := fun w => ta_yes (ty := 125) (v := .agg #[.pointer (some ⟨b, o, none⟩)]) (w := w) rfl rfl
  obtain ⟨V, eV, hbV, hsV, hcV, hhV⟩ := box_new w #[.pointer (some ⟨b, o, none⟩)] 125
  have v0 : V.cell? ⟨w.heap.size, 0, none⟩ = some (.pointer (some ⟨b, o, none⟩)) := hcV 0 _ rfl
  have d3 : V.cell? ⟨b, o + 3, none⟩ = some (.string num) := (hbV.cell (p := ⟨b, o + 3, none⟩) hb).trans c3
  have HP := hide (hP V)
  have HV := hide (And.intro hbV (And.intro hhV (And.intro c4 hsV)))
  clear hcV hbV hhV hP c3 c4 hsV
  go_enter Tryd.func81, Tryd.ntmps81
  go_wp2_with fail
  refine (unhide HP).mono ?_
  rintro e w2 ⟨z, q, m, cq, rfl, hb2⟩
  obtain ⟨hbV, hhV, c4, hsV⟩ := unhide HV
  have hb02 : Below w.heap.size w w2 := hbV.trans (hb2.mono hbV.size)
  have hh2 := (hb2.block w.heap.size (by omega)).trans hhV
  have g0 : w2.cell? ⟨w.heap.size, 0, none⟩ = some (.pointer (some ⟨b, o, none⟩)) := (blk hh2).2.1 0 _ rfl
  have d4 : w2.cell? ⟨b, o + 4, none⟩ = some (.slice a n c) := (hb02.cell (p := ⟨b, o + 4, none⟩) hb).trans c4
  have hlt2 : w.heap.size < w2.heap.size := (blk hh2).1
  have hb2' : b < w2.heap.size := by omega
  have HB := hide hb02
  have hq0 := beq0 n
  clear hb2 hbV hhV c4 hsV hb02 hh2 eV v0 d3
  cases hr : rt num with
  | true =>
    have HR := hide hr
    clear hr
    go_wp2
    go_ret
    exact ⟨by rw [unhide HR]; rfl, (unhide HB).alloc (unhide HB).size _⟩
  | false =>
    have HR := hide hr
    clear hr
    go_wp2
    go_ret
    exact ⟨by rw [unhide HR]; rfl, (unhide HB).alloc (unhide HB).size _⟩
set_option maxRecDepth 1000000 in
set_option maxHeartbeats 16000000 in
theorem shape_truth {w : World} {b o n c : Nat} {a : Option Addr} (hb : b < w.heap.size) (c4 : w.cell? ⟨b, o + 4, none⟩ = some (.slice a n c)) :
    Calls Tryd.prog 81 #[.iface 158 (.agg #[.pointer (some ⟨b, o, none⟩)])] w (VPost (.bool (n == 0)) w) := by
  have ta0 := fun w => ta_no (k := 158) (ty := 125) (v := .agg #[.pointer (some ⟨b, o, none⟩)]) (z := .agg #[.pointer none]) (w := w) (by decide) rfl rfl (by go_simp)
  have ta1 := fun w => ta_yes (ty := 158) (v := .agg #[.pointer (some ⟨b, o, none⟩)]) (w := w) rfl rfl
  have hq0 := beq0 n
  go_enter Tryd.func81, Tryd.ntmps81
  go_wp2
  go_ret
  exact ⟨rfl, ((Below.refl _ w).alloc (Nat.le_refl _) _).alloc (by simp) _⟩
set_option maxRecDepth 1000000 in
set_option maxHeartbeats 16000000 in
theorem shape_operation {w : World} {b o n c : Nat} {a : Option Addr} {op h : Int} (hb : b < w.heap.size) (h0 : 0 < w.heap.size) (hR : RL w) (c0 : w.cell? ⟨b, o, none⟩ = some (.int .i64 op)) (c4 : w.cell? ⟨b, o + 4, none⟩ = some (.slice a n c)) (hop : 4 ≤ op ∧ op ≤ 16)
    (hh : n ≠ 0 → ∃ b' o', a = some ⟨b', o', none⟩ ∧ b' < w.heap.size ∧ w.cell? ⟨b', o', none⟩ = some (.int .i64 h)) (hnm : n ≤ 281474976710656) :
    Calls Tryd.prog 81 #[.iface 159 (.agg #[.pointer (some ⟨b, o, none⟩)])] w (VPost (.bool (operandsB op n h)) w) := by
  have ta0 := fun w => ta_no (k := 159) (ty := 125) (v := .agg #[.pointer (some ⟨b, o, none⟩)]) (z := .agg #[.pointer none]) (w := w) (by decide) rfl rfl (by go_simp)
  have ta1 := fun w => ta_no (k := 159) (ty := 158) (v := .agg #[.pointer (some ⟨b, o, none⟩)]) (z := .agg #[.pointer none]) (w := w) (by decide) rfl rfl (by go_simp)
  have ta2 := fun w => ta_yes (ty := 159) (v := .agg #[.pointer (some ⟨b, o, none⟩)]) (w := w) rfl rfl
  have HH := hide (fun (W : World) (hW : Below w.heap.size w W) => hasOperands_any (w := W) (h := h) (Nat.lt_of_lt_of_le hb hW.size) (Nat.lt_of_lt_of_le h0 hW.size) (hR.below hW h0) ((hW.cell (p := ⟨b, o, none⟩) hb).trans c0) ((hW.cell (p := ⟨b, o + 4, none⟩) hb).trans c4) hop (fun hn => by
    obtain ⟨b', o', e1, e2, e3⟩ := hh hn
    exact ⟨b', o', e1, Nat.lt_of_lt_of_le e2 hW.size, (hW.cell (p := ⟨b', o', none⟩) e2).trans e3⟩) hnm)
  clear hR c0 c4 hop hh hnm
  go_enter Tryd.func81, Tryd.ntmps81
  go_wp2_with fail
  refine (unhide HH _ (three (Below.refl _ w) (Nat.le_refl _) _ _ _)).mono ?_
  rintro e w2 ⟨rfl, hb2⟩
  have HB := hide (show Below w.heap.size w w2 from (three (Below.refl _ w) (Nat.le_refl _) _ _ _).trans (hb2.mono (by simp; omega)))
  clear hb2
  go_wp2
  go_ret
  exact ⟨rfl, unhide HB⟩
set_option maxRecDepth 1000000 in
set_option maxHeartbeats 16000000 in
theorem shape_variable {w : World} {b o n c : Nat} {a : Option Addr} {name : ByteArray} (hb : b < w.heap.size) (c1 : w.cell? ⟨b, o + 1, none⟩ = some (.string name)) (c4 : w.cell? ⟨b, o + 4, none⟩ = some (.slice a n c)) (hs : name.size ≤ 9223372036854775807) :
    Calls Tryd.prog 81 #[.iface 109 (.agg #[.pointer (some ⟨b, o, none⟩)])] w (VPost (.bool (wordB name && n == 0)) w) := by
  have ta0 := fun w => ta_no (k := 109) (ty := 125) (v := .agg #[.pointer (some ⟨b, o, none⟩)]) (z := .agg #[.pointer none]) (w := w) (by decide) rfl rfl (by go_simp)
  have ta1 := fun w => ta_no (k := 109) (ty := 158) (v := .agg #[.pointer (some ⟨b, o, none⟩)]) (z := .agg #[.pointer none]) (w := w) (by decide) rfl rfl (by go_simp)
  have ta2 := fun w => ta_no (k := 109) (ty := 159) (v := .agg #[.pointer (some ⟨b, o, none⟩)]) (z := .agg #[.pointer none]) (w := w) (by decide) rfl rfl (by go_simp)
  have ta3 := fun w => ta_yes (ty := 109) (v := .agg #[.pointer (some ⟨b, o, none⟩)]) (w := w) rfl rfl
  have e1 := a4 hb c1
  have HW := hide (fun W : World => isWord_b name W hs)
  have H4 := hide (fun (W : World) (hW : Below w.heap.size w W) => (hW.cell (p := ⟨b, o + 4, none⟩) hb).trans c4)
  have hq0 := beq0 n
  clear c4 hs c1
  go_enter Tryd.func81, Tryd.ntmps81
  go_wp2_with fail
  obtain ⟨V, eV, hbV, hqV, hsV⟩ : ∃ V, ((((w.alloc (.cells #[.pointer none] 125)).alloc (.cells #[.pointer none] 158)).alloc (.cells #[.pointer none] 159)).alloc (.cells #[.pointer (some ⟨b, o, none⟩)] 109)) = V ∧ Below w.heap.size w V ∧ V.heap[w.heap.size + 1 + 1 + 1]? = some (.cells #[.pointer (some ⟨b, o, none⟩)] 109) ∧ V.heap.size = w.heap.size + 4 := by
    refine ⟨_, rfl, four (Below.refl _ w) (Nat.le_refl _) _ _ _ _, ?_, by simp⟩
    have h := fun o1 o2 o3 : Obj => new_block (((w.alloc o1).alloc o2).alloc o3) #[.pointer (some ⟨b, o, none⟩)] 109
    simp only [asize] at h
    exact h _ _ _
  rw [eV]
  refine (unhide HW V).mono ?_
  rintro e w2 ⟨rfl, hb2⟩
  have hb02 : Below w.heap.size w w2 := hbV.trans (hb2.mono hbV.size)
  have d4 := unhide H4 w2 hb02
  have g0 : w2.cell? ⟨w.heap.size + 1 + 1 + 1, 0, none⟩ = some (.pointer (some ⟨b, o, none⟩)) := (blk ((hb2.block _ (by omega)).trans hqV)).2.1 0 _ rfl
  have HB := hide hb02
  clear eV hbV hqV hsV hb2 hb02 e1
  cases hw1 : wordB name with
  | true =>
    have HR := hide hw1
    clear hw1
    go_wp2
    go_ret
    exact ⟨by rw [unhide HR]; rfl, unhide HB⟩
  | false =>
    have HR := hide hw1
    clear hw1
    go_wp2
    go_ret
    exact ⟨by rw [unhide HR]; rfl, unhide HB⟩
theorem five {w w2 : World} {q : Nat} (h : Below q w w2) (hq : q ≤ w2.heap.size) (a b c d e : Obj) : Below q w (((((w2.alloc a).alloc b).alloc c).alloc d).alloc e) :=
  (four h hq a b c d).alloc (by simp; omega) e
theorem a5 {w : World} {b o : Nat} {v : Value} (hb : b < w.heap.size) (h : w.cell? ⟨b, o, none⟩ = some v) (x y z u s : Obj) : (((((w.alloc x).alloc y).alloc z).alloc u).alloc s).cell? ⟨b, o, none⟩ = some v := ((five (Below.refl _ w) (Nat.le_refl _) x y z u s).cell (p := ⟨b, o, none⟩) hb).trans h
set_option maxRecDepth 1000000 in
set_option maxHeartbeats 16000000 in
theorem shape_all {w : World} {b o n c np cP nv cV : Nat} {a aP aV : Option Addr} {vars : List (ByteArray × Int)} (hb : b < w.heap.size) (c4 : w.cell? ⟨b, o + 4, none⟩ = some (.slice a n c)) (c5 : w.cell? ⟨b, o + 5, none⟩ = some (.slice aV nv cV)) (c6 : w.cell? ⟨b, o + 6, none⟩ = some (.slice aP np cP))
    (hV : ∀ W, Below w.heap.size w W → Calls Tryd.prog 103 #[.slice aV nv cV] W (VPost (.bool (bindersB vars)) W)) :
    Calls Tryd.prog 81 #[.iface 112 (.agg #[.pointer (some ⟨b, o, none⟩)])] w (VPost (.bool ((n == 1 && decide (0 < np)) && bindersB vars)) w) := by
  have ta0 := fun w => ta_no (k := 112) (ty := 125) (v := .agg #[.pointer (some ⟨b, o, none⟩)]) (z := .agg #[.pointer none]) (w := w) (by decide) rfl rfl (by go_simp)
  have ta1 := fun w => ta_no (k := 112) (ty := 158) (v := .agg #[.pointer (some ⟨b, o, none⟩)]) (z := .agg #[.pointer none]) (w := w) (by decide) rfl rfl (by go_simp)
  have ta2 := fun w => ta_no (k := 112) (ty := 159) (v := .agg #[.pointer (some ⟨b, o, none⟩)]) (z := .agg #[.pointer none]) (w := w) (by decide) rfl rfl (by go_simp)
  have ta3 := fun w => ta_no (k := 112) (ty := 109) (v := .agg #[.pointer (some ⟨b, o, none⟩)]) (z := .agg #[.pointer none]) (w := w) (by decide) rfl rfl (by go_simp)
  have ta4 := fun w => ta_yes (ty := 112) (v := .agg #[.pointer (some ⟨b, o, none⟩)]) (w := w) rfl rfl
  have e4 := a5 hb c4
  have e5 := a5 hb c5
  have e6 := a5 hb c6
  have HV := hide hV
  clear hV c4 c5 c6
  have hq1 := beq1 n
  cases h1 : (n == 1) with
  | false =>
    rw [h1] at hq1
    clear h1
    go_enter Tryd.func81, Tryd.ntmps81
    go_wp2
    go_ret
    exact ⟨rfl, five (Below.refl _ w) (Nat.le_refl _) _ _ _ _ _⟩
  | true =>
    rw [h1] at hq1
    clear h1
    cases h2 : decide (0 < np) with
    | false =>
      have H2 := hide h2
      go_enter Tryd.func81, Tryd.ntmps81
      go_wp2
      go_ret
      exact ⟨rfl, five (Below.refl _ w) (Nat.le_refl _) _ _ _ _ _⟩
    | true =>
      have hposN : 0 < np := by simpa using h2
      clear h2
      go_enter Tryd.func81, Tryd.ntmps81
      go_wp2_with fail
      refine (unhide HV _ (five (Below.refl _ w) (Nat.le_refl _) _ _ _ _ _)).mono ?_
      rintro e w2 ⟨rfl, hb2⟩
      have HB := hide (show Below w.heap.size w w2 from (five (Below.refl _ w) (Nat.le_refl _) _ _ _ _ _).trans (hb2.mono (by simp; omega)))
      clear hb2 e4 e5 e6
      go_wp2
      go_ret
      exact ⟨rfl, unhide HB⟩
set_option maxRecDepth 1000000 in
set_option maxHeartbeats 16000000 in
theorem shape_stranger {w : World} {b o : Nat} : Calls Tryd.prog 81 #[.iface 161 (.agg #[.pointer (some ⟨b, o, none⟩)])] w (VPost (.bool false) w) := by
  have ta0 := fun w => ta_no (k := 161) (ty := 125) (v := .agg #[.pointer (some ⟨b, o, none⟩)]) (z := .agg #[.pointer none]) (w := w) (by decide) rfl rfl (by go_simp)
  have ta1 := fun w => ta_no (k := 161) (ty := 158) (v := .agg #[.pointer (some ⟨b, o, none⟩)]) (z := .agg #[.pointer none]) (w := w) (by decide) rfl rfl (by go_simp)
  have ta2 := fun w => ta_no (k := 161) (ty := 159) (v := .agg #[.pointer (some ⟨b, o, none⟩)]) (z := .agg #[.pointer none]) (w := w) (by decide) rfl rfl (by go_simp)
  have ta3 := fun w => ta_no (k := 161) (ty := 109) (v := .agg #[.pointer (some ⟨b, o, none⟩)]) (z := .agg #[.pointer none]) (w := w) (by decide) rfl rfl (by go_simp)
  have ta4 := fun w => ta_no (k := 161) (ty := 112) (v := .agg #[.pointer (some ⟨b, o, none⟩)]) (z := .agg #[.pointer none]) (w := w) (by decide) rfl rfl (by go_simp)
  go_enter Tryd.func81, Tryd.ntmps81
  go_wp2
  go_ret
  exact ⟨rfl, five (Below.refl _ w) (Nat.le_refl _) _ _ _ _ _⟩
end Go.Proofs.YtiockiilenjjaaaDoor

/- The shape of an application; of any node. -/
namespace Go.Proofs.YtiockiilenjjaaaDoor
open Go Go.RowKit
/-- What the map of functions answers. -/
def funV (w : World) (B : Nat) (sig : List Fn) (name : ByteArray) (v : Value) : Prop := (findF name sig = none ∧ v = zeroFun) ∨ ∃ f, findF name sig = some f ∧ FnV w B v f
theorem FM.asked {w : World} {B rf : Nat} {sig : List Fn} (h : FM w B rf sig) (name : ByteArray) : ∃ v, funV w B sig name v ∧ (Instr.lookup 97 (.map (some rf)) (.string name) true).run Tryd.prog w = .ok (.tuple #[v, .bool (findF name sig).isSome]) w ∧ (Instr.lookup 97 (.map (some rf)) (.string name) false).run Tryd.prog w = .ok v w := by
  obtain ⟨es, h1, h2⟩ := h
  have hl := nm_lookup (k := name) umF ukS (zF w) h1
  rcases h2 name with ⟨e1, e2⟩ | ⟨f, v, e1, e2, e3⟩
  · rw [e2] at hl
    exact ⟨zeroFun, .inl ⟨e1, rfl⟩, by rw [e1]; exact hl.1, hl.2⟩
  · rw [e2] at hl
    exact ⟨v, .inr ⟨f, e1, e3⟩, by rw [e1]; exact hl.1, hl.2⟩
theorem funV.form {w : World} {B : Nat} {sig : List Fn} {name : ByteArray} {v : Value} (h : funV w B sig name v) : ∃ fn fa fl fc fo, v = .agg #[.string fn, .slice fa fl fc, .int .i64 fo] ∧ ∀ f, findF name sig = some f → fl = f.args.length := by
  rcases h with ⟨e1, rfl⟩ | ⟨f, e1, a, c, rfl, _, _⟩
  · exact ⟨_, _, _, _, _, rfl, fun f e => by rw [e1] at e; cases e⟩
  · exact ⟨_, _, _, _, _, rfl, fun g e => by rw [e1] at e; cases e; rfl⟩
set_option maxRecDepth 1000000 in
set_option maxHeartbeats 16000000 in
theorem appShape_any {w : World} {B r rf rb b o n c : Nat} {a : Option Addr} {name : ByteArray} {sig : List Fn} {env : ByteArray → List Int} (hK : KS w B r rf rb sig env) (hb : b < w.heap.size) (c1 : w.cell? ⟨b, o + 1, none⟩ = some (.string name)) (c4 : w.cell? ⟨b, o + 4, none⟩ = some (.slice a n c)) (hs : name.size ≤ 9223372036854775807) :
    Calls Tryd.prog 80 #[.pointer (some ⟨r, 0, none⟩), .agg #[.pointer (some ⟨b, o, none⟩)]] w (VPost (.int .i64 (appE sig name n)) w) := by
  have HK := hide hK
  have hrw := hK.r_lt
  obtain ⟨V, eV, hbV, hsV, hcV, hhV⟩ := box_new w #[.pointer (some ⟨b, o, none⟩)] 160
  have v0 : V.cell? ⟨w.heap.size, 0, none⟩ = some (.pointer (some ⟨b, o, none⟩)) := hcV 0 _ rfl
  have d1 : V.cell? ⟨b, o + 1, none⟩ = some (.string name) := (hbV.cell (p := ⟨b, o + 1, none⟩) hb).trans c1
  have HW := hide (isWord_b name V hs)
  have HV := hide (And.intro hbV (And.intro hhV (And.intro c1 (And.intro c4 hsV))))
  clear hcV hbV hhV hsV c1 c4 hs hK
  cases hw1 : wordB name with
  | false =>
    have HR := hide hw1
    rw [hw1] at HW
    clear hw1
    go_enter Tryd.func80, Tryd.ntmps80
    go_wp2_with fail
    refine (unhide HW).mono ?_
    rintro e w2 ⟨rfl, hb2⟩
    have HB := hide (show Below w.heap.size w w2 from (unhide HV).1.trans (hb2.mono (unhide HV).1.size))
    clear hb2
    go_wp2
    go_ret
    refine ⟨?_, unhide HB⟩
    unfold appE
    rw [unhide HR]
    rfl
  | true =>
    have HR := hide hw1
    rw [hw1] at HW
    clear hw1
    go_enter Tryd.func80, Tryd.ntmps80
    go_wp2_with fail
    refine (unhide HW).mono ?_
    rintro e W ⟨rfl, hb2⟩
    obtain ⟨hbV, hhV, c1, c4, hsV⟩ := unhide HV
    have hbW : Below w.heap.size w W := hbV.trans (hb2.mono hbV.size)
    have hhW := (hb2.block w.heap.size (by omega)).trans hhV
    have hKW : KS W B r rf rb sig env := (unhide HK).below hbW (Nat.le_refl _)
    have hqlt : w.heap.size < W.heap.size := (blk hhW).1
    obtain ⟨v, hv, hlk, _⟩ := hKW.fm.asked name
    obtain ⟨fn, fa, fl, fc, fo, rfl, hfl⟩ := hv.form
    have HSS : Hid (∀ w', Below W.heap.size W w' → (Below W.heap.size W w' ∧ w'.cell? ⟨r, 0, none⟩ = some (.map (some rf)) ∧ w'.cell? ⟨w.heap.size, 0, none⟩ = some (.pointer (some ⟨b, o, none⟩)) ∧ w'.cell? ⟨b, o + 1, none⟩ = some (.string name) ∧ (Instr.lookup 97 (.map (some rf)) (.string name) true).run Tryd.prog w' = .ok (.tuple #[.agg #[.string fn, .slice fa fl fc, .int .i64 fo], .bool (findF name sig).isSome]) w')) := fun w' h => by
      refine ⟨h, (hKW.below h (Nat.le_refl _)).cells.1, (h.cell (p := ⟨w.heap.size, 0, none⟩) hqlt).trans ((blk hhW).2.1 0 _ rfl), ((hbW.trans (h.mono hbW.size)).cell (p := ⟨b, o + 1, none⟩) hb).trans c1, ?_⟩
      obtain ⟨es, h1, h2⟩ := hKW.fm
      have hl := nm_lookup (k := name) umF ukS (zF w') (h1.below h h1.lt)
      have hl0 := nm_lookup (k := name) umF ukS (zF W) h1
      rw [hl0.1] at hlk
      injection hlk with e
      rw [hl.1, e]
    have HB := hide hbW
    have HI := hide (And.intro hhW (And.intro c4 (And.intro hfl hb)))
    obtain ⟨_, m0, q0, n0, hlkW⟩ := unhide HSS W (Below.refl _ W)
    clear hb2 hbV hhV c1 c4 hsV hbW hhW hKW hv hlk hfl v0 d1 eV hlkW
    cases hf : (findF name sig) with
    | none =>
      have HF := hide hf
      rw [hf] at HSS
      simp only [Option.isSome_none] at HSS
      clear hf
      go_wp2
      go_region_held3 (fun w' => Below W.heap.size W w' ∧ w'.cell? ⟨r, 0, none⟩ = some (.map (some rf)) ∧ w'.cell? ⟨w.heap.size, 0, none⟩ = some (.pointer (some ⟨b, o, none⟩)) ∧ w'.cell? ⟨b, o + 1, none⟩ = some (.string name) ∧ (Instr.lookup 97 (.map (some rf)) (.string name) true).run Tryd.prog w' = .ok (.tuple #[.agg #[.string fn, .slice fa fl fc, .int .i64 fo], .bool false]) w') (first | assumption | exact unhide HSS _ (keep0 _) | exact unhide HSS _ (keepA (by assumption) _) | exact unhide HSS _ ((keep0 _).alloc (keep0 _).size _)) (fail)
      all_goals
        go_wp2
        go_ret
        refine ⟨?_, ((unhide HB).alloc (unhide HB).size _).drew⟩
        unfold appE
        rw [unhide HR, unhide HF]
        rfl
    | some f =>
      have HF := hide hf
      rw [hf] at HSS
      simp only [Option.isSome_some] at HSS
      clear hf
      go_wp2
      go_region_held3 (fun w' => Below W.heap.size W w' ∧ w'.cell? ⟨r, 0, none⟩ = some (.map (some rf)) ∧ w'.cell? ⟨w.heap.size, 0, none⟩ = some (.pointer (some ⟨b, o, none⟩)) ∧ w'.cell? ⟨b, o + 1, none⟩ = some (.string name) ∧ (Instr.lookup 97 (.map (some rf)) (.string name) true).run Tryd.prog w' = .ok (.tuple #[.agg #[.string fn, .slice fa fl fc, .int .i64 fo], .bool true]) w') (first | assumption | exact unhide HSS _ (keep0 _) | exact unhide HSS _ (keepA (by assumption) _) | exact unhide HSS _ ((keep0 _).alloc (keep0 _).size _)) (fail)
      all_goals
        obtain ⟨U, eU, hbU, hU1⟩ : ∃ U, (W.alloc (.cells #[.string fn, .slice fa fl fc, .int .i64 fo] 56)).drew = U ∧ Below W.heap.size W U ∧ U.heap[W.heap.size]? = some (.cells #[.string fn, .slice fa fl fc, .int .i64 fo] 56) := ⟨_, rfl, ((Below.refl _ W).alloc (Nat.le_refl _) _).drew, new_block W _ _⟩
        rw [eU]
        obtain ⟨hhW, c4, hfl, hb⟩ := unhide HI
        have u1 : U.cell? ⟨W.heap.size, 1, none⟩ = some (.slice fa fl fc) := (blk hU1).2.1 1 _ rfl
        have hbwU : Below w.heap.size w U := (unhide HB).trans (hbU.mono (unhide HB).size)
        have u4 : U.cell? ⟨b, o + 4, none⟩ = some (.slice a n c) := (hbwU.cell (p := ⟨b, o + 4, none⟩) hb).trans c4
        have u0 : U.cell? ⟨w.heap.size, 0, none⟩ = some (.pointer (some ⟨b, o, none⟩)) := (hbU.cell (p := ⟨w.heap.size, 0, none⟩) hqlt).trans ((blk hhW).2.1 0 _ rfl)
        have hfl2 := hfl f (unhide HF)
        have HBU := hide hbwU
        have HFL := hide hfl2
        clear eU hbU hU1 hhW c4 hfl hb hbwU hfl2 HSS m0 q0 n0
        by_cases hn : n = fl
        · have en : ((n : Int) != (fl : Int)) = false := by simp; omega
          have HN := hide hn
          clear hn
          go_wp2
          go_quiet (fail)
          go_wp2
          go_ret
          refine ⟨?_, below_drewN (unhide HBU) _⟩
          unfold appE
          rw [unhide HR, unhide HF]
          simp only [if_true]
          rw [if_pos (by rw [unhide HN]; exact unhide HFL)]
          rfl
        · have en : ((n : Int) != (fl : Int)) = true := by simp; omega
          have HN := hide hn
          clear hn
          go_wp2
          go_quiet (fail)
          go_wp2
          go_ret
          refine ⟨?_, below_drewN (unhide HBU) _⟩
          unfold appE
          rw [unhide HR, unhide HF]
          simp only [if_true]
          rw [if_neg (by rw [← unhide HFL]; exact unhide HN)]
          rfl
theorem TmAt.first {w : World} {B d : Nat} {a : Option Addr} {n c : Nat} {l : List Tm} (h : Row B a n c 7 (TR w B d l)) (hn : n = l.length) (hB : B ≤ w.heap.size) : n ≠ 0 → ∃ b' o', a = some ⟨b', o', none⟩ ∧ b' < w.heap.size ∧ w.cell? ⟨b', o', none⟩ = some (.int .i64 (headOp l)) := by
  intro h0
  obtain ⟨b, off, e, hb, hj⟩ := h.2.2 h0
  cases l with
  | nil => exact absurd hn h0
  | cons u l =>
    have h1 := hj 0 (by omega) u rfl
    cases d with
    | zero => exact h1.elim
    | succ d =>
      obtain ⟨_, _, _, aL, aV, aP, cL, cV, cP, hr, _⟩ := h1
      have := hr 0 _ rfl
      simp only [Nat.zero_mul, Nat.add_zero] at this
      exact ⟨b, off, e, by omega, this⟩
/-- What is asked of a term's texts: names that may be read, and what package num says of its numbers. -/
def OkT (P : ByteArray → Prop) : Nat → Tm → Prop
  | 0, _ => False
  | e + 1, t => (t.op = 1 → P t.num) ∧ t.name.size ≤ 9223372036854775807 ∧ (∀ v ∈ t.vars, v.1.size ≤ 9223372036854775807) ∧ t.size ≤ 65536 ∧ t.depth ≤ 65537 ∧ (∀ u ∈ t.l, OkT P e u) ∧ ∀ u ∈ t.pat, OkT P e u
set_option maxRecDepth 1000000 in
set_option maxHeartbeats 16000000 in
theorem shape_any {rt : ByteArray → Bool} {w : World} {B r rf rb d e b o : Nat} {t : Tm} {sig : List Fn} {env : ByteArray → List Int} (hK : KS w B r rf rb sig env) (hT : TmAt w B d b o t) (hO : OkT (PC rt) e t) (hR : RL w) :
    Calls Tryd.prog 55 #[.pointer (some ⟨r, 0, none⟩), .iface (kindOf t.op) (.agg #[.pointer (some ⟨b, o, none⟩)])] w (VPost (.int .i64 (shapeE rt sig t.op t.name t.num t.l.length (headOp t.l) t.vars t.pat.length)) w) := by
  cases d with
  | zero => exact hT.elim
  | succ d =>
  cases e with
  | zero => exact hO.elim
  | succ e =>
  obtain ⟨hO1, hO2, hO3, _⟩ := hO
  have hBw : B ≤ w.heap.size := by have := hK.r_lt; have := hK.hr; omega
  obtain ⟨hb, _, _, aL, aV, aP, cL, cV, cP, hrg, hL, hV, hP, _⟩ := hT
  have hbw : b < w.heap.size := by omega
  have h0 : 0 < w.heap.size := by omega
  have hLm : t.l.length ≤ 281474976710656 := by have := hL.1; have := hL.2.1; omega
  have hB0 : 0 < B := by omega
  have HG := fun W (h : Below w.heap.size w W) j v hv => (h.cell (p := ⟨b, o + j, none⟩) hbw).trans (hrg j v hv)
  by_cases h17 : t.op = 17
  · have hkk : kindOf t.op = 160 := by rw [h17]; rfl
    rw [hkk]
    have hE : shapeE rt sig t.op t.name t.num t.l.length (headOp t.l) t.vars t.pat.length = appE sig t.name t.l.length := by unfold shapeE; rw [if_pos h17]
    rw [hE]
    have HA := hide (fun W (h : Below w.heap.size w W) => appShape_any (hK.below h (Nat.le_refl _)) (Nat.lt_of_lt_of_le hbw h.size) (HG W h 1 _ rfl) (HG W h 4 _ rfl) hO2)
    have ta0 := fun w => ta_yes (ty := 160) (v := .agg #[.pointer (some ⟨b, o, none⟩)]) (w := w) rfl rfl
    clear hK hO1 hO2 hO3 hR hrg hL hV hP HG hE hkk h17
    go_enter Tryd.func55, Tryd.ntmps55
    go_wp2_with fail
    refine (unhide HA _ ((Below.refl _ w).alloc (Nat.le_refl _) _)).mono ?_
    rintro e w2 ⟨rfl, hb2⟩
    have HB := hide (show Below w.heap.size w w2 from ((Below.refl _ w).alloc (Nat.le_refl _) _).trans (hb2.mono (by simp)))
    clear hb2
    go_wp2
    go_ret
    exact ⟨rfl, unhide HB⟩
  · have hE : shapeE rt sig t.op t.name t.num t.l.length (headOp t.l) t.vars t.pat.length = if shapeB rt t.op t.name t.num t.l.length (headOp t.l) t.vars t.pat.length then 0 else 30 := by unfold shapeE; rw [if_neg h17]
    rw [hE]
    have hk17 : kindOf t.op ≠ 160 := by
      rcases op_kind (op := t.op) with ⟨h, e⟩ | ⟨h, e⟩ | ⟨h, e⟩ | ⟨h, e⟩ | ⟨h, e⟩ | ⟨h, e⟩ | ⟨h, e⟩ <;> first | exact absurd h h17 | (rw [e]; decide)
    have HS : Hid (∀ W, Below w.heap.size w W → Calls Tryd.prog 81 #[.iface (kindOf t.op) (.agg #[.pointer (some ⟨b, o, none⟩)])] W (VPost (.bool (shapeB rt t.op t.name t.num t.l.length (headOp t.l) t.vars t.pat.length)) W)) := fun W h => by
      have hW := Nat.lt_of_lt_of_le hbw h.size
      unfold shapeB
      rcases op_kind (op := t.op) with ⟨h', e⟩ | ⟨h', e⟩ | ⟨h', e⟩ | ⟨h', e⟩ | ⟨h', e⟩ | ⟨h', e⟩ | ⟨h', e⟩
      · rw [e, if_pos h']; exact shape_num hW (HG W h 3 _ rfl) (HG W h 4 _ rfl) (hO1 h')
      · rw [e, if_neg (by omega), if_pos h']; exact shape_truth hW (HG W h 4 _ rfl)
      · rw [e, if_neg (by omega), if_neg (by omega), if_pos h']
        exact shape_operation hW (Nat.lt_of_lt_of_le h0 h.size) (hR.below h h0) (HG W h 0 _ rfl) (HG W h 4 _ rfl) h' (TmAt.first (hL.below (h.mono hBw)) rfl (Nat.le_trans hBw h.size)) hLm
      · exact absurd h' h17
      · rw [e, if_neg (by omega), if_neg (by omega), if_neg (by omega), if_pos h']; exact shape_variable hW (HG W h 1 _ rfl) (HG W h 4 _ rfl) hO2
      · rw [e, if_neg (by omega), if_neg (by omega), if_neg (by omega), if_neg (by omega), if_pos h']
        exact shape_all hW (HG W h 4 _ rfl) (HG W h 5 _ rfl) (HG W h 6 _ rfl) fun U hU => areBinders_any B U aV t.vars.length cV t.vars (hV.mono (Nat.le_refl _) fun b o j hb hj x hx => ⟨rangeAt_below (hj x hx).1 hb ((h.mono hBw).trans (hU.mono (Nat.le_trans hBw h.size))), (hj x hx).2⟩) rfl (Nat.le_trans hBw (Nat.le_trans h.size hU.size)) hO3
      · rw [e, if_neg (by omega), if_neg (by omega), if_neg (by omega), if_neg (by omega), if_neg (by omega)]; exact shape_stranger
    clear hK hO1 hO2 hO3 hR hrg hL hV hP HG hE h17
    generalize kindOf t.op = kk at *
    generalize shapeB rt t.op t.name t.num t.l.length (headOp t.l) t.vars t.pat.length = sb at *
    have ta0 := fun w => ta_no (ty := 160) (v := .agg #[.pointer (some ⟨b, o, none⟩)]) (z := .agg #[.pointer none]) (w := w) hk17 rfl rfl (by go_simp)
    cases sb with
    | true =>
      go_enter Tryd.func55, Tryd.ntmps55
      go_wp2_with fail
      refine (unhide HS _ ((Below.refl _ w).alloc (Nat.le_refl _) _)).mono ?_
      rintro e w2 ⟨rfl, hb2⟩
      have HB := hide (show Below w.heap.size w w2 from ((Below.refl _ w).alloc (Nat.le_refl _) _).trans (hb2.mono (by simp)))
      clear hb2
      go_wp2
      go_ret
      exact ⟨rfl, unhide HB⟩
    | false =>
      go_enter Tryd.func55, Tryd.ntmps55
      go_wp2_with fail
      refine (unhide HS _ ((Below.refl _ w).alloc (Nat.le_refl _) _)).mono ?_
      rintro e w2 ⟨rfl, hb2⟩
      have HB := hide (show Below w.heap.size w w2 from ((Below.refl _ w).alloc (Nat.le_refl _) _).trans (hb2.mono (by simp)))
      clear hb2
      go_wp2
      go_ret
      exact ⟨rfl, unhide HB⟩
end Go.Proofs.YtiockiilenjjaaaDoor

namespace Go.Proofs.YtiockiilenjjaaaDoor
open Go Go.RowKit
/-- A slice of ints, as a value. -/
def Ints (w : World) (v : Value) (ss : List Int) : Prop := ∃ a c, v = .slice a ss.length c ∧ ss.length ≤ 281474976710656 ∧ (ss.length ≠ 0 → ∃ b off, a = some ⟨b, off, none⟩ ∧ b < w.heap.size ∧ ∀ j x, ss[j]? = some x → w.cell? ⟨b, off + j, none⟩ = some (.int .i64 x))
theorem Ints.below {w w' : World} {v : Value} {ss : List Int} (h : Ints w v ss) (hb : Below w.heap.size w w') : Ints w' v ss := by
  obtain ⟨a, c, h1, h2, h3⟩ := h
  refine ⟨a, c, h1, h2, fun hn => ?_⟩
  obtain ⟨b, off, e1, e2, e3⟩ := h3 hn
  exact ⟨b, off, e1, Nat.lt_of_lt_of_le e2 hb.size, fun j x hx => (hb.cell (p := ⟨b, off + j, none⟩) e2).trans (e3 j x hx)⟩
def optV : Option Int → Value
  | some s => .tuple #[.int .i64 s, .bool true]
  | none => .tuple #[.int .i64 0, .bool false]
theorem take_eq_of {ss ts : List Int} (hl : ss.length = ts.length) {i : Nat} (h : ss.take i = ts.take i) (h1 : i < ss.length) (h2 : i < ts.length) (e : ss[i] = ts[i]) : ss.take (i + 1) = ts.take (i + 1) := by
  rw [take_more h1, take_more h2, h, e]
set_option maxRecDepth 1000000 in
set_option maxHeartbeats 16000000 in
theorem applied_any {w : World} {B : Nat} {v vs : Value} {f : Fn} {ss : List Int} (hF : FnV w B v f) (hS : Ints w vs ss) (hB : B ≤ w.heap.size) (hl : ss.length = f.args.length) :
    Calls Tryd.prog 83 #[v, vs] w (VPost (optV (appliedT f ss)) w) := by
  obtain ⟨fa, fc, rfl, hfo, hRow⟩ := hF
  obtain ⟨a, c, rfl, hmax, hcell⟩ := hS
  obtain ⟨W, eW, hbW, hsW, hcW, hhW⟩ := box_new w #[.string f.name, .slice fa f.args.length fc, .int .i64 f.out] 56
  have v1 : W.cell? ⟨w.heap.size, 1, none⟩ = some (.slice fa f.args.length fc) := hcW 1 _ rfl
  have v2 : W.cell? ⟨w.heap.size, 2, none⟩ = some (.int .i64 f.out) := hcW 2 _ rfl
  have HB := hide hbW
  have HI := hide (And.intro hRow hcell)
  have HL := hide hl
  have HBw := hide hB
  rw [← hl] at v1
  have HS := hide (isSort_any f.out W)
  clear hRow hcell hsW hcW hhW hbW hfo hB
  generalize hn : ss.length = n at *
  have HN := hide hn
  clear hn hl
  go_enter Tryd.func83, Tryd.ntmps83
  go_wp2
  go_loop [10] (fun iv => ∃ i : Nat, i ≤ n ∧ iv = .int .i64 (i : Int) ∧ ss.take i = f.args.take i) (fun iv => (n - (intOf iv).toNat))
  case atStart => exact ⟨0, Nat.zero_le _, rfl, rfl⟩
  case round =>
    obtain ⟨i, hi, rfl, hpre⟩ := hrel
    by_cases hlt : i < n
    · have h1 : i < ss.length := by have := unhide HN; omega
      have h2 : i < f.args.length := by have := unhide HL; omega
      have hd1 : decide ((i : Int) < (n : Int)) = true := by simp; omega
      have hXi : (i : Int) < (n : Int) := by omega
      have hcap : (i : Int) < 281474976710656 := by omega
      obtain ⟨hRow, hcell⟩ := unhide HI
      obtain ⟨b1, o1, rfl, hb1, hc1⟩ := hcell (by omega)
      obtain ⟨b2, o2, rfl, hb2, hc2⟩ := hRow.2.2 (by have := unhide HL; omega)
      have p1 : W.cell? ⟨b1, o1 + i, none⟩ = some (.int .i64 ss[i]) := ((unhide HB).cell (p := ⟨b1, o1 + i, none⟩) hb1).trans (hc1 i _ (List.getElem?_eq_getElem h1))
      have p2 : W.cell? ⟨b2, o2 + i, none⟩ = some (.int .i64 f.args[i]) := by
        have := (hc2 i h2 _ (List.getElem?_eq_getElem h2)).1
        rw [Nat.mul_one] at this
        exact ((unhide HB).cell (p := ⟨b2, o2 + i, none⟩) (Nat.lt_of_lt_of_le hb2 (unhide HBw))).trans this
      have hnx := take_eq_of (by have := unhide HL; have := unhide HN; omega) hpre h1 h2
      have hno : ¬ ss[i] = f.args[i] → ¬ ss = f.args := fun h e => h (by subst e; rfl)
      have HP := hide (And.intro hpre (And.intro hnx hno))
      clear hpre hnx hno hRow hcell hc1 hc2
      generalize ss[i] = x at *
      generalize f.args[i] = y at *
      by_cases hxy : x = y
      · subst hxy
        go_wp2
        obtain ⟨hpre, hnx, hno⟩ := unhide HP
        exact ⟨⟨i + 1, by omega, rfl, hnx rfl⟩, by simp only [intOf]; omega⟩
      · have exy : (x != y) = true := by simp [hxy]
        have HXY := hide hxy
        clear hxy
        go_wp2
        go_ret2
        obtain ⟨hpre, hnx, hno⟩ := unhide HP
        refine ⟨?_, unhide HB⟩
        unfold appliedT
        rw [if_neg (fun h => hno (unhide HXY) h.1)]
        rfl
    · have hin : i = n := by omega
      have hd1 : decide ((i : Int) < (n : Int)) = false := by simp; omega
      have hall : ss = f.args := by
        have h := hpre
        rw [List.take_of_length_le (by have := unhide HN; omega), List.take_of_length_le (by have := unhide HN; have := unhide HL; omega)] at h
        exact h
      have HA := hide hall
      clear hall hpre hin
      cases hq : sortB f.out with
      | true =>
        have HQ := hide hq
        unfold sortB at hq
        rw [hq] at HS
        clear hq
        go_wp2_with fail
        refine (unhide HS).mono ?_
        rintro e w' ⟨rfl, rfl⟩
        go_wp2
        go_ret2
        refine ⟨?_, unhide HB⟩
        unfold appliedT
        rw [if_pos ⟨unhide HA, unhide HQ⟩]
        rfl
      | false =>
        have HQ := hide hq
        unfold sortB at hq
        rw [hq] at HS
        clear hq
        go_wp2_with fail
        refine (unhide HS).mono ?_
        rintro e w' ⟨rfl, rfl⟩
        go_wp2
        go_ret2
        refine ⟨?_, unhide HB⟩
        unfold appliedT
        rw [if_neg (fun h => by rw [unhide HQ] at h; cases h.2)]
        rfl
end Go.Proofs.YtiockiilenjjaaaDoor
