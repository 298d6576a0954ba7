/- Binders: words, of sorts, each once. -/
import Derived.Test.YtegmckpcchhmdaaDoorZAE
import Derived.Test.YtegmckpcchhmdaaDoorZAB
import Derived.MapKept
import Derived.ProofKit
import Derived.WalkKit
import Derived.LaidEqlPtr
import Derived.Deep.QuietTactic
import Derived.BigQuiet
import Derived.Laws.AppendOwn
import Derived.Deep.AppendLies
set_option linter.unusedVariables false
set_option linter.unusedSimpArgs false

/- A term's word. -/
namespace Go.Proofs.YtegmckpcchhmdaaDoor
open Go Go.RowKit
theorem a3 {w : World} {b o : Nat} {v : Value} (hb : b < w.heap.size) (h : w.cell? ⟨b, o, none⟩ = some v) (x y z : Obj) : (((w.alloc x).alloc y).alloc z).cell? ⟨b, o, none⟩ = some v := ((three (Below.refl _ w) (Nat.le_refl _) x y z).cell (p := ⟨b, o, none⟩) hb).trans h
theorem a4 {w : World} {b o : Nat} {v : Value} (hb : b < w.heap.size) (h : w.cell? ⟨b, o, none⟩ = some v) (x y z u : Obj) : ((((w.alloc x).alloc y).alloc z).alloc u).cell? ⟨b, o, none⟩ = some v := ((four (Below.refl _ w) (Nat.le_refl _) x y z u).cell (p := ⟨b, o, none⟩) hb).trans h
theorem op_kind {op : Int} : (op = 1 ∧ kindOf op = 108) ∨ ((op = 2 ∨ op = 3) ∧ kindOf op = 132) ∨ ((4 ≤ op ∧ op ≤ 16) ∧ kindOf op = 133) ∨ (op = 17 ∧ kindOf op = 134) ∨ (op = 18 ∧ kindOf op = 101) ∨ (op = 19 ∧ kindOf op = 82) ∨ ((op < 1 ∨ 19 < op) ∧ kindOf op = 135) := by
  have hc : op = 1 ∨ (op = 2 ∨ op = 3) ∨ (4 ≤ op ∧ op ≤ 16) ∨ op = 17 ∨ op = 18 ∨ op = 19 ∨ (op < 1 ∨ 19 < op) := by omega
  unfold kindOf
  rcases hc with h | h | h | h | h | h | h
  · exact .inl ⟨h, by rw [if_pos h]⟩
  · exact .inr (.inl ⟨h, by rw [if_neg (by omega), if_pos h]⟩)
  · exact .inr (.inr (.inl ⟨h, by rw [if_neg (by omega), if_neg (by omega), if_pos h]⟩))
  · exact .inr (.inr (.inr (.inl ⟨h, by rw [if_neg (by omega), if_neg (by omega), if_neg (by omega), if_pos h]⟩)))
  · exact .inr (.inr (.inr (.inr (.inl ⟨h, by rw [if_neg (by omega), if_neg (by omega), if_neg (by omega), if_neg (by omega), if_pos h]⟩))))
  · exact .inr (.inr (.inr (.inr (.inr (.inl ⟨h, by rw [if_neg (by omega), if_neg (by omega), if_neg (by omega), if_neg (by omega), if_neg (by omega), if_pos h]⟩)))))
  · exact .inr (.inr (.inr (.inr (.inr (.inr ⟨h, by rw [if_neg (by omega), if_neg (by omega), if_neg (by omega), if_neg (by omega), if_neg (by omega), if_neg (by omega)]⟩)))))
def wval (op : Int) (name : ByteArray) (n : Nat) : Value := .tuple #[.string (wordT op name), .bool (aloneT op n)]
set_option maxRecDepth 100000 in
set_option maxHeartbeats 4000000 in
theorem word_truth {w : World} {b o : Nat} {op : Int} {name : ByteArray} {n : Nat} (hb : b < w.heap.size) (c0 : w.cell? ⟨b, o, none⟩ = some (.int .i64 op)) (h : op = 2 ∨ op = 3) :
    Calls Tryd.prog 43 #[.iface 132 (.agg #[.pointer (some ⟨b, o, none⟩)])] w (VPost (wval op name n) w) := by
  have ta0 := fun w => ta_yes (ty := 132) (v := .agg #[.pointer (some ⟨b, o, none⟩)]) (w := w) rfl rfl
  rcases h with rfl | rfl
  · go_enter Tryd.func43, Tryd.ntmps43
    go_wp2
    go_ret2
    exact ⟨rfl, (Below.refl _ w).alloc (Nat.le_refl _) _⟩
  · go_enter Tryd.func43, Tryd.ntmps43
    go_wp2
    go_ret2
    exact ⟨rfl, (Below.refl _ w).alloc (Nat.le_refl _) _⟩
set_option maxRecDepth 100000 in
set_option maxHeartbeats 4000000 in
theorem word_variable {w : World} {b o : Nat} {name : ByteArray} {n : Nat} (hb : b < w.heap.size) (c1 : w.cell? ⟨b, o + 1, none⟩ = some (.string name)) :
    Calls Tryd.prog 43 #[.iface 101 (.agg #[.pointer (some ⟨b, o, none⟩)])] w (VPost (wval 18 name n) w) := by
  have ta0 := fun w => ta_no (k := 101) (ty := 132) (v := .agg #[.pointer (some ⟨b, o, none⟩)]) (z := .agg #[.pointer none]) (w := w) (by decide) rfl rfl (by go_simp)
  have ta1 := fun w => ta_yes (ty := 101) (v := .agg #[.pointer (some ⟨b, o, none⟩)]) (w := w) rfl rfl
  go_enter Tryd.func43, Tryd.ntmps43
  go_wp2
  go_ret2
  exact ⟨rfl, ((Below.refl _ w).alloc (Nat.le_refl _) _).alloc (by simp) _⟩
set_option maxRecDepth 100000 in
set_option maxHeartbeats 4000000 in
theorem word_application {w : World} {b o : Nat} {name : ByteArray} {n c : Nat} {a : Option Addr} (hb : b < w.heap.size) (c1 : w.cell? ⟨b, o + 1, none⟩ = some (.string name)) (c4 : w.cell? ⟨b, o + 4, none⟩ = some (.slice a n c)) :
    Calls Tryd.prog 43 #[.iface 134 (.agg #[.pointer (some ⟨b, o, none⟩)])] w (VPost (wval 17 name n) w) := by
  have ta0 := fun w => ta_no (k := 134) (ty := 132) (v := .agg #[.pointer (some ⟨b, o, none⟩)]) (z := .agg #[.pointer none]) (w := w) (by decide) rfl rfl (by go_simp)
  have ta1 := fun w => ta_no (k := 134) (ty := 101) (v := .agg #[.pointer (some ⟨b, o, none⟩)]) (z := .agg #[.pointer none]) (w := w) (by decide) rfl rfl (by go_simp)
  have ta2 := fun w => ta_yes (ty := 134) (v := .agg #[.pointer (some ⟨b, o, none⟩)]) (w := w) rfl rfl
  have e1 := a3 hb c1
  have e4 := a3 hb c4
  have hn : (((n : Int)) == 0) = (n == 0) := by
    by_cases h : n = 0
    · simp [h]
    · rw [beq_eq_false_iff_ne.2 h, beq_eq_false_iff_ne.2 (by omega)]
  go_enter Tryd.func43, Tryd.ntmps43
  go_wp2
  go_quiet (fail)
  go_wp2
  go_ret2
  exact ⟨rfl, below_drewN (three (Below.refl _ w) (Nat.le_refl _) _ _ _) _⟩
set_option maxRecDepth 100000 in
set_option maxHeartbeats 4000000 in
theorem word_operation {w : World} {b o : Nat} {op : Int} {name : ByteArray} {n : Nat} (hb : b < w.heap.size) (h0 : 0 < w.heap.size) (c0 : w.cell? ⟨b, o, none⟩ = some (.int .i64 op)) (hR : RL w) (h : 4 ≤ op ∧ op ≤ 16) :
    Calls Tryd.prog 43 #[.iface 133 (.agg #[.pointer (some ⟨b, o, none⟩)])] w (VPost (wval op name n) w) := by
  obtain ⟨k, rfl⟩ : ∃ k : Nat, op = (k : Int) := ⟨op.toNat, by omega⟩
  have hk1 : 4 ≤ k := by omega
  have hk2 : k ≤ 16 := by omega
  have hv : wval (k : Int) name n = .tuple #[.string ⟨(opWord k).toArray⟩, .bool false] := by
    unfold wval wordT aloneT
    rw [if_neg (by omega), if_neg (by omega), if_neg (by omega), if_pos (by omega)]
    simp
    omega
  rw [hv]
  have e0 := a4 hb c0
  have er := a4 h0 (hR k hk1 hk2).1
  have hki : (k : Int) < 17 := by omega
  have ta0 := fun w => ta_no (k := 133) (ty := 132) (v := .agg #[.pointer (some ⟨b, o, none⟩)]) (z := .agg #[.pointer none]) (w := w) (by decide) rfl rfl (by go_simp)
  have ta1 := fun w => ta_no (k := 133) (ty := 101) (v := .agg #[.pointer (some ⟨b, o, none⟩)]) (z := .agg #[.pointer none]) (w := w) (by decide) rfl rfl (by go_simp)
  have ta2 := fun w => ta_no (k := 133) (ty := 134) (v := .agg #[.pointer (some ⟨b, o, none⟩)]) (z := .agg #[.pointer none]) (w := w) (by decide) rfl rfl (by go_simp)
  have ta3 := fun w => ta_yes (ty := 133) (v := .agg #[.pointer (some ⟨b, o, none⟩)]) (w := w) rfl rfl
  clear hR hv h
  go_enter Tryd.func43, Tryd.ntmps43
  go_wp2
  go_ret2
  exact ⟨rfl, four (Below.refl _ w) (Nat.le_refl _) _ _ _ _⟩
set_option maxRecDepth 100000 in
set_option maxHeartbeats 4000000 in
theorem word_stranger {w : World} {b o : Nat} {op : Int} {name : ByteArray} {n : Nat} (h : op < 1 ∨ 19 < op) :
    Calls Tryd.prog 43 #[.iface 135 (.agg #[.pointer (some ⟨b, o, none⟩)])] w (VPost (wval op name n) w) := by
  have hv : wval op name n = .tuple #[.string ⟨#[63]⟩, .bool false] := by
    unfold wval wordT aloneT
    rw [if_neg (by omega), if_neg (by omega), if_neg (by omega), if_neg (by omega)]
    simp
    omega
  rw [hv]
  clear hv h
  have ta0 := fun w => ta_no (k := 135) (ty := 132) (v := .agg #[.pointer (some ⟨b, o, none⟩)]) (z := .agg #[.pointer none]) (w := w) (by decide) rfl rfl (by go_simp)
  have ta1 := fun w => ta_no (k := 135) (ty := 101) (v := .agg #[.pointer (some ⟨b, o, none⟩)]) (z := .agg #[.pointer none]) (w := w) (by decide) rfl rfl (by go_simp)
  have ta2 := fun w => ta_no (k := 135) (ty := 134) (v := .agg #[.pointer (some ⟨b, o, none⟩)]) (z := .agg #[.pointer none]) (w := w) (by decide) rfl rfl (by go_simp)
  have ta3 := fun w => ta_no (k := 135) (ty := 133) (v := .agg #[.pointer (some ⟨b, o, none⟩)]) (z := .agg #[.pointer none]) (w := w) (by decide) rfl rfl (by go_simp)
  go_enter Tryd.func43, Tryd.ntmps43
  go_wp2
  go_ret2
  exact ⟨rfl, four (Below.refl _ w) (Nat.le_refl _) _ _ _ _⟩
/-- The word of a term that is no number and no TAll. -/
theorem wordOf_any {w : World} {b o : Nat} {op : Int} {name : ByteArray} {n c : Nat} {a : Option Addr} (hb : b < w.heap.size) (h0 : 0 < w.heap.size) (c0 : w.cell? ⟨b, o, none⟩ = some (.int .i64 op)) (c1 : w.cell? ⟨b, o + 1, none⟩ = some (.string name)) (c4 : w.cell? ⟨b, o + 4, none⟩ = some (.slice a n c)) (hR : RL w) (h1 : op ≠ 1) (h19 : op ≠ 19) :
    Calls Tryd.prog 43 #[.iface (kindOf op) (.agg #[.pointer (some ⟨b, o, none⟩)])] w (VPost (wval op name n) w) := by
  rcases op_kind (op := op) with ⟨h, e⟩ | ⟨h, e⟩ | ⟨h, e⟩ | ⟨h, e⟩ | ⟨h, e⟩ | ⟨h, e⟩ | ⟨h, e⟩
  · exact absurd h h1
  · rw [e]; exact word_truth hb c0 h
  · rw [e]; exact word_operation hb h0 c0 hR h
  · rw [e]; subst h; exact word_application hb c1 c4
  · rw [e]; subst h; exact word_variable hb c1
  · exact absurd h h19
  · rw [e]; exact word_stranger h
end Go.Proofs.YtegmckpcchhmdaaDoor

/- Maps by names: what hangs on no program. -/
namespace Go.Proofs.YtegmckpcchhmdaaDoor
open Go Go.RowKit
/-- A map by names holds these, in this order. -/
def NM (w : World) (r : Nat) (es : List (ByteArray × Value)) : Prop := ∃ (a : Array MapEntry) (c : Nat), w.heap[r]? = some (.map a c) ∧ a.toList.map (fun e => (e.key, e.val)) = es.map (fun p => (Value.string p.1, p.2))
def look (k : ByteArray) : List (ByteArray × Value) → Option Value
  | [] => none
  | p :: l => if k = p.1 then some p.2 else look k l
def put (k : ByteArray) (v : Value) : List (ByteArray × Value) → List (ByteArray × Value)
  | [] => [(k, v)]
  | p :: l => if k = p.1 then (k, v) :: l else p :: put k v l
theorem look_put (k j : ByteArray) (v : Value) (es : List (ByteArray × Value)) : look j (put k v es) = if j = k then some v else look j es := by
  induction es with
  | nil => simp [put, look]
  | cons p l ih =>
    unfold put
    by_cases hk : k = p.1
    · rw [if_pos hk]
      simp only [look]
      by_cases hj : j = k
      · simp [hj]
      · rw [if_neg hj, if_neg hj, if_neg (by rw [← hk]; exact hj)]
    · rw [if_neg hk]
      simp only [look, ih]
      by_cases hj : j = k
      · subst hj
        simp [hk]
      · simp [hj]
theorem put_len (k : ByteArray) (v : Value) (es : List (ByteArray × Value)) : (put k v es).length = if look k es = none then es.length + 1 else es.length := by
  induction es with
  | nil => simp [put, look]
  | cons p l ih =>
    unfold put
    by_cases hk : k = p.1
    · simp [look, hk]
    · simp only [if_neg hk, List.length_cons, ih, look]
      split <;> rfl
theorem find_nm {k : ByteArray} : ∀ (es : List (ByteArray × Value)) (l : List MapEntry) (i : Nat), l.map (fun e => (e.key, e.val)) = es.map (fun p => (Value.string p.1, p.2)) →
    (look k es = none ∧ Instr.findNow .string (.string k) l i = some none ∧ ∀ v, put k v es = es ++ [(k, v)]) ∨
    ∃ j v0, look k es = some v0 ∧ Instr.findNow .string (.string k) l i = some (some (i + j, v0)) ∧ (∃ h : j < l.length, l[j].key = .string k) ∧ ∀ v, (l.modify j fun e => { e with key := .string k, val := v }).map (fun e => (e.key, e.val)) = (put k v es).map (fun p => (Value.string p.1, p.2))
  | [], l, i, h => by
    have : l = [] := by simpa using h
    subst this
    exact .inl ⟨rfl, rfl, fun _ => rfl⟩
  | p :: es, [], i, h => by simp at h
  | p :: es, e :: l, i, h => by
    simp only [List.map_cons, List.cons.injEq, Prod.mk.injEq] at h
    obtain ⟨⟨h1, h2⟩, h3⟩ := h
    by_cases hk : k = p.1
    · refine .inr ⟨0, p.2, by simp [look, hk], ?_, ⟨by simp, by simp [h1, hk]⟩, fun v => ?_⟩
      · simp [Instr.findNow, h1, Instr.sameNow, hk, h2, (MapKept.bytes_beq p.1 p.1).2 rfl]
      · simp [put, hk, h3]
    · have hb : (k == p.1) = false := by
        cases hc : (k == p.1) with
        | false => rfl
        | true => exact absurd ((MapKept.bytes_beq _ _).1 hc) hk
      have hs : Instr.findNow .string (.string k) (e :: l) i = Instr.findNow .string (.string k) l (i + 1) := by
        simp [Instr.findNow, h1, Instr.sameNow, hb]
      rcases find_nm (k := k) es l (i + 1) h3 with ⟨a1, a2, a3⟩ | ⟨j, v0, a1, a2, ⟨a3, a4⟩, a5⟩
      · exact .inl ⟨by simp [look, hk, a1], hs.trans a2, fun v => by simp [put, hk, a3 v]⟩
      · refine .inr ⟨j + 1, v0, by simp [look, hk, a1], by rw [hs, a2]; congr 3; omega, ⟨by simp; omega, by simpa using a4⟩, fun v => ?_⟩
        have := a5 v
        simp only [List.modify_succ_cons, List.map_cons, put, if_neg hk, this, h1, h2]
section
variable {P : Program} {mt kt et : TypeId}
theorem nm_lookup {w : World} {r : Nat} {es : List (ByteArray × Value)} {k : ByteArray} {z : Value} (um : P.underlying mt = some (.map kt et)) (uk : P.underlying kt = some .string) (hz : (zeroValue et).run P w = .ok z w) (h : NM w r es) :
    (Instr.lookup mt (.map (some r)) (.string k) true).run P w = .ok (.tuple #[(look k es).getD z, .bool (look k es).isSome]) w ∧ (Instr.lookup mt (.map (some r)) (.string k) false).run P w = .ok ((look k es).getD z) w := by
  obtain ⟨a, c, h1, h2⟩ := h
  have ik : MapKept.IsKey .string (.string k) := trivial
  rcases find_nm (k := k) es a.toList 0 h2 with ⟨a1, a2, _⟩ | ⟨j, v0, a1, a2, _, _⟩
  · rw [a1]
    constructor <;> simp [Instr.lookup, run_underlying um, MapKept.run_getObj_map h1, MapKept.run_checkKey uk ik, MapKept.run_findKey uk a2, hz, Result.andThen]
  · rw [a1]
    constructor <;> simp [Instr.lookup, run_underlying um, MapKept.run_getObj_map h1, MapKept.run_checkKey uk ik, MapKept.run_findKey uk a2, Result.andThen]
theorem put_obj {w : World} {r : Nat} (o : Obj) (hlt : r < w.heap.size) : PutAt r w { w with heap := w.heap.setIfInBounds r o } ∧ ({ w with heap := w.heap.setIfInBounds r o } : World).heap[r]? = some o :=
  ⟨⟨rfl, rfl, rfl, by simp, fun k hk => by simp [Array.getElem?_setIfInBounds_ne (Ne.symm hk)]⟩, by simp [hlt]⟩
theorem nm_update {w : World} {r : Nat} {es : List (ByteArray × Value)} {k : ByteArray} {v : Value} (um : P.underlying mt = some (.map kt et)) (uk : P.underlying kt = some .string) (h : NM w r es) :
    ∃ w', (Instr.mapUpdate mt (.map (some r)) (.string k) v).run P w = .ok () w' ∧ PutAt r w w' ∧ NM w' r (put k v es) := by
  obtain ⟨a, c, h1, h2⟩ := h
  have ik : MapKept.IsKey .string (.string k) := trivial
  have hlt := (Array.getElem?_eq_some_iff.1 h1).1
  rcases find_nm (k := k) es a.toList 0 h2 with ⟨a1, a2, a3⟩ | ⟨j, v0, a1, a2, ⟨a3, a4⟩, a5⟩
  · obtain ⟨hp, ho⟩ := put_obj (w := w) (.map (a.push ⟨.string k, v, c⟩) (c + 1)) hlt
    exact ⟨_, by simp only [Instr.mapUpdate, Sem.run_bind, run_underlying um, MapKept.run_getObj_map h1, MapKept.run_checkKey uk ik, MapKept.run_findKey uk a2, MapKept.run_setObj_map _ h1, Result.andThen], hp, _, _, ho, by rw [a3 v]; simp [h2]⟩
  · obtain ⟨hp, ho⟩ := put_obj (w := w) (.map (a.modify (0 + j) fun e => { e with key := .string k, val := v }) c) hlt
    have hj : (((a[0 + j]?).map (·.key)).getD (.string k)) = .string k := by
      have : j < a.size := by simpa using a3
      simp only [Nat.zero_add]
      rw [Array.getElem?_eq_getElem this]
      simpa using a4
    have hst : (Instr.keyThatStays (.string k) (.string k)).run P w = .ok (.string k) w := by
      simp [Instr.keyThatStays, MapKept.sameBits_self ik]
    refine ⟨_, ?_, hp, _, _, ho, ?_⟩
    · simp only [Instr.mapUpdate, Sem.run_bind, run_underlying um, MapKept.run_getObj_map h1, MapKept.run_checkKey uk ik, MapKept.run_findKey uk a2, hj, hst, MapKept.run_setObj_map _ h1, Result.andThen]
    · simpa using a5 v
theorem nm_len {w : World} {r : Nat} {es : List (ByteArray × Value)} {ty : TypeId} (um : P.underlying mt = some (.map kt et)) (h : NM w r es) : (Builtin.len_ #[mt] ty #[.map (some r)]).run P w = .ok (.int .i64 es.length) w := by
  obtain ⟨a, c, h1, h2⟩ := h
  have : a.size = es.length := by
    have := congrArg List.length h2
    simpa using this
  simp [Builtin.len_, run_underlying um, MapKept.run_getObj_map h1, this, goInt]
end
theorem NM.new (w : World) : NM (w.alloc (.map #[] 0)) w.heap.size [] := ⟨#[], 0, (MapKept.heap_alloc w _).1, rfl⟩
theorem NM.lt {w : World} {r : Nat} {es : List (ByteArray × Value)} (h : NM w r es) : r < w.heap.size := by
  obtain ⟨_, _, h, _⟩ := h
  exact (Array.getElem?_eq_some_iff.1 h).1
theorem NM.same {w w' : World} {r : Nat} {es : List (ByteArray × Value)} (h : NM w r es) (hb : w'.heap[r]? = w.heap[r]?) : NM w' r es := by
  obtain ⟨a, c, h1, h2⟩ := h
  exact ⟨a, c, hb.trans h1, h2⟩
theorem NM.below {w w' : World} {r B : Nat} {es : List (ByteArray × Value)} (h : NM w r es) (hb : Below B w w') (hB : r < B) : NM w' r es := h.same (hb.block r hB)
end Go.Proofs.YtegmckpcchhmdaaDoor

/- What is the same: plain facts. -/
namespace Go.Proofs.YtegmckpcchhmdaaDoor
open Go Go.RowKit
/-- So many questions, of so many terms: all answered by yes. -/
def allTwo : List (Tm → Bool) → List Tm → Bool
  | [], [] => true
  | f :: fs, u :: us => f u && allTwo fs us
  | _, _ => false
def Tm.nm (t : Tm) : ByteArray := if t.op = 17 ∨ t.op = 18 then t.name else .empty
def Tm.nu (t : Tm) : ByteArray := if t.op = 1 then t.num else .empty
def Tm.so (t : Tm) : Int := if t.op = 18 then t.sort else 0
/-- The same label. -/
def Tm.sameLab (t u : Tm) : Bool := t.op == u.op && (t.nm.toList == u.nm.toList && (t.nu.toList == u.nu.toList && t.so == u.so))
/-- The same term: as Same says. -/
def Tm.same : Tm → Tm → Bool
  | ⟨op, name, sort, num, l, vars, pat⟩, u =>
    Tm.sameLab ⟨op, name, sort, num, [], [], []⟩ u && ((!(op == 19) || (decide (vars = u.vars) && allTwo (pat.map fun t => Tm.same t) u.pat)) && allTwo (l.map fun t => Tm.same t) u.l)
def sameL (l m : List Tm) : Bool := allTwo (l.map Tm.same) m
theorem Tm.same_eq (t u : Tm) : t.same u = (t.sameLab u && ((!(t.op == 19) || (decide (t.vars = u.vars) && sameL t.pat u.pat)) && sameL t.l u.l)) := by
  cases t
  rw [Tm.same]
  rfl
theorem sameL_cons (t u : Tm) (l m : List Tm) : sameL (t :: l) (u :: m) = (t.same u && sameL l m) := rfl
theorem sameL_len {l m : List Tm} (h : l.length ≠ m.length) : sameL l m = false := by
  induction l generalizing m with
  | nil => cases m with
    | nil => exact absurd rfl h
    | cons u m => rfl
  | cons t l ih => cases m with
    | nil => rfl
    | cons u m =>
      rw [sameL_cons, ih (by simpa using h), Bool.and_false]
/-- A list of which one place differs is not the same. -/
theorem sameL_no {l m : List Tm} {i : Nat} (h1 : i < l.length) (h2 : i < m.length) (h : l[i].same m[i] = false) : sameL l m = false := by
  induction i generalizing l m with
  | zero =>
    cases l with
    | nil => simp at h1
    | cons t l => cases m with
      | nil => simp at h2
      | cons u m => rw [sameL_cons, show t.same u = false from h, Bool.false_and]
  | succ i ih =>
    cases l with
    | nil => simp at h1
    | cons t l => cases m with
      | nil => simp at h2
      | cons u m => rw [sameL_cons, ih (l := l) (m := m) (by simpa using h1) (by simpa using h2) (by simpa using h), Bool.and_false]
theorem Tm.sameLab_refl (t : Tm) : t.sameLab t = true := by unfold Tm.sameLab; simp
theorem mem_wt {l : List Tm} {u : Tm} (h : u ∈ l) : u.wt ≤ (l.map Tm.wt).sum := by
  induction l with
  | nil => cases h
  | cons x l ih =>
    rw [List.map_cons, List.sum_cons]
    rcases List.mem_cons.1 h with rfl | h
    · omega
    · have := ih h
      omega
/-- Of all terms, if of each out of its operands and patterns. -/
theorem Tm.ind {p : Tm → Prop} (h : ∀ t : Tm, (∀ u ∈ t.l, p u) → (∀ u ∈ t.pat, p u) → p t) (t : Tm) : p t := by
  have hn : ∀ (n : Nat) (t : Tm), t.wt ≤ n → p t := fun n => by
    induction n with
    | zero =>
      intro t ht
      rw [t.wt_eq] at ht
      omega
    | succ n ih =>
      intro t ht
      rw [t.wt_eq] at ht
      exact h t (fun u hu => ih u (by have := mem_wt hu; omega)) (fun u hu => ih u (by have := mem_wt hu; omega))
  exact hn t.wt t (Nat.le_refl _)
theorem sameL_all {l : List Tm} (h : ∀ u ∈ l, u.same u = true) : sameL l l = true := by
  induction l with
  | nil => rfl
  | cons t l ih => rw [sameL_cons, h t List.mem_cons_self, ih fun u hu => h u (List.mem_cons_of_mem _ hu)]; rfl
theorem Tm.same_refl (t : Tm) : t.same t = true := Tm.ind (p := fun t => t.same t = true) (fun t hl hp => by
  rw [Tm.same_eq, Tm.sameLab_refl, sameL_all hl, sameL_all hp]
  simp) t
/-- What lies at a place is one term. -/
theorem row_det {B B' k n n' c c' : Nat} {a a' : Option Addr} {α : Type} {p p' : Nat → Nat → Nat → Prop} {l l' : List α} (hn : n = l.length) (hn' : n' = l'.length) (h : Row B a n c k p) (h' : Row B' a' n' c' k p') (e : Value.slice a n c = .slice a' n' c')
    (hp : ∀ b o j (h1 : j < l.length) (h2 : j < l'.length), p b o j → p' b o j → l[j] = l'[j]) : l = l' := by
  injection e with e1 e2 e3
  subst hn hn'
  by_cases h0 : l.length = 0
  · rw [List.length_eq_zero_iff.1 h0, List.length_eq_zero_iff.1 (e2.symm.trans h0)]
  · obtain ⟨b, o, x1, _, x2⟩ := h.2.2 h0
    obtain ⟨b', o', y1, _, y2⟩ := h'.2.2 (by omega)
    rw [x1, y1] at e1
    injection e1 with e1
    injection e1 with e4 e5
    subst e4 e5
    refine List.ext_getElem e2 fun j g1 g2 => hp _ _ j g1 g2 (x2 j g1) (y2 j g2)
theorem TmAt.det {w : World} {B B' : Nat} : ∀ {d d' b o : Nat} {t t' : Tm}, TmAt w B d b o t → TmAt w B' d' b o t' → t = t' := by
  intro d
  induction d with
  | zero => intro d' b o t t' h; exact h.elim
  | succ d ih =>
    intro d' b o t t' h h'
    cases d' with
    | zero => exact h'.elim
    | succ d' =>
      obtain ⟨_, _, _, aL, aV, aP, cL, cV, cP, hr, hL, hV, hP, _⟩ := h
      obtain ⟨_, _, _, bL, bV, bP, eL, eV, eP, gr, gL, gV, gP, _⟩ := h'
      have e : ∀ j v v', (tcells t aL aV aP cL cV cP)[j]? = some v → (tcells t' bL bV bP eL eV eP)[j]? = some v' → v = v' := fun j v v' a1 a2 => Option.some.inj ((hr j v a1).symm.trans (gr j v' a2))
      have k0 := e 0 _ _ rfl rfl
      have k1 := e 1 _ _ rfl rfl
      have k2 := e 2 _ _ rfl rfl
      have k3 := e 3 _ _ rfl rfl
      have k4 := row_det rfl rfl hL gL (e 4 _ _ rfl rfl) fun b o j h1 h2 x y => ih (x _ (List.getElem?_eq_getElem h1)) (y _ (List.getElem?_eq_getElem h2))
      have k6 := row_det rfl rfl hP gP (e 6 _ _ rfl rfl) fun b o j h1 h2 x y => ih (x _ (List.getElem?_eq_getElem h1)) (y _ (List.getElem?_eq_getElem h2))
      have k5 := row_det rfl rfl hV gV (e 5 _ _ rfl rfl) fun b o j h1 h2 x y => by
        have x1 := (x _ (List.getElem?_eq_getElem h1)).1
        have y1 := (y _ (List.getElem?_eq_getElem h2)).1
        have z0 := Option.some.inj ((x1 0 _ rfl).symm.trans (y1 0 _ rfl))
        have z1 := Option.some.inj ((x1 1 _ rfl).symm.trans (y1 1 _ rfl))
        injection z0 with z0
        injection z1 with _ z1
        exact Prod.ext z0 z1
      cases t
      cases t'
      injection k0 with _ k0
      injection k1 with k1
      injection k2 with _ k2
      injection k3 with k3
      simp only at k0 k1 k2 k3 k4 k5 k6
      subst k0 k1 k2 k3 k4 k5 k6
      rfl
end Go.Proofs.YtegmckpcchhmdaaDoor

/- The comparer: lists, out of terms. -/
namespace Go.Proofs.YtegmckpcchhmdaaDoor
open Go Go.RowKit
def TR (w : World) (B d : Nat) (l : List Tm) (b o j : Nat) : Prop := ∀ u, l[j]? = some u → TmAt w B d b o u
def lwt (l : List Tm) : Nat := (l.map Tm.wt).sum
set_option maxRecDepth 100000 in
set_option maxHeartbeats 4000000 in
theorem zero_unit (w : World) : (zeroValue 177).run Tryd.prog w = .ok (.agg #[]) w := rfl
theorem lwt_more {l : List Tm} {i : Nat} (h : i < l.length) : lwt (l.take (i + 1)) = lwt (l.take i) + l[i].wt := by
  unfold lwt
  rw [take_more h, List.map_append, List.sum_append]
  simp
theorem lwt_take (l : List Tm) (i : Nat) : lwt (l.take i) ≤ lwt l := by
  unfold lwt
  rw [List.map_take]
  exact sum_take_le _ _
theorem wt_pos (t : Tm) : 0 < t.wt := by rw [Tm.wt_eq]; omega
end Go.Proofs.YtegmckpcchhmdaaDoor

/- The comparer: a term's answer out of its lists'. -/
namespace Go.Proofs.YtegmckpcchhmdaaDoor
open Go Go.RowKit
/-- What the term's cells say, in a later world. -/
theorem cell_but {r : Nat} {w w' : World} (h : But r w w') {b o : Nat} {v : Value} (hb : b < w.heap.size) (hr : b ≠ r) (hc : w.cell? ⟨b, o, none⟩ = some v) : w'.cell? ⟨b, o, none⟩ = some v := (h.cell (p := ⟨b, o, none⟩) hb hr).trans hc
end Go.Proofs.YtegmckpcchhmdaaDoor

/- What a term's sort is: the words of the check; its small functions. -/
namespace Go.Proofs.YtegmckpcchhmdaaDoor
open Go Go.RowKit
/-- A function's signature. -/
structure Fn where
  name : ByteArray
  args : List Int
  out : Int
def findF (k : ByteArray) : List Fn → Option Fn
  | [] => none
  | f :: l => if k = f.name then some f else findF k l
def byteOf (s : ByteArray) (i : Nat) : Nat := (s.data.toList.getD i 0).toNat
def letB (x : Nat) : Bool := (decide (65 ≤ x) && decide (x ≤ 90)) || (decide (97 ≤ x) && decide (x ≤ 122)) || x == 95
def digB (x : Nat) : Bool := decide (48 ≤ x) && decide (x ≤ 57)
def wordB (s : ByteArray) : Bool := decide (0 < s.size) && decide (s.size ≤ 40) && !isRes s && (List.range s.size).all fun i => letB (byteOf s i) || (digB (byteOf s i) && !(i == 0))
theorem byteOf_eq {s : ByteArray} {i : Nat} (h : i < s.size) : byteOf s i = (s[i]'h).toNat := by
  unfold byteOf
  have h' : i < s.data.toList.length := h
  rw [List.getD_eq_getElem?_getD, List.getElem?_eq_getElem h']
  rfl
theorem wordB_iff (s : ByteArray) : wordB s = true ↔ IsWord s := by
  unfold wordB IsWord
  simp only [Bool.and_eq_true, decide_eq_true_eq, Bool.not_eq_true', List.all_eq_true, List.mem_range, and_assoc]
  refine and_congr_right fun _ => and_congr_right fun _ => and_congr_right fun _ => ?_
  refine forall_congr' fun i => ?_
  refine ⟨fun h hi => ?_, fun h hi => ?_⟩
  · intro h'
    have := h hi
    rw [byteOf_eq hi] at this
    simp only [letB, digB, Bool.or_eq_true, Bool.and_eq_true, decide_eq_true_eq, beq_iff_eq, Bool.not_eq_true', beq_eq_false_iff_ne] at this
    unfold isLetter isDig
    omega
  · have := h hi hi
    rw [byteOf_eq hi]
    unfold isLetter isDig at this
    simp only [letB, digB, Bool.or_eq_true, Bool.and_eq_true, decide_eq_true_eq, beq_iff_eq, Bool.not_eq_true', beq_eq_false_iff_ne]
    omega
theorem isWord_b (s : ByteArray) (w : World) (hs : s.size ≤ 9223372036854775807) : Calls Tryd.prog 68 #[.string s] w (VPost (.bool (wordB s)) w) :=
  (isWord_any s w hs).mono fun e w' ⟨b, h1, h2, h3⟩ => by
    have : b = wordB s := by
      have := wordB_iff s
      cases hb : b <;> cases hw : wordB s <;> simp_all
    exact ⟨by rw [h1, this], h3⟩
def sortB (x : Int) : Bool := decide (1 ≤ x) && decide (x ≤ 3)
/-- The operator of the first operand. -/
def headOp (l : List Tm) : Int := match l with
  | [] => 0
  | u :: _ => u.op
def operandsB (op : Int) (n : Nat) (h : Int) : Bool := (opCount op.toNat == -1 || opCount op.toNat == (n : Int)) && (!(op == 15) || h == 1)
def memB (k : ByteArray) (l : List ByteArray) : Bool := l.any fun j => decide (j = k)
def distinct : List ByteArray → Bool
  | [] => true
  | k :: l => !(memB k l) && distinct l
def bindersB (vars : List (ByteArray × Int)) : Bool := (vars.all fun v => wordB v.1 && sortB v.2) && (!(vars.length == 0) && distinct (vars.map (·.1)))
def shapeB (rt : ByteArray → Bool) (op : Int) (name num : ByteArray) (n : Nat) (h : Int) (vars : List (ByteArray × Int)) (np : Nat) : Bool :=
  if op = 1 then rt num && n == 0
  else if op = 2 ∨ op = 3 then n == 0
  else if 4 ≤ op ∧ op ≤ 16 then operandsB op n h
  else if op = 18 then wordB name && n == 0
  else if op = 19 then (n == 1 && decide (0 < np)) && bindersB vars
  else false
def appE (sig : List Fn) (name : ByteArray) (n : Nat) : Int :=
  if wordB name then (match findF name sig with
    | none => 32
    | some f => if n = f.args.length then 0 else 30) else 30
def shapeE (rt : ByteArray → Bool) (sig : List Fn) (op : Int) (name num : ByteArray) (n : Nat) (h : Int) (vars : List (ByteArray × Int)) (np : Nat) : Int :=
  if op = 17 then appE sig name n else if shapeB rt op name num n h vars np then 0 else 30
def appliedT (f : Fn) (ss : List Int) : Option Int := if ss = f.args ∧ sortB f.out = true then some f.out else none
def operatedT (op : Nat) (ss : List Int) : Option Int :=
  if op = 16 then (if ss.getD 0 0 = 2 ∧ ss.getD 1 0 = ss.getD 2 0 then some (ss.getD 1 0) else none)
  else if ss.all fun s => s == (if opEach op = 0 then ss.getD 0 0 else opEach op) then some (opOwn op) else none
def sortOfT (sig : List Fn) (op : Int) (name : ByteArray) (ss : List Int) : Option Int :=
  if op = 17 then (findF name sig).bind fun f => appliedT f ss
  else if 4 ≤ op ∧ op ≤ 16 then operatedT op.toNat ss
  else if op = 1 then some 1 else some 2
def varE (name : ByteArray) (sort : Int) (env : (ByteArray → List Int)) : Int × Int := match (env name).getLast? with
  | none => (0, 32)
  | some s => if s = sort then (sort, 0) else (0, 31)
def bindV : List (ByteArray × Int) → (ByteArray → List Int) → (ByteArray → List Int)
  | [], env => env
  | v :: l, env => bindV l fun k => if k = v.1 then env k ++ [v.2] else env k
def chkL : List ((ByteArray → List Int) → Int × Int) → (ByteArray → List Int) → List Int × Int
  | [], _ => ([], 0)
  | f :: fs, env => if (f env).2 ≠ 0 then ([], (f env).2) else ((f env).1 :: (chkL fs env).1, (chkL fs env).2)
def Tm.bare : Tm → Bool | ⟨op, _, _, _, l, _, _⟩ => (op == 1 || (decide (12 ≤ op) && decide (op ≤ 15)) || op == 17 || op == 18) && ((l.map fun u => Tm.bare u).all id)
def Tm.vn : Tm → List ByteArray | ⟨op, name, _, _, l, _, _⟩ => (if op = 18 then [name] else []) ++ ((l.map fun u => Tm.vn u).flatten)
/-- What is wrong with a pattern: its limits, its form, its check. -/
def patE (lim : Int) (op : Int) (bare : Bool) (e : Int) : Int := if lim ≠ 0 then lim else if op = 17 ∧ bare = true then e else 30
def firstE : List Int → Int
  | [] => 0
  | e :: l => if e ≠ 0 then e else firstE l
def underE (body : Int × Int) (pats : List Int) (vars : List (ByteArray × Int)) (names : List ByteArray) : Int :=
  if body.2 ≠ 0 then body.2 else if body.1 ≠ 2 then 31 else if firstE pats ≠ 0 then firstE pats else if vars.all fun v => memB v.1 names then 0 else 30
def headF (l : List ((ByteArray → List Int) → Int × Int)) (env : (ByteArray → List Int)) : Int × Int := match l with
  | [] => (0, 0)
  | f :: _ => f env
def patEs (l : List ((Int × Int × Bool) × ((ByteArray → List Int) → Int × Int))) (env : (ByteArray → List Int)) : List Int := l.map fun p => patE p.1.1 p.1.2.1 p.1.2.2 (p.2 env).2
def Tm.chk (rt : ByteArray → Bool) (sig : List Fn) : Tm → (ByteArray → List Int) → Int × Int
  | ⟨op, name, sort, num, l, vars, pat⟩, env =>
    if shapeE rt sig op name num l.length (headOp l) vars pat.length ≠ 0 then (0, shapeE rt sig op name num l.length (headOp l) vars pat.length)
    else if op = 18 then varE name sort env
    else if op = 19 then
      (if underE (headF (l.map fun u => Tm.chk rt sig u) (bindV vars env)) (patEs (pat.map fun p => ((limE p, p.op, p.bare), Tm.chk rt sig p)) (bindV vars env)) vars ((pat.map Tm.vn).flatten) ≠ 0
        then (0, underE (headF (l.map fun u => Tm.chk rt sig u) (bindV vars env)) (patEs (pat.map fun p => ((limE p, p.op, p.bare), Tm.chk rt sig p)) (bindV vars env)) vars ((pat.map Tm.vn).flatten)) else (2, 0))
    else if (chkL (l.map fun u => Tm.chk rt sig u) env).2 ≠ 0 then (0, (chkL (l.map fun u => Tm.chk rt sig u) env).2)
    else match sortOfT sig op name (chkL (l.map fun u => Tm.chk rt sig u) env).1 with
      | some s => (s, 0)
      | none => (0, 31)
end Go.Proofs.YtegmckpcchhmdaaDoor

/- The checker in memory. -/
namespace Go.Proofs.YtegmckpcchhmdaaDoor
open Go Go.RowKit
def IR (w : World) (l : List Int) (b o j : Nat) : Prop := ∀ x, l[j]? = some x → w.cell? ⟨b, o, none⟩ = some (.int .i64 x) ∧ fits x
/-- A function's signature, as a value. -/
def FnV (w : World) (B : Nat) (v : Value) (f : Fn) : Prop := ∃ a c, v = .agg #[.string f.name, .slice a f.args.length c, .int .i64 f.out] ∧ fits f.out ∧ Row B a f.args.length c 1 (IR w f.args)
def FM (w : World) (B rf : Nat) (sig : List Fn) : Prop := ∃ es, NM w rf es ∧ ∀ k, (findF k sig = none ∧ look k es = none) ∨ ∃ f v, findF k sig = some f ∧ look k es = some v ∧ FnV w B v f
def BM (w : World) (B rb : Nat) (env : ByteArray → List Int) : Prop := ∃ es, NM w rb es ∧ (∀ k, (look k es = none ∧ env k = []) ∨ ∃ v, look k es = some v ∧ w.ownsRow B 3 1 v (env k).length ((env k).map (Value.int .i64)) ∧ ∀ x ∈ env k, fits x) ∧ ∀ k k' v v' g, look k es = some v → look k' es = some v' → v.ownBlock = some g → v'.ownBlock = some g → k = k'
/-- A checker: functions by names, sorts by the names that are bound. -/
structure KS (w : World) (B r rf rb : Nat) (sig : List Fn) (env : ByteArray → List Int) : Prop where
  hr : B ≤ r
  hrf : B ≤ rf
  hrb : B ≤ rb
  ne : rf ≠ rb
  blk : w.heap[r]? = some (.cells #[.map (some rf), .map (some rb)] 98)
  fm : FM w B rf sig
  bm : BM w B rb env
/-- Blocks that hold the sorts of a name that is bound. -/
def OB (w : World) (rb g : Nat) : Prop := ∃ es k v, NM w rb es ∧ look k es = some v ∧ v.ownBlock = some g
/-- All stands, but the map rb and the blocks that it owns; and it owns no old ones more. -/
structure CF (rb : Nat) (w w' : World) : Prop where
  os : w'.os = w.os
  tape : w'.tape = w.tape
  output : w'.output = w.output
  size : w.heap.size ≤ w'.heap.size
  block : ∀ k, k < w.heap.size → k ≠ rb → ¬ OB w rb k → w'.heap[k]? = w.heap[k]?
  own : ∀ g, OB w' rb g → OB w rb g ∨ w.heap.size ≤ g
theorem CF.refl (rb : Nat) (w : World) : CF rb w w := ⟨rfl, rfl, rfl, Nat.le_refl _, fun _ _ _ _ => rfl, fun _ h => .inl h⟩
theorem CF.trans {rb : Nat} {a b c : World} (h : CF rb a b) (k : CF rb b c) : CF rb a c :=
  ⟨k.os.trans h.os, k.tape.trans h.tape, k.output.trans h.output, Nat.le_trans h.size k.size, fun j hj hr ho => by
    refine (k.block j (Nat.lt_of_lt_of_le hj h.size) hr fun o => ?_).trans (h.block j hj hr ho)
    rcases h.own j o with o | o
    · exact ho o
    · omega, fun g o => by
    rcases k.own g o with o | o
    · exact h.own g o
    · exact .inr (Nat.le_trans h.size o)⟩
theorem OB.same {w w' : World} {rb g : Nat} (h : w'.heap[rb]? = w.heap[rb]?) (o : OB w' rb g) : OB w rb g := by
  obtain ⟨es, k, v, h1, h2⟩ := o
  exact ⟨es, k, v, h1.same h.symm, h2⟩
theorem CF.of {rb C : Nat} {w w' : World} (h : Below C w w') (hC : w.heap.size ≤ C) (hrb : rb < w.heap.size) : CF rb w w' :=
  ⟨h.os, h.tape, h.output, h.size, fun k hk _ _ => h.block k (Nat.lt_of_lt_of_le hk hC), fun _ o => .inl (o.same (h.block rb (by omega)))⟩
theorem CF.blk {rb q : Nat} {w w' : World} {x : Obj} (h : CF rb w w') (hx : w.heap[q]? = some x) (hq : q ≠ rb) (ho : ¬ OB w rb q) : w'.heap[q]? = some x := by
  rw [h.block q (Array.getElem?_eq_some_iff.1 hx).1 hq ho]
  exact hx
theorem nm_det {w : World} {r : Nat} {es es' : List (ByteArray × Value)} (h : NM w r es) (h' : NM w r es') : es = es' := by
  obtain ⟨a, c, h1, h2⟩ := h
  obtain ⟨a', c', h1', h2'⟩ := h'
  rw [h1] at h1'
  injection h1' with e
  injection e with e
  subst e
  rw [h2] at h2'
  clear h1 h2
  induction es generalizing es' with
  | nil => cases es' with
    | nil => rfl
    | cons p l => simp at h2'
  | cons p l ih => cases es' with
    | nil => simp at h2'
    | cons q m =>
      simp only [List.map_cons, List.cons.injEq, Prod.mk.injEq] at h2'
      obtain ⟨⟨e1, e2⟩, e3⟩ := h2'
      injection e1 with e1
      rw [Prod.ext e1 e2, ih e3]
section
variable {w : World} {B r rf rb : Nat} {sig : List Fn} {env : ByteArray → List Int}
theorem KS.rb_lt (h : KS w B r rf rb sig env) : rb < w.heap.size := by
  obtain ⟨es, h1, _⟩ := h.bm
  exact h1.lt
theorem KS.rf_lt (h : KS w B r rf rb sig env) : rf < w.heap.size := by
  obtain ⟨es, h1, _⟩ := h.fm
  exact h1.lt
theorem KS.r_lt (h : KS w B r rf rb sig env) : r < w.heap.size := (Array.getElem?_eq_some_iff.1 h.blk).1
/-- What is owned is a row of ints of the call's own. -/
theorem KS.owned (h : KS w B r rf rb sig env) {g : Nat} (o : OB w rb g) : B ≤ g ∧ g < w.heap.size ∧ ∃ cur, w.heap[g]? = some (.cells cur 3 (0, 0)) := by
  obtain ⟨es', k, v, h1, h2, h3⟩ := o
  obtain ⟨es, e1, e2, _⟩ := h.bm
  obtain rfl := nm_det e1 h1
  rcases e2 k with ⟨e3, _⟩ | ⟨v', e3, e4, _⟩
  · rw [h2] at e3; cases e3
  · rw [h2] at e3
    injection e3 with e3
    subst e3
    rcases e4.2 with ⟨rfl, _⟩ | ⟨g', cap, cur, rfl, hB, hg, _⟩
    · cases h3
    · cases h3
      exact ⟨hB, (Array.getElem?_eq_some_iff.1 hg).1, cur, hg⟩
theorem KS.r_free (h : KS w B r rf rb sig env) : ¬ OB w rb r := fun o => by
  obtain ⟨_, _, cur, hc⟩ := h.owned o
  rw [h.blk] at hc
  injection hc with hc
  injection hc with _ hc
  exact absurd hc (by decide)
theorem KS.rf_free (h : KS w B r rf rb sig env) : ¬ OB w rb rf := fun o => by
  obtain ⟨_, _, cur, hc⟩ := h.owned o
  obtain ⟨es, ⟨a, c, h1, _⟩, _⟩ := h.fm
  rw [h1] at hc
  cases hc
theorem KS.r_ne (h : KS w B r rf rb sig env) : r ≠ rb := fun e => by
  obtain ⟨es, ⟨a, c, h1, _⟩, _⟩ := h.bm
  have := h.blk
  rw [e, h1] at this
  cases this
theorem KS.cf_below (h : KS w B r rf rb sig env) {w' : World} (hc : CF rb w w') : Below B w w' := by
  have hs := h.rb_lt
  have hb := h.hrb
  exact ⟨hc.os, hc.tape, hc.output, hc.size, fun k hk => hc.block k (by omega) (by omega) fun o => by have := (h.owned o).1; omega⟩
theorem FnV.below {w' : World} {v : Value} {f : Fn} (h : FnV w B v f) (hb : Below B w w') : FnV w' B v f := by
  obtain ⟨a, c, h1, h2, h3⟩ := h
  refine ⟨a, c, h1, h2, h3.mono (Nat.le_refl _) fun b o j hbB hj x hx => ⟨?_, (hj x hx).2⟩⟩
  rw [hb.cell (p := ⟨b, o, none⟩) hbB]
  exact (hj x hx).1
theorem FM.same {w' : World} (h : FM w B rf sig) (hb : Below B w w') (hf : w'.heap[rf]? = w.heap[rf]?) : FM w' B rf sig := by
  obtain ⟨es, h1, h2⟩ := h
  refine ⟨es, h1.same hf, fun k => (h2 k).imp id ?_⟩
  rintro ⟨f, v, e1, e2, e3⟩
  exact ⟨f, v, e1, e2, e3.below hb⟩
/-- Memory that only grows leaves a checker alone. -/
theorem KS.below {w' : World} {C : Nat} (h : KS w B r rf rb sig env) (hb : Below C w w') (hC : w.heap.size ≤ C) : KS w' B r rf rb sig env := by
  have h1 := h.r_lt
  have h2 := h.rf_lt
  have h3 := h.rb_lt
  have h4 := h.hrf
  refine ⟨h.hr, h.hrf, h.hrb, h.ne, by rw [hb.block r (by omega)]; exact h.blk, h.fm.same (hb.mono (by omega)) (hb.block rf (by omega)), ?_⟩
  have hO := fun g (o : OB w rb g) => (h.owned o).2.1
  obtain ⟨es, e1, e2, e3⟩ := h.bm
  refine ⟨es, e1.same (hb.block rb (by omega)), fun k => (e2 k).imp id ?_, e3⟩
  rintro ⟨v, f1, f2, f3⟩
  refine ⟨v, f1, ⟨f2.1, f2.2.imp id ?_⟩, f3⟩
  rintro ⟨g, cap, cur, rfl, g1, g2, g3⟩
  exact ⟨g, cap, cur, rfl, g1, by rw [hb.block g (by have := hO g ⟨es, k, _, e1, f1, rfl⟩; omega)]; exact g2, g3⟩
theorem KS.cells (h : KS w B r rf rb sig env) : w.cell? ⟨r, 0, none⟩ = some (.map (some rf)) ∧ w.cell? ⟨r, 1, none⟩ = some (.map (some rb)) := by
  obtain ⟨_, h2, _⟩ := Go.Proofs.YtegmckpcchhmdaaDoor.blk h.blk
  exact ⟨h2 0 _ rfl, h2 1 _ rfl⟩
end
theorem umF : Tryd.prog.underlying 95 = some (.map 9 41) := by kernel_rfl
theorem umB : Tryd.prog.underlying 96 = some (.map 9 39) := by kernel_rfl
theorem ukS : Tryd.prog.underlying 9 = some .string := by kernel_rfl
def zeroFun : Value := .agg #[.string .empty, .slice none 0 0, .int .i64 0]
set_option maxRecDepth 100000 in
theorem zF (w : World) : (zeroValue 41).run Tryd.prog w = .ok zeroFun w := by unfold zeroFun; go_simp; rfl
set_option maxRecDepth 100000 in
theorem zB (w : World) : (zeroValue 39).run Tryd.prog w = .ok (.slice none 0 0) w := by go_simp
end Go.Proofs.YtegmckpcchhmdaaDoor

/- The check's small functions: shapes. -/
namespace Go.Proofs.YtegmckpcchhmdaaDoor
open Go Go.RowKit
theorem a2 {w : World} {b o : Nat} {v : Value} (hb : b < w.heap.size) (h : w.cell? ⟨b, o, none⟩ = some v) (x y : Obj) : ((w.alloc x).alloc y).cell? ⟨b, o, none⟩ = some v := by
  have h1 := (Below.refl w.heap.size w).alloc (Nat.le_refl _) x
  have h2 := h1.alloc (show w.heap.size ≤ (w.alloc x).heap.size by simp) y
  exact (h2.cell (p := ⟨b, o, none⟩) hb).trans h
theorem a1 {w : World} {b o : Nat} {v : Value} (hb : b < w.heap.size) (h : w.cell? ⟨b, o, none⟩ = some v) (x : Obj) : (w.alloc x).cell? ⟨b, o, none⟩ = some v := ((((Below.refl w.heap.size w).alloc (Nat.le_refl _) x)).cell (p := ⟨b, o, none⟩) hb).trans h
set_option maxRecDepth 100000 in
set_option maxHeartbeats 4000000 in
theorem hasOperands_any {w : World} {b o n c : Nat} {a : Option Addr} {op h : Int} (hb : b < w.heap.size) (h0 : 0 < w.heap.size) (hR : RL w) (c0 : w.cell? ⟨b, o, none⟩ = some (.int .i64 op)) (c4 : w.cell? ⟨b, o + 4, none⟩ = some (.slice a n c)) (hop : 4 ≤ op ∧ op ≤ 16)
    (hh : n ≠ 0 → ∃ b' o', a = some ⟨b', o', none⟩ ∧ b' < w.heap.size ∧ w.cell? ⟨b', o', none⟩ = some (.int .i64 h)) (hnm : n ≤ 281474976710656) :
    Calls Tryd.prog 70 #[.agg #[.pointer (some ⟨b, o, none⟩)]] w (VPost (.bool (operandsB op n h)) w) := by
  obtain ⟨k, rfl⟩ : ∃ k : Nat, op = (k : Int) := ⟨op.toNat, by omega⟩
  have hk1 : 4 ≤ k := by omega
  have hk2 : k ≤ 16 := by omega
  have hki : (k : Int) < 17 := by omega
  unfold operandsB
  rw [show ((k : Int)).toNat = k from by omega]
  have r1 := (hR k hk1 hk2).2.1
  obtain ⟨W, eW, hbW, hsW, hcW, hhW⟩ := box_new w #[.pointer (some ⟨b, o, none⟩)] 133
  have q0 : W.cell? ⟨w.heap.size, 0, none⟩ = some (.pointer (some ⟨b, o, none⟩)) := hcW 0 _ rfl
  have d0 : W.cell? ⟨b, o, none⟩ = some (.int .i64 (k : Int)) := (hbW.cell (p := ⟨b, o, none⟩) hb).trans c0
  have d4 : W.cell? ⟨b, o + 4, none⟩ = some (.slice a n c) := (hbW.cell (p := ⟨b, o + 4, none⟩) hb).trans c4
  have d1 : W.cell? ⟨0, k * 4 + 1, none⟩ = some (.int .i64 (opCount k)) := (hbW.cell (p := ⟨0, k * 4 + 1, none⟩) h0).trans r1
  have HBW := hide hbW
  have HS := hide hsW
  have HH := hide hh
  clear r1 hR hbW hsW hcW hhW c0 c4 hop hh
  have h15 : (k = 15 → opCount k = 2) := fun e => by rw [e]; rfl
  have H15 := hide h15
  clear h15
  generalize hcnt : opCount k = cnt at *
  have HC := hide hcnt
  clear hcnt
  by_cases hm : cnt = -1
  · have e1 : (cnt != -1) = false := by simp [hm]
    have hk15 : ¬ k = 15 := fun e => by have := unhide H15 e; omega
    have e2 : ((k : Int) != 15) = true := by simp; omega
    have e3 : ((k : Int) == 15) = false := by simp; omega
    have HM := hide (And.intro hm (And.intro hk15 e3))
    clear hm hk15 e3
    go_enter Tryd.func70, Tryd.ntmps70
    go_wp2
    go_ret
    refine ⟨?_, unhide HBW⟩
    rw [(unhide HM).1, (unhide HM).2.2]
    rfl
  · have e1 : (cnt != -1) = true := by simp [hm]
    by_cases hn : cnt = (n : Int)
    · have e2 : (cnt != (n : Int)) = false := by simp [hn]
      by_cases hk15 : k = 15
      · have e3 : ((k : Int) != 15) = false := by simp; omega
        have hcn : cnt = 2 := unhide H15 hk15
        obtain ⟨b', o', rfl, hb', hc'⟩ := unhide HH (by omega)
        have d5 : W.cell? ⟨b', o', none⟩ = some (.int .i64 h) := ((unhide HBW).cell (p := ⟨b', o', none⟩) hb').trans hc'
        have hn0 : (0 : Int) < (n : Int) := by omega
        have hbW' : b' < W.heap.size := by have := unhide HS; omega
        have HV := hide (view_any b' o' h W d5 hbW')
        have HM := hide (And.intro hm (And.intro hn hk15))
        clear hm hn hk15 hcn hc' hb'
        go_enter Tryd.func70, Tryd.ntmps70
        go_wp2_with fail
        refine (unhide HV).mono ?_
        rintro e w2 ⟨rfl, hb2⟩
        have HB2 := hide hb2
        clear hb2
        by_cases h1 : h = 1
        · have hkk : kindOf h = 108 := by rw [h1]; rfl
          rw [hkk]
          have H1 := hide h1
          clear h1 hkk
          have ta0 := fun w => ta_yes (ty := 108) (v := .agg #[.pointer (some ⟨b', o', none⟩)]) (w := w) rfl rfl
          go_wp2
          go_ret
          refine ⟨?_, ((unhide HBW).trans ((unhide HB2).mono (unhide HBW).size)).alloc (by have := (unhide HBW).size; have := (unhide HB2).size; omega) _⟩
          rw [(unhide HM).2.2, unhide H1, (unhide HM).2.1]
          simp
        · have hkk : kindOf h ≠ 108 := by
            rcases op_kind (op := h) with ⟨h, e⟩ | ⟨h, e⟩ | ⟨h, e⟩ | ⟨h, e⟩ | ⟨h, e⟩ | ⟨h, e⟩ | ⟨h, e⟩ <;> first | exact absurd h h1 | (rw [e]; decide)
          generalize kindOf h = kk at *
          have H1 := hide h1
          clear h1
          have ta0 := fun w => ta_no (ty := 108) (v := .agg #[.pointer (some ⟨b', o', none⟩)]) (z := .agg #[.pointer none]) (w := w) hkk rfl rfl (by go_simp)
          go_wp2
          go_ret
          refine ⟨?_, ((unhide HBW).trans ((unhide HB2).mono (unhide HBW).size)).alloc (by have := (unhide HBW).size; have := (unhide HB2).size; omega) _⟩
          rw [(unhide HM).2.2, beq_eq_false_iff_ne.2 (unhide H1)]
          simp
      · have e3 : ((k : Int) != 15) = true := by simp; omega
        have e4 : ((k : Int) == 15) = false := by simp; omega
        have HM := hide (And.intro hm (And.intro hn e4))
        clear hm hn hk15 e4
        go_enter Tryd.func70, Tryd.ntmps70
        go_wp2
        go_ret
        refine ⟨?_, unhide HBW⟩
        rw [(unhide HM).2.1, (unhide HM).2.2]
        simp
    · have e2 : (cnt != (n : Int)) = true := by simp [hn]
      have HM := hide (And.intro hm hn)
      clear hm hn
      go_enter Tryd.func70, Tryd.ntmps70
      go_wp2
      go_ret
      refine ⟨?_, unhide HBW⟩
      rw [beq_eq_false_iff_ne.2 (unhide HM).1, beq_eq_false_iff_ne.2 (unhide HM).2]
      rfl
end Go.Proofs.YtegmckpcchhmdaaDoor

namespace Go.Proofs.YtegmckpcchhmdaaDoor
open Go Go.RowKit
def seenL (l : List ByteArray) : List (ByteArray × Value) := l.foldl (fun es k => put k (.agg #[]) es) []
theorem seenL_snoc (l : List ByteArray) (k : ByteArray) : seenL (l ++ [k]) = put k (.agg #[]) (seenL l) := by simp [seenL]
theorem memB_snoc (k j : ByteArray) (l : List ByteArray) : memB k (l ++ [j]) = (memB k l || decide (j = k)) := by simp [memB]
theorem snoc_ind {α : Type} {p : List α → Prop} (h0 : p []) (h1 : ∀ l a, p l → p (l ++ [a])) (l : List α) : p l := by
  have : ∀ m : List α, p m.reverse := by
    intro m
    induction m with
    | nil => exact h0
    | cons a m ih => rw [List.reverse_cons]; exact h1 _ _ ih
  have h := this l.reverse
  rwa [List.reverse_reverse] at h
theorem seenL_look (k : ByteArray) (l : List ByteArray) : (look k (seenL l)).isSome = memB k l := by
  refine snoc_ind (p := fun l => (look k (seenL l)).isSome = memB k l) rfl (fun l a ih => ?_) l
  rw [seenL_snoc, look_put, memB_snoc]
  by_cases h : k = a
  · simp [h]
  · have : ¬ a = k := fun e => h e.symm
    rw [if_neg h, ih]
    simp [this]
theorem distinct_snoc (l : List ByteArray) (k : ByteArray) : distinct (l ++ [k]) = (distinct l && !memB k l) := by
  induction l with
  | nil => rfl
  | cons a l ih =>
    show (!memB a (l ++ [k]) && distinct (l ++ [k])) = ((!memB a l && distinct l) && !memB k (a :: l))
    rw [ih, memB_snoc]
    have e : memB k (a :: l) = (decide (a = k) || memB k l) := rfl
    rw [e]
    have hs : decide (k = a) = decide (a = k) := by
      by_cases h : k = a
      · simp [h]
      · have : ¬ a = k := fun e => h e.symm
        simp [h, this]
    rw [hs]
    cases memB a l <;> cases distinct l <;> cases memB k l <;> cases decide (a = k) <;> rfl
theorem seenL_len (l : List ByteArray) : (seenL l).length ≤ l.length ∧ ((seenL l).length = l.length ↔ distinct l = true) := by
  refine snoc_ind (p := fun l => (seenL l).length ≤ l.length ∧ ((seenL l).length = l.length ↔ distinct l = true)) ⟨Nat.le_refl _, by simp [seenL, distinct]⟩ (fun l a ih => ?_) l
  rw [seenL_snoc, put_len, distinct_snoc, List.length_append]
  have hl := seenL_look a l
  cases hm : memB a l with
  | true =>
    rw [hm] at hl
    have hn : ¬ look a (seenL l) = none := fun e => by rw [e] at hl; cases hl
    rw [if_neg hn]
    refine ⟨by simp; omega, ?_⟩
    simp
    omega
  | false =>
    rw [hm] at hl
    have hn : look a (seenL l) = none := by
      cases h : look a (seenL l) with
      | none => rfl
      | some v => rw [h] at hl; cases hl
    rw [if_pos hn]
    refine ⟨by simp; omega, ?_⟩
    have := ih.2
    simp
    exact this
theorem bindersB_take {l : List (ByteArray × Int)} {i : Nat} (h : i < l.length) : ((l.take (i + 1)).all fun v => wordB v.1 && sortB v.2) = (((l.take i).all fun v => wordB v.1 && sortB v.2) && (wordB l[i].1 && sortB l[i].2)) := by
  rw [take_more h, List.all_append]
  simp
theorem bindersB_no {l : List (ByteArray × Int)} {i : Nat} (h : i < l.length) (hn : (wordB l[i].1 && sortB l[i].2) = false) : bindersB l = false := by
  unfold bindersB
  have : (l.all fun v => wordB v.1 && sortB v.2) = false := by
    rw [List.all_eq_false]
    exact ⟨l[i], List.getElem_mem h, by rw [hn]; decide⟩
  rw [this]
  rfl
theorem umU : Tryd.prog.underlying 175 = some (.map 9 177) := by kernel_rfl
set_option maxRecDepth 1000000 in
set_option maxHeartbeats 16000000 in
theorem areBinders_any (B : Nat) (w : World) (a : Option Addr) (n c : Nat) (x : List (ByteArray × Int)) (hx : Row B a n c 2 (BR w x)) (hn : n = x.length) (hB : B ≤ w.heap.size) (hs : ∀ v ∈ x, v.1.size ≤ 9223372036854775807) :
    Calls Tryd.prog 71 #[.slice a n c] w (VPost (.bool (bindersB x)) w) := by
  have HX := hide hx
  have HN := hide hn
  have HSz := hide hs
  have hmax : n ≤ 281474976710656 := by have := hx.1; have := hx.2.1; omega
  clear hx hn hs
  have km : (Instr.makeMap 175 none).run Tryd.prog w = .ok (.map (some w.heap.size)) (w.alloc (.map #[] 0)) := rfl
  go_enter Tryd.func71, Tryd.ntmps71
  go_wp2
  go_loopw [9] (fun iv wr => ∃ i : Nat, i ≤ n ∧ iv = .int .i64 (i : Int) ∧ ((x.take i).all fun v => wordB v.1 && sortB v.2) = true ∧ NM wr w.heap.size (seenL ((x.take i).map (·.1))) ∧ Below w.heap.size w wr) (fun iv _ => (n - (intOf iv).toNat))
  case atStart => exact ⟨0, Nat.zero_le _, rfl, rfl, NM.new w, (Below.refl _ w).alloc (Nat.le_refl _) _⟩
  case round =>
    obtain ⟨i, hi, rfl, hok, hNM, hbel⟩ := hrel
    by_cases hlt : i < n
    · have h1 : i < x.length := by have := unhide HN; omega
      have hd1 : decide ((i : Int) < (n : Int)) = true := by simp; omega
      have hXi : (i : Int) < (n : Int) := by omega
      have hcap : (i : Int) < 281474976710656 := by omega
      obtain ⟨bv, ov, rfl, hbvB, hj⟩ := (unhide HX).2.2 (by omega)
      obtain ⟨rg, hfit⟩ := hj i (by omega) _ (List.getElem?_eq_getElem h1)
      have hsz := unhide HSz _ (List.getElem_mem h1)
      have htk := bindersB_take h1
      have hno := bindersB_no h1
      have hmap : (x.take (i + 1)).map (·.1) = (x.take i).map (·.1) ++ [x[i].1] := by rw [take_more h1, List.map_append]; rfl
      generalize hu : x[i] = u at *
      obtain ⟨u1, u2⟩ := u
      have hbvw : bv < w.heap.size := by omega
      have p0 : wr.cell? ⟨bv, ov + i * 2, none⟩ = some (.string u1) := (hbel.cell (p := ⟨bv, ov + i * 2, none⟩) hbvw).trans (rg 0 _ rfl)
      have p1 : wr.cell? ⟨bv, ov + i * 2 + 1, none⟩ = some (.int .i64 u2) := (hbel.cell (p := ⟨bv, ov + i * 2 + 1, none⟩) hbvw).trans (rg 1 _ rfl)
      have hbv : bv < wr.heap.size := by have := hbel.size; omega
      obtain ⟨V, eV, hbV, hsV, hcV, hhV⟩ := box_new wr #[.string u1, .int .i64 u2] 36
      have v0 : V.cell? ⟨wr.heap.size, 0, none⟩ = some (.string u1) := hcV 0 _ rfl
      have v1 : V.cell? ⟨wr.heap.size, 1, none⟩ = some (.int .i64 u2) := hcV 1 _ rfl
      have hmlt : w.heap.size < wr.heap.size := hNM.lt
      have HM := hide (And.intro hok (And.intro htk (And.intro hno hmap)))
      have HW := hide (isWord_b u1 V hsz)
      have HI := hide (And.intro hbel (And.intro hbV (And.intro hhV hNM)))
      have HSV := hide hsV
      clear hj rg hfit hu hok htk hno hmap hbel hbV hhV hcV hNM hsV
      cases hw1 : wordB u1 with
      | false =>
        rw [hw1] at HW
        have HW1 := hide hw1
        clear hw1
        go_wp2_with fail
        refine (unhide HW).mono ?_
        rintro e w3 ⟨rfl, hb3⟩
        have H3 := hide hb3
        clear hb3
        go_wp2
        go_ret
        obtain ⟨hok, htk, hno, _⟩ := unhide HM
        obtain ⟨hbel, hbV, _, _⟩ := unhide HI
        refine ⟨?_, (hbel.trans (hbV.mono (by omega))).trans ((unhide H3).mono (by have := unhide HSV; omega))⟩
        rw [hno (by rw [unhide HW1]; rfl)]
        rfl
      | true =>
        rw [hw1] at HW
        have HW1 := hide hw1
        clear hw1
        go_wp2_with fail
        refine (unhide HW).mono ?_
        rintro e w3 ⟨rfl, hb3⟩
        obtain ⟨hbel, hbV, hhV, hNM⟩ := unhide HI
        have hh3 := (hb3.block wr.heap.size (by have := unhide HSV; omega)).trans hhV
        have g0 : w3.cell? ⟨wr.heap.size, 0, none⟩ = some (.string u1) := (blk hh3).2.1 0 _ rfl
        have g1 : w3.cell? ⟨wr.heap.size, 1, none⟩ = some (.int .i64 u2) := (blk hh3).2.1 1 _ rfl
        have hb03 : Below w.heap.size w w3 := (hbel.trans (hbV.mono (by omega))).trans (hb3.mono (by have := unhide HSV; omega))
        have hNM3 : NM w3 w.heap.size (seenL ((x.take i).map (·.1))) := (hNM.below hbV hmlt).below hb3 (by have := unhide HSV; omega)
        obtain ⟨w4, hrun, hput, hNM4⟩ := nm_update (P := Tryd.prog) (k := u1) (v := .agg #[]) umU ukS hNM3
        have HS2 := hide (isSort_any u2 w3)
        have H3 := hide (And.intro hb03 (And.intro hput hNM4))
        clear hb3 hbel hbV hhV hNM hh3 hb03 hNM3 hput hNM4
        cases hs1 : sortB u2 with
        | false =>
          have HS1 := hide hs1
          unfold sortB at hs1
          rw [hs1] at HS2
          clear hs1 hrun
          go_wp2_with fail
          refine (unhide HS2).mono ?_
          rintro e w' ⟨rfl, rfl⟩
          go_wp2
          go_ret
          obtain ⟨hok, htk, hno, _⟩ := unhide HM
          refine ⟨?_, (unhide H3).1⟩
          rw [hno (by rw [unhide HW1, unhide HS1]; rfl)]
          rfl
        | true =>
          have HS1 := hide hs1
          unfold sortB at hs1
          rw [hs1] at HS2
          clear hs1
          go_wp2_with fail
          refine (unhide HS2).mono ?_
          rintro e w' ⟨rfl, rfl⟩
          go_wp2
          obtain ⟨hok, htk, hno, hmap⟩ := unhide HM
          obtain ⟨hb03, hput, hNM4⟩ := unhide H3
          refine ⟨⟨i + 1, by omega, rfl, ?_, ?_, hput.below hb03 (Nat.le_refl _)⟩, by simp only [intOf]; omega⟩
          · rw [htk, hok, unhide HW1, unhide HS1]; rfl
          · rw [hmap, seenL_snoc]; exact hNM4
    · have hin : i = n := by omega
      have hd1 : decide ((i : Int) < (n : Int)) = false := by simp; omega
      have htake : x.take i = x := List.take_of_length_le (by have := unhide HN; omega)
      rw [htake] at hok hNM
      have hlen := nm_len (P := Tryd.prog) (ty := 3) umU hNM
      have hsl := seenL_len (x.map (·.1))
      have HB := hide hbel
      have HSl := hide (And.intro hok hsl)
      clear htake hNM hbel hok hsl
      generalize hm : (seenL (x.map (·.1))).length = m at *
      have HMm := hide hm
      clear hm
      by_cases hn0 : n = 0
      · have hN0 : decide (0 < n) = false := by simp [hn0]
        have H0 := hide hn0
        clear hn0
        go_wp2
        go_ret
        refine ⟨?_, unhide HB⟩
        have : x.length = 0 := by have := unhide HN; have := unhide H0; omega
        unfold bindersB
        rw [this]
        simp
      · have hposN : 0 < n := by omega
        have H0 := hide hn0
        clear hn0
        cases hq : ((m : Int) == (n : Int)) with
        | true =>
          have HQ := hide hq
          clear hq
          have hq2 : ((m : Int) == (n : Int)) = true := unhide HQ
          go_wp2
          go_ret
          refine ⟨?_, unhide HB⟩
          have e : m = n := by have := unhide HQ; simp at this; omega
          obtain ⟨hok, _, hiff⟩ := unhide HSl
          have hd : distinct (x.map (·.1)) = true := hiff.1 (by rw [List.length_map, ← unhide HN]; exact e)
          unfold bindersB
          rw [hok, hd, beq_eq_false_iff_ne.2 (show x.length ≠ 0 by have := unhide HN; omega)]
          rfl
        | false =>
          have HQ := hide hq
          clear hq
          have hq2 : ((m : Int) == (n : Int)) = false := unhide HQ
          go_wp2
          go_ret
          refine ⟨?_, unhide HB⟩
          have e : ¬ m = n := fun e => by have := unhide HQ; rw [e] at this; simp at this
          obtain ⟨hok, _, hiff⟩ := unhide HSl
          have hd : distinct (x.map (·.1)) = false := by
            cases h : distinct (x.map (·.1)) with
            | false => rfl
            | true => exact absurd (by have := hiff.2 h; rw [List.length_map, ← unhide HN] at this; exact this) e
          unfold bindersB
          rw [hok, hd]
          simp
end Go.Proofs.YtegmckpcchhmdaaDoor
