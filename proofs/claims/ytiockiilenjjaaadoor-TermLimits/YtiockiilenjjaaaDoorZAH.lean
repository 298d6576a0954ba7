/- What a term's sort is: the words of the check; its small functions. -/
import Derived.Test.YtiockiilenjjaaaDoorZAC
import Derived.MapKept
import Derived.ProofKit
import Derived.WalkKit
import Derived.Test.YtiockiilenjjaaaDoorZAG
import Derived.LaidEqlPtr
import Derived.Deep.QuietTactic
import Derived.BigQuiet
set_option linter.unusedVariables false
set_option linter.unusedSimpArgs false

/- Maps by names: what hangs on no program. -/
namespace Go.Proofs.YtiockiilenjjaaaDoor
open Go Go.RowKit
/-- A map by names holds these, in this order. -/
def NM (w : World) (r : Nat) (es : List (ByteArray × Value)) : Prop := ∃ (a : Array MapEntry) (c : Nat), w.heap[r]? = some (.map a c) ∧ a.toList.map (fun e => (e.key, e.val)) = es.map (fun p => (Value.string p.1, p.2))
def look (k : ByteArray) : List (ByteArray × Value) → Option Value
  | [] => none
  | p :: l => if k = p.1 then some p.2 else look k l
def put (k : ByteArray) (v : Value) : List (ByteArray × Value) → List (ByteArray × Value)
  | [] => [(k, v)]
  | p :: l => if k = p.1 then (k, v) :: l else p :: put k v l
theorem look_put (k j : ByteArray) (v : Value) (es : List (ByteArray × Value)) : look j (put k v es) = if j = k then some v else look j es := by
  induction es with
  | nil => simp [put, look]
  | cons p l ih =>
    unfold put
    by_cases hk : k = p.1
    · rw [if_pos hk]
      simp only [look]
      by_cases hj : j = k
      · simp [hj]
      · rw [if_neg hj, if_neg hj, if_neg (by rw [← hk]; exact hj)]
    · rw [if_neg hk]
      simp only [look, ih]
      by_cases hj : j = k
      · subst hj
        simp [hk]
      · simp [hj]
theorem put_len (k : ByteArray) (v : Value) (es : List (ByteArray × Value)) : (put k v es).length = if look k es = none then es.length + 1 else es.length := by
  induction es with
  | nil => simp [put, look]
  | cons p l ih =>
    unfold put
    by_cases hk : k = p.1
    · simp [look, hk]
    · simp only [if_neg hk, List.length_cons, ih, look]
      split <;> rfl
theorem find_nm {k : ByteArray} : ∀ (es : List (ByteArray × Value)) (l : List MapEntry) (i : Nat), l.map (fun e => (e.key, e.val)) = es.map (fun p => (Value.string p.1, p.2)) →
    (look k es = none ∧ Instr.findNow .string (.string k) l i = some none ∧ ∀ v, put k v es = es ++ [(k, v)]) ∨
    ∃ j v0, look k es = some v0 ∧ Instr.findNow .string (.string k) l i = some (some (i + j, v0)) ∧ (∃ h : j < l.length, l[j].key = .string k) ∧ ∀ v, (l.modify j fun e => { e with key := .string k, val := v }).map (fun e => (e.key, e.val)) = (put k v es).map (fun p => (Value.string p.1, p.2))
  | [], l, i, h => by
    have : l = [] := by simpa using h
    subst this
    exact .inl ⟨rfl, rfl, fun _ => rfl⟩
  | p :: es, [], i, h => by simp at h
  | p :: es, e :: l, i, h => by
    simp only [List.map_cons, List.cons.injEq, Prod.mk.injEq] at h
    obtain ⟨⟨h1, h2⟩, h3⟩ := h
    by_cases hk : k = p.1
    · refine .inr ⟨0, p.2, by simp [look, hk], ?_, ⟨by simp, by simp [h1, hk]⟩, fun v => ?_⟩
      · simp [Instr.findNow, h1, Instr.sameNow, hk, h2, (MapKept.bytes_beq p.1 p.1).2 rfl]
      · simp [put, hk, h3]
    · have hb : (k == p.1) = false := by
        cases hc : (k == p.1) with
        | false => rfl
        | true => exact absurd ((MapKept.bytes_beq _ _).1 hc) hk
      have hs : Instr.findNow .string (.string k) (e :: l) i = Instr.findNow .string (.string k) l (i + 1) := by
        simp [Instr.findNow, h1, Instr.sameNow, hb]
      rcases find_nm (k := k) es l (i + 1) h3 with ⟨a1, a2, a3⟩ | ⟨j, v0, a1, a2, ⟨a3, a4⟩, a5⟩
      · exact .inl ⟨by simp [look, hk, a1], hs.trans a2, fun v => by simp [put, hk, a3 v]⟩
      · refine .inr ⟨j + 1, v0, by simp [look, hk, a1], by rw [hs, a2]; congr 3; omega, ⟨by simp; omega, by simpa using a4⟩, fun v => ?_⟩
        have := a5 v
        simp only [List.modify_succ_cons, List.map_cons, put, if_neg hk, this, h1, h2]
section
variable {P : Program} {mt kt et : TypeId}
theorem nm_lookup {w : World} {r : Nat} {es : List (ByteArray × Value)} {k : ByteArray} {z : Value} (um : P.underlying mt = some (.map kt et)) (uk : P.underlying kt = some .string) (hz : (zeroValue et).run P w = .ok z w) (h : NM w r es) :
    (Instr.lookup mt (.map (some r)) (.string k) true).run P w = .ok (.tuple #[(look k es).getD z, .bool (look k es).isSome]) w ∧ (Instr.lookup mt (.map (some r)) (.string k) false).run P w = .ok ((look k es).getD z) w := by
  obtain ⟨a, c, h1, h2⟩ := h
  have ik : MapKept.IsKey .string (.string k) := trivial
  rcases find_nm (k := k) es a.toList 0 h2 with ⟨a1, a2, _⟩ | ⟨j, v0, a1, a2, _, _⟩
  · rw [a1]
    constructor <;> simp [Instr.lookup, run_underlying um, MapKept.run_getObj_map h1, MapKept.run_checkKey uk ik, MapKept.run_findKey uk a2, hz, Result.andThen]
  · rw [a1]
    constructor <;> simp [Instr.lookup, run_underlying um, MapKept.run_getObj_map h1, MapKept.run_checkKey uk ik, MapKept.run_findKey uk a2, Result.andThen]
theorem put_obj {w : World} {r : Nat} (o : Obj) (hlt : r < w.heap.size) : PutAt r w { w with heap := w.heap.setIfInBounds r o } ∧ ({ w with heap := w.heap.setIfInBounds r o } : World).heap[r]? = some o :=
  ⟨⟨rfl, rfl, rfl, by simp, fun k hk => by simp [Array.getElem?_setIfInBounds_ne (Ne.symm hk)]⟩, by simp [hlt]⟩
theorem nm_update {w : World} {r : Nat} {es : List (ByteArray × Value)} {k : ByteArray} {v : Value} (um : P.underlying mt = some (.map kt et)) (uk : P.underlying kt = some .string) (h : NM w r es) :
    ∃ w', (Instr.mapUpdate mt (.map (some r)) (.string k) v).run P w = .ok () w' ∧ PutAt r w w' ∧ NM w' r (put k v es) := by
  obtain ⟨a, c, h1, h2⟩ := h
  have ik : MapKept.IsKey .string (.string k) := trivial
  have hlt := (Array.getElem?_eq_some_iff.1 h1).1
  rcases find_nm (k := k) es a.toList 0 h2 with ⟨a1, a2, a3⟩ | ⟨j, v0, a1, a2, ⟨a3, a4⟩, a5⟩
  · obtain ⟨hp, ho⟩ := put_obj (w := w) (.map (a.push ⟨.string k, v, c⟩) (c + 1)) hlt
    exact ⟨_, by simp only [Instr.mapUpdate, Sem.run_bind, run_underlying um, MapKept.run_getObj_map h1, MapKept.run_checkKey uk ik, MapKept.run_findKey uk a2, MapKept.run_setObj_map _ h1, Result.andThen], hp, _, _, ho, by rw [a3 v]; simp [h2]⟩
  · obtain ⟨hp, ho⟩ := put_obj (w := w) (.map (a.modify (0 + j) fun e => { e with key := .string k, val := v }) c) hlt
    have hj : (((a[0 + j]?).map (·.key)).getD (.string k)) = .string k := by
      have : j < a.size := by simpa using a3
      simp only [Nat.zero_add]
      rw [Array.getElem?_eq_getElem this]
      simpa using a4
    have hst : (Instr.keyThatStays (.string k) (.string k)).run P w = .ok (.string k) w := by
      simp [Instr.keyThatStays, MapKept.sameBits_self ik]
    refine ⟨_, ?_, hp, _, _, ho, ?_⟩
    · simp only [Instr.mapUpdate, Sem.run_bind, run_underlying um, MapKept.run_getObj_map h1, MapKept.run_checkKey uk ik, MapKept.run_findKey uk a2, hj, hst, MapKept.run_setObj_map _ h1, Result.andThen]
    · simpa using a5 v
theorem nm_len {w : World} {r : Nat} {es : List (ByteArray × Value)} {ty : TypeId} (um : P.underlying mt = some (.map kt et)) (h : NM w r es) : (Builtin.len_ #[mt] ty #[.map (some r)]).run P w = .ok (.int .i64 es.length) w := by
  obtain ⟨a, c, h1, h2⟩ := h
  have : a.size = es.length := by
    have := congrArg List.length h2
    simpa using this
  simp [Builtin.len_, run_underlying um, MapKept.run_getObj_map h1, this, goInt]
end
theorem NM.new (w : World) : NM (w.alloc (.map #[] 0)) w.heap.size [] := ⟨#[], 0, (MapKept.heap_alloc w _).1, rfl⟩
theorem NM.lt {w : World} {r : Nat} {es : List (ByteArray × Value)} (h : NM w r es) : r < w.heap.size := by
  obtain ⟨_, _, h, _⟩ := h
  exact (Array.getElem?_eq_some_iff.1 h).1
theorem NM.same {w w' : World} {r : Nat} {es : List (ByteArray × Value)} (h : NM w r es) (hb : w'.heap[r]? = w.heap[r]?) : NM w' r es := by
  obtain ⟨a, c, h1, h2⟩ := h
  exact ⟨a, c, hb.trans h1, h2⟩
theorem NM.below {w w' : World} {r B : Nat} {es : List (ByteArray × Value)} (h : NM w r es) (hb : Below B w w') (hB : r < B) : NM w' r es := h.same (hb.block r hB)
end Go.Proofs.YtiockiilenjjaaaDoor

/- What is the same: plain facts. -/
namespace Go.Proofs.YtiockiilenjjaaaDoor
open Go Go.RowKit
/-- So many questions, of so many terms: all answered by yes. -/
def allTwo : List (Tm → Bool) → List Tm → Bool
  | [], [] => true
  | f :: fs, u :: us => f u && allTwo fs us
  | _, _ => false
def Tm.nm (t : Tm) : ByteArray := if t.op = 17 ∨ t.op = 18 then t.name else .empty
def Tm.nu (t : Tm) : ByteArray := if t.op = 1 then t.num else .empty
def Tm.so (t : Tm) : Int := if t.op = 18 then t.sort else 0
/-- The same label. -/
def Tm.sameLab (t u : Tm) : Bool := t.op == u.op && (t.nm.toList == u.nm.toList && (t.nu.toList == u.nu.toList && t.so == u.so))
/-- The same term: as Same says. -/
def Tm.same : Tm → Tm → Bool
  | ⟨op, name, sort, num, l, vars, pat⟩, u =>
    Tm.sameLab ⟨op, name, sort, num, [], [], []⟩ u && ((!(op == 19) || (decide (vars = u.vars) && allTwo (pat.map fun t => Tm.same t) u.pat)) && allTwo (l.map fun t => Tm.same t) u.l)
def sameL (l m : List Tm) : Bool := allTwo (l.map Tm.same) m
theorem Tm.same_eq (t u : Tm) : t.same u = (t.sameLab u && ((!(t.op == 19) || (decide (t.vars = u.vars) && sameL t.pat u.pat)) && sameL t.l u.l)) := by
  cases t
  rw [Tm.same]
  rfl
theorem sameL_nil : sameL [] [] = true := rfl
theorem sameL_cons (t u : Tm) (l m : List Tm) : sameL (t :: l) (u :: m) = (t.same u && sameL l m) := rfl
theorem sameL_len {l m : List Tm} (h : l.length ≠ m.length) : sameL l m = false := by
  induction l generalizing m with
  | nil => cases m with
    | nil => exact absurd rfl h
    | cons u m => rfl
  | cons t l ih => cases m with
    | nil => rfl
    | cons u m =>
      rw [sameL_cons, ih (by simpa using h), Bool.and_false]
theorem sameL_take {l m : List Tm} {i : Nat} (h1 : i < l.length) (h2 : i < m.length) : sameL (l.take (i + 1)) (m.take (i + 1)) = (sameL (l.take i) (m.take i) && l[i].same m[i]) := by
  induction i generalizing l m with
  | zero =>
    cases l with
    | nil => simp at h1
    | cons t l => cases m with
      | nil => simp at h2
      | cons u m => simp [sameL_cons, sameL_nil]
  | succ i ih =>
    cases l with
    | nil => simp at h1
    | cons t l => cases m with
      | nil => simp at h2
      | cons u m =>
        have := ih (l := l) (m := m) (by simpa using h1) (by simpa using h2)
        simp only [List.take_succ_cons, sameL_cons, List.getElem_cons_succ, this, Bool.and_assoc]
/-- A list of which one place differs is not the same. -/
theorem sameL_no {l m : List Tm} {i : Nat} (h1 : i < l.length) (h2 : i < m.length) (h : l[i].same m[i] = false) : sameL l m = false := by
  induction i generalizing l m with
  | zero =>
    cases l with
    | nil => simp at h1
    | cons t l => cases m with
      | nil => simp at h2
      | cons u m => rw [sameL_cons, show t.same u = false from h, Bool.false_and]
  | succ i ih =>
    cases l with
    | nil => simp at h1
    | cons t l => cases m with
      | nil => simp at h2
      | cons u m => rw [sameL_cons, ih (l := l) (m := m) (by simpa using h1) (by simpa using h2) (by simpa using h), Bool.and_false]
theorem Tm.sameLab_refl (t : Tm) : t.sameLab t = true := by unfold Tm.sameLab; simp
theorem mem_wt {l : List Tm} {u : Tm} (h : u ∈ l) : u.wt ≤ (l.map Tm.wt).sum := by
  induction l with
  | nil => cases h
  | cons x l ih =>
    rw [List.map_cons, List.sum_cons]
    rcases List.mem_cons.1 h with rfl | h
    · omega
    · have := ih h
      omega
/-- Of all terms, if of each out of its operands and patterns. -/
theorem Tm.ind {p : Tm → Prop} (h : ∀ t : Tm, (∀ u ∈ t.l, p u) → (∀ u ∈ t.pat, p u) → p t) (t : Tm) : p t := by
  have hn : ∀ (n : Nat) (t : Tm), t.wt ≤ n → p t := fun n => by
    induction n with
    | zero =>
      intro t ht
      rw [t.wt_eq] at ht
      omega
    | succ n ih =>
      intro t ht
      rw [t.wt_eq] at ht
      exact h t (fun u hu => ih u (by have := mem_wt hu; omega)) (fun u hu => ih u (by have := mem_wt hu; omega))
  exact hn t.wt t (Nat.le_refl _)
theorem sameL_all {l : List Tm} (h : ∀ u ∈ l, u.same u = true) : sameL l l = true := by
  induction l with
  | nil => rfl
  | cons t l ih => rw [sameL_cons, h t List.mem_cons_self, ih fun u hu => h u (List.mem_cons_of_mem _ hu)]; rfl
theorem Tm.same_refl (t : Tm) : t.same t = true := Tm.ind (p := fun t => t.same t = true) (fun t hl hp => by
  rw [Tm.same_eq, Tm.sameLab_refl, sameL_all hl, sameL_all hp]
  simp) t
theorem sameL_refl (l : List Tm) : sameL l l = true := sameL_all fun u _ => u.same_refl
/-- What lies at a place is one term. -/
theorem row_det {B B' k n n' c c' : Nat} {a a' : Option Addr} {α : Type} {p p' : Nat → Nat → Nat → Prop} {l l' : List α} (hn : n = l.length) (hn' : n' = l'.length) (h : Row B a n c k p) (h' : Row B' a' n' c' k p') (e : Value.slice a n c = .slice a' n' c')
    (hp : ∀ b o j (h1 : j < l.length) (h2 : j < l'.length), p b o j → p' b o j → l[j] = l'[j]) : l = l' := by
  injection e with e1 e2 e3
  subst hn hn'
  by_cases h0 : l.length = 0
  · rw [List.length_eq_zero_iff.1 h0, List.length_eq_zero_iff.1 (e2.symm.trans h0)]
  · obtain ⟨b, o, x1, _, x2⟩ := h.2.2 h0
    obtain ⟨b', o', y1, _, y2⟩ := h'.2.2 (by omega)
    rw [x1, y1] at e1
    injection e1 with e1
    injection e1 with e4 e5
    subst e4 e5
    refine List.ext_getElem e2 fun j g1 g2 => hp _ _ j g1 g2 (x2 j g1) (y2 j g2)
theorem TmAt.det {w : World} {B B' : Nat} : ∀ {d d' b o : Nat} {t t' : Tm}, TmAt w B d b o t → TmAt w B' d' b o t' → t = t' := by
  intro d
  induction d with
  | zero => intro d' b o t t' h; exact h.elim
  | succ d ih =>
    intro d' b o t t' h h'
    cases d' with
    | zero => exact h'.elim
    | succ d' =>
      obtain ⟨_, _, _, aL, aV, aP, cL, cV, cP, hr, hL, hV, hP, _⟩ := h
      obtain ⟨_, _, _, bL, bV, bP, eL, eV, eP, gr, gL, gV, gP, _⟩ := h'
      have e : ∀ j v v', (tcells t aL aV aP cL cV cP)[j]? = some v → (tcells t' bL bV bP eL eV eP)[j]? = some v' → v = v' := fun j v v' a1 a2 => Option.some.inj ((hr j v a1).symm.trans (gr j v' a2))
      have k0 := e 0 _ _ rfl rfl
      have k1 := e 1 _ _ rfl rfl
      have k2 := e 2 _ _ rfl rfl
      have k3 := e 3 _ _ rfl rfl
      have k4 := row_det rfl rfl hL gL (e 4 _ _ rfl rfl) fun b o j h1 h2 x y => ih (x _ (List.getElem?_eq_getElem h1)) (y _ (List.getElem?_eq_getElem h2))
      have k6 := row_det rfl rfl hP gP (e 6 _ _ rfl rfl) fun b o j h1 h2 x y => ih (x _ (List.getElem?_eq_getElem h1)) (y _ (List.getElem?_eq_getElem h2))
      have k5 := row_det rfl rfl hV gV (e 5 _ _ rfl rfl) fun b o j h1 h2 x y => by
        have x1 := (x _ (List.getElem?_eq_getElem h1)).1
        have y1 := (y _ (List.getElem?_eq_getElem h2)).1
        have z0 := Option.some.inj ((x1 0 _ rfl).symm.trans (y1 0 _ rfl))
        have z1 := Option.some.inj ((x1 1 _ rfl).symm.trans (y1 1 _ rfl))
        injection z0 with z0
        injection z1 with _ z1
        exact Prod.ext z0 z1
      cases t
      cases t'
      injection k0 with _ k0
      injection k1 with k1
      injection k2 with _ k2
      injection k3 with k3
      simp only at k0 k1 k2 k3 k4 k5 k6
      subst k0 k1 k2 k3 k4 k5 k6
      rfl
end Go.Proofs.YtiockiilenjjaaaDoor

/- The comparer: lists, out of terms. -/
namespace Go.Proofs.YtiockiilenjjaaaDoor
open Go Go.RowKit
def TR (w : World) (B d : Nat) (l : List Tm) (b o j : Nat) : Prop := ∀ u, l[j]? = some u → TmAt w B d b o u
def lwt (l : List Tm) : Nat := (l.map Tm.wt).sum
def SPost (r s x : Nat) (ans : Bool) (w : World) (e : Ending) (w' : World) : Prop := e = .returned (.bool ans) ∧ (∃ s', s' ≤ s + x ∧ CS w' r s') ∧ But r w w'
def CListC (d : Nat) : Prop := ∀ (B r s : Nat) (w : World) (a a' : Option Addr) (n n' c c' : Nat) (l m : List Tm) (k : Nat), Row B a n c 7 (TR w B d l) → Row B a' n' c' 7 (TR w B d m) → n = l.length → n' = m.length → CS w r s → B ≤ r → s + lwt l < 65536 → k + d ≤ 65536 →
    Calls Tryd.prog 75 #[.pointer (some ⟨r, 0, none⟩), .slice a n c, .slice a' n' c', .int .i64 k] w (SPost r s (lwt l) (sameL l m) w)
def CTermC (d : Nat) : Prop := ∀ (B r s : Nat) (w : World) (b o b' o' : Nat) (t u : Tm) (k : Nat), TmAt w B d b o t → TmAt w B d b' o' u → CS w r s → B ≤ r → s + t.wt < 65537 → k + d ≤ 65536 →
    Calls Tryd.prog 44 #[.pointer (some ⟨r, 0, none⟩), .pointer (some ⟨b, o, none⟩), .pointer (some ⟨b', o', none⟩), .int .i64 k] w (SPost r s (t.wt - 1) (t.same u) w)
set_option maxRecDepth 100000 in
set_option maxHeartbeats 4000000 in
theorem ck_one (d b off : Nat) (n : Int) (w : World) : (Instr.checkKey true (d + 2) 182 (.agg #[.pointer (some ⟨b, off, none⟩), .int .i64 n])).run Tryd.prog w = .ok () w := rfl
set_option maxRecDepth 100000 in
set_option maxHeartbeats 4000000 in
theorem ck_two (d b off b' off' : Nat) (n n' : Int) (w : World) : (Instr.checkKey true (d + 3) 185 (.agg #[.pointer (some ⟨b, off, none⟩), .int .i64 n, .pointer (some ⟨b', off', none⟩), .int .i64 n'])).run Tryd.prog w = .ok () w := by
  rw [Instr.checkKey]
  go_simp
  rw [ck_one d b off n w]
  exact ck_one d b' off' n' w
set_option maxRecDepth 100000 in
set_option maxHeartbeats 4000000 in
theorem fk_none (K : Value) (w : World) : (Instr.findKey 185 K []).run Tryd.prog w = .ok none w := rfl
set_option maxRecDepth 100000 in
set_option maxHeartbeats 4000000 in
theorem zero_unit (w : World) : (zeroValue 179).run Tryd.prog w = .ok (.agg #[]) w := rfl
set_option maxRecDepth 100000 in
set_option maxHeartbeats 4000000 in
theorem lk_nil2 (b off b' off' : Nat) (n n' : Int) (w : World) : (Instr.lookup 80 (.map none) (.agg #[.pointer (some ⟨b, off, none⟩), .int .i64 n, .pointer (some ⟨b', off', none⟩), .int .i64 n']) true).run Tryd.prog w = .ok (.tuple #[.agg #[], .bool false]) w := by
  unfold Instr.lookup
  go_simp
  rw [show (10000 : Nat) = 9997 + 3 from rfl, ck_two]
  simp only [Result.andThen, fk_none]
  go_simp
theorem lwt_more {l : List Tm} {i : Nat} (h : i < l.length) : lwt (l.take (i + 1)) = lwt (l.take i) + l[i].wt := by
  unfold lwt
  rw [take_more h, List.map_append, List.sum_append]
  simp
theorem lwt_take (l : List Tm) (i : Nat) : lwt (l.take i) ≤ lwt l := by
  unfold lwt
  rw [List.map_take]
  exact sum_take_le _ _
theorem wt_pos (t : Tm) : 0 < t.wt := by rw [Tm.wt_eq]; omega
set_option maxRecDepth 1000000 in
set_option maxHeartbeats 16000000 in
theorem clist_of {d : Nat} (ht : CTermC d) : CListC d := by
  intro B r s w a a' n n' c c' l m k hRow hRow' hn hn' hC hB hs hk
  have HT := hide ht
  obtain ⟨hr, m0, m1, mf⟩ := hC.cells
  have hmax : n ≤ 9223372036854775807 := by have := hRow.1; have := hRow.2.1; omega
  have hmax' : n' ≤ 9223372036854775807 := by have := hRow'.1; have := hRow'.2.1; omega
  have HRow := hide hRow
  have HRow' := hide hRow'
  have HC := hide hC
  have HN := hide (And.intro hn hn')
  have HS := hide hs
  have HK := hide hk
  have dk : decide ((65536 : Int) < (k : Int)) = false := by simp; omega
  clear ht hRow hRow' hC hn hn' mf hs hk m1
  by_cases hl : n = n'
  · have hl1 : ((n : Int) != (n' : Int)) = false := by simp; omega
    subst hl
    by_cases hn0 : n = 0
    · subst hn0
      have e1 : l = [] := List.length_eq_zero_iff.1 (unhide HN).1.symm
      have e2 : m = [] := List.length_eq_zero_iff.1 (unhide HN).2.symm
      subst e1 e2
      clear hl1
      go_enter Tryd.func75, Tryd.ntmps75
      go_wp2
      go_quiet (fail)
      go_wp2
      go_ret
      exact ⟨rfl, ⟨s, by omega, (unhide HC).below (below_drewN (Below.refl _ w) _) hr⟩, But.of (below_drewN (Below.refl _ w) _) (Nat.le_refl _)⟩
    · have hpos : 0 < n := by omega
      have d0 : ((n : Int) == 0) = false := by simp; omega
      have hp0 : (0 : Int) < (n : Int) := by omega
      obtain ⟨b, off, rfl, hbB, hj⟩ := (unhide HRow).2.2 hn0
      obtain ⟨b', off', rfl, hbB', hj'⟩ := (unhide HRow').2.2 hn0
      by_cases hsame : b = b' ∧ off = off'
      · obtain ⟨rfl, rfl⟩ := hsame
        have hml : l = m := by
          refine List.ext_getElem ((unhide HN).1.symm.trans (unhide HN).2) fun j h1 h2 => ?_
          have hjn : j < n := by have := (unhide HN).1; omega
          exact (hj j hjn _ (List.getElem?_eq_getElem h1)).det (hj' j hjn _ (List.getElem?_eq_getElem h2))
        have HML := hide hml
        have hEq : ∀ w : World, (binOp .eql 61 (.pointer (some ⟨b, off, none⟩)) (.pointer (some ⟨b, off, none⟩))).run Tryd.prog w = .ok (.bool true) w := fun w => run_eql_ptr_same w _ rfl rfl
        clear hl1 hml hj hj'
        go_enter Tryd.func75, Tryd.ntmps75
        go_wp2
        go_region
        go_wp2
        go_ret
        refine ⟨?_, ⟨s, by omega, (unhide HC).below (Below.refl _ w).drew hr⟩, But.of (Below.refl _ w).drew (Nat.le_refl _)⟩
        rw [unhide HML, sameL_refl]
        rfl
      · have HD := hide hsame
        have hpl : Plain w b := by
          have h0 : 0 < l.length := by have := (unhide HN).1; omega
          have h := (hj 0 hpos _ (List.getElem?_eq_getElem h0))
          cases d with
          | zero => exact h.elim
          | succ d => obtain ⟨_, _, _, _, _, _, _, _, _, _, _, _, _, hp⟩ := h; exact hp
        have hpl' : Plain w b' := by
          have h0 : 0 < m.length := by have := (unhide HN).2; omega
          have h := (hj' 0 hpos _ (List.getElem?_eq_getElem h0))
          cases d with
          | zero => exact h.elim
          | succ d => obtain ⟨_, _, _, _, _, _, _, _, _, _, _, _, _, hp⟩ := h; exact hp
        have hEq : (binOp .eql 61 (.pointer (some ⟨b, off, none⟩)) (.pointer (some ⟨b', off', none⟩))).run Tryd.prog w.drew = .ok (.bool false) w.drew := by
          obtain ⟨_, _, e1⟩ := hpl
          obtain ⟨_, _, e2⟩ := hpl'
          exact run_eql_ptr_other w.drew rfl rfl (by decide) (fun e => hsame (by injection e with e1 e2; exact ⟨e1, e2⟩)) (show w.drew.heap[b]? = _ from e1) (show w.drew.heap[b']? = _ from e2)
        have HJ := hide (And.intro hj hj')
        clear hsame hpl hpl' hj hj'
        go_enter Tryd.func75, Tryd.ntmps75
        go_wp2
        go_region
        clear hEq
        go_wp2
        obtain ⟨W, eW, hbW⟩ : ∃ W, w.drew = W ∧ Below w.heap.size w W := ⟨_, rfl, (Below.refl _ w).drew⟩
        rw [eW]
        have hrW : r < W.heap.size := Nat.lt_of_lt_of_le hr hbW.size
        have HCW := hide ((unhide HC).below hbW hr)
        have m0' : W.cell? ⟨r, 0, none⟩ = some (.map none) := (unhide HCW).cells.2.1
        have HSS : Hid (∀ w', Below W.heap.size W w' → (Below W.heap.size W w' ∧ w'.cell? ⟨r, 0, none⟩ = some (.map none))) := fun w' h => ⟨h, (h.cell (p := ⟨r, 0, none⟩) hrW).trans m0'⟩
        have hlk := lk_nil2 b off b' off' n n
        have HBW := hide hbW
        clear eW hbW m0
        refine wp_mono (Q := nrm (fun a' W' => ∃ (x9 y31 y32 y33 y34 y35 y36 y37 y38 y39 y40 y41 y42 y43 : Value), a' = { tmps := #[.pointer (some ⟨r, 0, none⟩), Value.slice (some ⟨b, off, none⟩) n c, Value.slice (some ⟨b', off', none⟩) n c', .int .i64 k, undef, undef, undef, undef, .bool false, x9, .bool false, undef, Value.slice (some ⟨b, off, none⟩) n c, .int .i64 n, Value.slice (some ⟨b', off', none⟩) n c', .int .i64 n, .bool false, .bool false, .int .i64 k, .bool false, .bool false, Value.slice (some ⟨b, off, none⟩) n c, .int .i64 n, .bool false, .bool false, Value.slice (some ⟨b, off, none⟩) n c, .pointer (some ⟨b, off, none⟩), Value.slice (some ⟨b', off', none⟩) n c', .pointer (some ⟨b', off', none⟩), .bool false, .bool false, y31, y32, y33, y34, y35, y36, y37, y38, y39, y40, y41, y42, y43, undef, undef, undef, undef, undef, undef, undef, undef, undef, undef, undef, undef, undef, undef, undef, undef, undef, undef, undef, undef, undef], defers := [] } ∧ Below W.heap.size W W')) ?reg ?go
        case reg =>
          go_region_held3 (fun w' => Below W.heap.size W w' ∧ w'.cell? ⟨r, 0, none⟩ = some (.map none)) (first | assumption | exact unhide HSS _ hT1 | exact unhide HSS _ (by assumption) | exact unhide HSS _ (keep0 _) | exact unhide HSS _ (keepC (by assumption) (by assumption)) | exact unhide HSS _ (keepA (by assumption) _) | exact unhide HSS _ (hT1.alloc hT1.size _)) (first
            | (go_at_call 91; first | (refine (keyOf_any b off n c _ hpos hmax).mono ?_; rintro e v1 ⟨rfl, hv1⟩; have hT1 : Below W.heap.size W v1 := keepC (by assumption) hv1) | (refine (keyOf_any b' off' n c' _ hpos hmax).mono ?_; rintro e v1 ⟨rfl, hv1⟩; have hT1 : Below W.heap.size W v1 := keepC (by assumption) hv1)))
          all_goals first
            | exact nrm_mk ⟨_, _, _, _, _, _, _, _, _, _, _, _, _, _, rfl, hT1⟩
            | exact nrm_mk ⟨_, _, _, _, _, _, _, _, _, _, _, _, _, _, rfl, hT1.alloc hT1.size _⟩
        case go =>
          intro e a' Wg h9
          obtain ⟨rfl, h9⟩ := nrm_out h9
          obtain ⟨x9, y31, y32, y33, y34, y35, y36, y37, y38, y39, y40, y41, y42, y43, rfl, hbg⟩ := h9
          have hbw : Below w.heap.size w Wg := (unhide HBW).trans (hbg.mono (unhide HBW).size)
          have HCg := hide ((unhide HC).below hbw hr)
          have HBg := hide hbw
          clear hbg hbw hlk HSS m0' HCW HBW
          go_wp2
          go_loopw [47] (fun iv wr => ∃ i : Nat, i ≤ n ∧ iv = .int .i64 (i : Int) ∧ sameL (l.take i) (m.take i) = true ∧ (∃ s', s' + i ≤ s + lwt (l.take i) ∧ CS wr r s') ∧ But r w wr) (fun iv _ => (n - (intOf iv).toNat))
          case atStart => exact ⟨0, Nat.zero_le _, rfl, rfl, ⟨s, by simp [lwt], unhide HCg⟩, But.of (unhide HBg) (Nat.le_refl _)⟩
          case round =>
            obtain ⟨i, hi, rfl, hsm, ⟨s1, hs1, hC1⟩, hbut⟩ := hrel
            by_cases hlt : i < n
            · have h1 : i < l.length := by have := (unhide HN).1; omega
              have h2 : i < m.length := by have := (unhide HN).2; omega
              have hd1 : decide ((i : Int) < (n : Int)) = true := by simp; omega
              have hXi : (i : Int) < (n : Int) := by omega
              have hcap : (i : Int) < 281474976710656 := by have := (unhide HRow).1; have := (unhide HRow).2.1; omega
              have hwt := lwt_more h1
              have hle := lwt_take l (i + 1)
              have hbl : Below B w wr.drew := (hbut.below hB (by omega)).drew
              have hA := (unhide HJ).1 i hlt _ (List.getElem?_eq_getElem h1)
              have hA' := (unhide HJ).2 i hlt _ (List.getElem?_eq_getElem h2)
              have HCall := hide (unhide HT B r s1 wr.drew b (off + i * 7) b' (off' + i * 7) l[i] m[i] k (hA.more hbl (Nat.le_refl _) (Nat.le_refl _)) (hA'.more hbl (Nat.le_refl _) (Nat.le_refl _)) hC1 hB (by have := unhide HS; omega) (unhide HK))
              have HI := hide (And.intro hs1 (And.intro hwt (And.intro hle hsm)))
              have HBu := hide hbut
              clear hs1 hC1 hsm hwt hle hbl hA hA' hbut HCg HBg
              cases hq : l[i].same m[i] with
              | true =>
                rw [hq] at HCall
                have HQ := hide hq
                clear hq
                go_wp2_with fail
                go_region_with (go_at_call 44; refine (unhide HCall).mono ?_; rintro e w4 ⟨rfl, h4⟩; have H4 := hide h4; clear h4)
                go_simp
                go_wp2
                obtain ⟨hs1, hwt, hle, hsm⟩ := unhide HI
                obtain ⟨⟨s4, hs4, hC4⟩, hb4⟩ := unhide H4
                refine ⟨⟨i + 1, by omega, rfl, ?_, ⟨s4, by have := wt_pos l[i]; omega, hC4⟩, (unhide HBu).trans ((But.of (Below.refl _ wr).drew (Nat.le_refl _)).trans hb4)⟩, by simp only [intOf]; omega⟩
                rw [sameL_take h1 h2, hsm, unhide HQ]
                rfl
              | false =>
                rw [hq] at HCall
                have HQ := hide hq
                clear hq
                go_wp2_with fail
                go_region_with (go_at_call 44; refine (unhide HCall).mono ?_; rintro e w4 ⟨rfl, h4⟩; have H4 := hide h4; clear h4)
                go_simp
                go_wp2
                go_ret
                obtain ⟨hs1, hwt, hle, hsm⟩ := unhide HI
                obtain ⟨⟨s4, hs4, hC4⟩, hb4⟩ := unhide H4
                refine ⟨?_, ⟨s4, by omega, hC4⟩, (unhide HBu).trans ((But.of (Below.refl _ wr).drew (Nat.le_refl _)).trans hb4)⟩
                rw [sameL_no h1 h2 (unhide HQ)]
                rfl
            · have hin : i = n := by omega
              have hd1 : decide ((i : Int) < (n : Int)) = false := by simp; omega
              have hall : sameL l m = true := by
                have e1 : l.take i = l := List.take_of_length_le (by have := (unhide HN).1; omega)
                have e2 : m.take i = m := List.take_of_length_le (by have := (unhide HN).2; omega)
                rw [e1, e2] at hsm
                exact hsm
              have hw1 : s1 + n ≤ s + lwt l := by
                have := lwt_take l i
                omega
              have HA := hide (And.intro hall hw1)
              have HC1 := hide hC1
              have HBu := hide hbut
              have HK1 := hide (ckeep_any r s1 n c n c' (some ⟨b, off, none⟩) (some ⟨b', off', none⟩) wr hC1 (by have := unhide HS; omega))
              clear hall hw1 hC1 hbut hsm hs1 hin HCg HBg
              go_wp2_with fail
              refine (unhide HK1).mono ?_
              rintro e w5 ⟨rfl, hC5, hb5⟩
              go_wp2
              go_ret
              refine ⟨?_, ⟨s1 + n, (unhide HA).2, hC5⟩, (unhide HBu).trans hb5⟩
              rw [(unhide HA).1]
              rfl
  · have hl1 : ((n : Int) != (n' : Int)) = true := by simp; omega
    have HD := hide hl
    clear hl
    go_enter Tryd.func75, Tryd.ntmps75
    go_wp2
    go_ret
    refine ⟨?_, ⟨s, by omega, unhide HC⟩, But.refl r w⟩
    rw [sameL_len (by have := unhide HD; have := unhide HN; omega)]
    rfl
end Go.Proofs.YtiockiilenjjaaaDoor

/- The comparer: a term's answer out of its lists'. -/
namespace Go.Proofs.YtiockiilenjjaaaDoor
open Go Go.RowKit
set_option maxRecDepth 100000 in
set_option maxHeartbeats 4000000 in
theorem neq_label (t u : Tm) (w : World) : (binOp .neq 140 t.label u.label).run Tryd.prog w = .ok (.bool (!t.sameLab u)) w := by
  show (binOp .neq 140 (.agg #[.int .i64 t.op, .string t.nm, .string t.nu, .int .i64 t.so]) (.agg #[.int .i64 u.op, .string u.nm, .string u.nu, .int .i64 u.so])).run Tryd.prog w = _
  unfold Tm.sameLab
  cases h1 : t.op == u.op <;> cases h2 : t.nm.toList == u.nm.toList <;> cases h3 : t.nu.toList == u.nu.toList <;> cases h4 : t.so == u.so <;> go_simp <;> simp_all
set_option maxRecDepth 100000 in
theorem eg_label (x y : Operand) (t u : Tm) (w : World) : (eqGuard .neq 140 x y t.label u.label).run Tryd.prog w = .ok () w := by
  have h : Tryd.prog.eqGuardType Tryd.prog.depth 140 = false := by kernel_rfl
  unfold Tm.label eqGuard
  simp [h]
theorem wrap_succ {k : Nat} (h : k ≤ 9223372036854775806) : IntKind.i64.wrap ((k : Int) + 1) = (k : Int) + 1 := by simp only [IntKind.wrap_i64]; omega
theorem sameLab_op {t u : Tm} (h : t.sameLab u = true) : t.op = u.op := by
  unfold Tm.sameLab at h
  simp only [Bool.and_eq_true, beq_iff_eq] at h
  exact h.1
/-- What the term's cells say, in a later world. -/
theorem cell_but {r : Nat} {w w' : World} (h : But r w w') {b o : Nat} {v : Value} (hb : b < w.heap.size) (hr : b ≠ r) (hc : w.cell? ⟨b, o, none⟩ = some v) : w'.cell? ⟨b, o, none⟩ = some v := (h.cell (p := ⟨b, o, none⟩) hb hr).trans hc
set_option maxRecDepth 1000000 in
set_option maxHeartbeats 16000000 in
theorem cterm_of {d : Nat} (hl : CListC d) : CTermC (d + 1) := by
  intro B r s w b o b' o' t u k hT hU hC hB hs hk
  have HL := hide hl
  have hrw := hC.cells.1
  obtain ⟨hb, _, _, aL, aV, aP, cL, cV, cP, hrg, hL, hV, hP, _⟩ := hT
  obtain ⟨hb', _, _, aL', aV', aP', cL', cV', cP', hrg', hL', hV', hP', _⟩ := hU
  have HRows := hide (And.intro hL (And.intro hL' (And.intro hP hP')))
  have HVs := hide (And.intro hV hV')
  have HG := hide (And.intro hrg hrg')
  have HC := hide hC
  have hbw : b < w.heap.size := by omega
  have hbw' : b' < w.heap.size := by omega
  have hbr : b ≠ r := by omega
  have hbr' : b' ≠ r := by omega
  have HWt := hide t.wt_eq
  have HS := hide (And.intro hs hk)
  have c0 : w.cell? ⟨b, o, none⟩ = some (.int .i64 t.op) := hrg 0 _ rfl
  have d0 : w.cell? ⟨b', o', none⟩ = some (.int .i64 u.op) := hrg' 0 _ rfl
  clear hl hL hL' hV hV' hP hP' hrg hrg' hC hs
  go_enter Tryd.func44, Tryd.ntmps44
  go_wp2_with fail
  refine (view_any b o t.op w c0 hbw).mono ?_
  rintro e w1 ⟨rfl, hb1⟩
  go_wp2_with fail
  refine (view_any b' o' u.op w1 ((hb1.cell (p := ⟨b', o', none⟩) hbw').trans d0) (Nat.lt_of_lt_of_le hbw' hb1.size)).mono ?_
  rintro e w2 ⟨rfl, hb2⟩
  have h02 : Below w.heap.size w w2 := hb1.trans (hb2.mono hb1.size)
  clear hb1 hb2
  go_wp2_with fail
  refine (labelOf_any (t := t) ((h02.cell (p := ⟨b, o, none⟩) hbw).trans c0) ((h02.cell (p := ⟨b, o + 1, none⟩) hbw).trans ((unhide HG).1 1 _ rfl)) ((h02.cell (p := ⟨b, o + 2, none⟩) hbw).trans ((unhide HG).1 2 _ rfl)) ((h02.cell (p := ⟨b, o + 3, none⟩) hbw).trans ((unhide HG).1 3 _ rfl)) (Nat.lt_of_lt_of_le hbw h02.size)).mono ?_
  rintro e w3 ⟨rfl, hb3⟩
  have h03 : Below w.heap.size w w3 := h02.trans (hb3.mono h02.size)
  clear hb3 h02
  go_wp2_with fail
  refine (labelOf_any (t := u) ((h03.cell (p := ⟨b', o', none⟩) hbw').trans d0) ((h03.cell (p := ⟨b', o' + 1, none⟩) hbw').trans ((unhide HG).2 1 _ rfl)) ((h03.cell (p := ⟨b', o' + 2, none⟩) hbw').trans ((unhide HG).2 2 _ rfl)) ((h03.cell (p := ⟨b', o' + 3, none⟩) hbw').trans ((unhide HG).2 3 _ rfl)) (Nat.lt_of_lt_of_le hbw' h03.size)).mono ?_
  rintro e w4 ⟨rfl, hb4⟩
  have h04 : Below w.heap.size w w4 := h03.trans (hb4.mono h03.size)
  clear hb4 h03 c0 d0
  have hNe := neq_label t u w4
  have hEg := fun x y => eg_label x y t u w4
  have HB4 := hide h04
  clear h04
  cases hq : t.sameLab u with
  | false =>
    rw [hq] at hNe
    have HQ := hide hq
    clear hq
    generalize t.label = TL at *
    generalize u.label = UL at *
    go_wp2
    go_ret
    refine ⟨?_, ⟨s, by omega, (unhide HC).below (unhide HB4) hrw⟩, But.of (unhide HB4) (Nat.le_refl _)⟩
    rw [Tm.same_eq, unhide HQ]
    rfl
  | true =>
    rw [hq] at hNe
    have hop := sameLab_op hq
    have HQ := hide hq
    have HOp := hide hop
    clear hq
    clear hop
    generalize t.label = TL at *
    generalize u.label = UL at *
    by_cases h19 : t.op = 19
    · have hkk : kindOf t.op = 112 := by rw [h19]; rfl
      rw [hkk]
      clear hkk
      have H19 := hide h19
      clear h19
      have ta1 := fun w => ta_yes (ty := 112) (v := .agg #[.pointer (some ⟨b, o, none⟩)]) (w := w) rfl rfl
      generalize kindOf u.op = kk2 at *
      go_wp2
      obtain ⟨W, eW, hbW⟩ : ∃ W, w4.alloc (.cells #[.pointer (some ⟨b, o, none⟩)] 112) = W ∧ Below w.heap.size w W := ⟨_, rfl, (unhide HB4).alloc (unhide HB4).size _⟩
      rw [eW]
      have c5 : W.cell? ⟨b, o + 5, none⟩ = some (.slice aV t.vars.length cV) := (hbW.cell (p := ⟨b, o + 5, none⟩) hbw).trans ((unhide HG).1 5 _ rfl)
      have d5 : W.cell? ⟨b', o' + 5, none⟩ = some (.slice aV' u.vars.length cV') := (hbW.cell (p := ⟨b', o' + 5, none⟩) hbw').trans ((unhide HG).2 5 _ rfl)
      have c6 : W.cell? ⟨b, o + 6, none⟩ = some (.slice aP t.pat.length cP) := (hbW.cell (p := ⟨b, o + 6, none⟩) hbw).trans ((unhide HG).1 6 _ rfl)
      have d6 : W.cell? ⟨b', o' + 6, none⟩ = some (.slice aP' u.pat.length cP') := (hbW.cell (p := ⟨b', o' + 6, none⟩) hbw').trans ((unhide HG).2 6 _ rfl)
      have HEq : Hid (∀ w', Below W.heap.size W w' → Calls Tryd.prog 74 #[.slice aV t.vars.length cV, .slice aV' u.vars.length cV'] w' (fun e w'' => e = .returned (.bool (decide (t.vars = u.vars))) ∧ ∃ m, w'' = w'.drewN m)) := fun w' h' => by
        have hx : Below B w w' := (hbW.trans (h'.mono hbW.size)).mono (by omega)
        exact equal_q B w' aV aV' cV cV' t.vars u.vars ((unhide HVs).1.mono (Nat.le_refl _) fun b o j hb h x hx2 => ⟨rangeAt_below (h x hx2).1 hb hx, (h x hx2).2⟩) ((unhide HVs).2.mono (Nat.le_refl _) fun b o j hb h x hx2 => ⟨rangeAt_below (h x hx2).1 hb hx, (h x hx2).2⟩) (by have := h'.size; have := hbW.size; omega)
      have HPt : Hid (∀ w', Below W.heap.size W w' → Calls Tryd.prog 75 #[.pointer (some ⟨r, 0, none⟩), .slice aP t.pat.length cP, .slice aP' u.pat.length cP', .int .i64 ((k : Int) + 1)] w' (SPost r s (lwt t.pat) (sameL t.pat u.pat) w')) := fun w' h' => by
        have hx0 : Below w.heap.size w w' := hbW.trans (h'.mono hbW.size)
        have hx : Below B w w' := hx0.mono (by omega)
        have h := unhide HL B r s w' aP aP' t.pat.length u.pat.length cP cP' t.pat u.pat (k + 1) ((unhide HRows).2.2.1.below hx) ((unhide HRows).2.2.2.below hx) rfl rfl ((unhide HC).below hx0 hrw) hB (by have := (unhide HS).1; have := unhide HWt; unfold lwt; omega) (by omega)
        rw [show ((k + 1 : Nat) : Int) = (k : Int) + 1 by omega] at h
        exact h
      have HLt : Hid (∀ w' s', But r W w' → CS w' r s' → s' ≤ s + lwt t.pat → Calls Tryd.prog 75 #[.pointer (some ⟨r, 0, none⟩), .slice aL t.l.length cL, .slice aL' u.l.length cL', .int .i64 ((k : Int) + 1)] w' (SPost r s' (lwt t.l) (sameL t.l u.l) w')) := fun w' s' h' hC' hs' => by
        have hx : Below B w w' := (hbW.mono (by omega)).trans (h'.below hB (by have := hbW.size; omega))
        have h := unhide HL B r s' w' aL aL' t.l.length u.l.length cL cL' t.l u.l (k + 1) ((unhide HRows).1.below hx) ((unhide HRows).2.1.below hx) rfl rfl hC' hB (by have := (unhide HS).1; have := unhide HWt; unfold lwt at *; omega) (by omega)
        rw [show ((k + 1 : Nat) : Int) = (k : Int) + 1 by omega] at h
        exact h
      have HBW := hide hbW
      have HSame := hide (t.same_eq u)
      have HCW := hide ((unhide HC).below hbW hrw)
      have hbW2 : b < W.heap.size := Nat.lt_of_lt_of_le hbw hbW.size
      have hbW2' : b' < W.heap.size := Nat.lt_of_lt_of_le hbw' hbW.size
      have HSB := hide (show ∀ w', But r W w' → w'.cell? ⟨b, o + 4, none⟩ = some (.slice aL t.l.length cL) ∧ w'.cell? ⟨b', o' + 4, none⟩ = some (.slice aL' u.l.length cL') from fun w' h' => ⟨cell_but h' hbW2 hbr ((hbW.cell (p := ⟨b, o + 4, none⟩) hbw).trans ((unhide HG).1 4 _ rfl)), cell_but h' hbW2' hbr' ((hbW.cell (p := ⟨b', o' + 4, none⟩) hbw').trans ((unhide HG).2 4 _ rfl))⟩)
      have HSS : Hid (∀ w', But r W w' → (But r W w' ∧ w'.cell? ⟨b, o + 5, none⟩ = some (.slice aV t.vars.length cV) ∧ w'.cell? ⟨b', o' + 5, none⟩ = some (.slice aV' u.vars.length cV') ∧ w'.cell? ⟨b, o + 6, none⟩ = some (.slice aP t.pat.length cP) ∧ w'.cell? ⟨b', o' + 6, none⟩ = some (.slice aP' u.pat.length cP'))) := fun w' h => ⟨h, cell_but h hbW2 hbr c5, cell_but h hbW2' hbr' d5, cell_but h hbW2 hbr c6, cell_but h hbW2' hbr' d6⟩
      clear eW hbW HB4 hNe hEg hb hb' hbw hbw' hbr hbr' hB hrw hbW2 hbW2'
      have HVL := hide (And.intro (rfl : t.vars.length = t.vars.length) (rfl : t.vars.length = t.vars.length))
      generalize t.l.length = n at *
      generalize u.l.length = n' at *
      generalize t.vars.length = nv at *
      generalize u.vars.length = nv' at *
      generalize t.pat.length = np at *
      generalize u.pat.length = np' at *
      have hwr := wrap_succ (k := k) (by omega)
      cases hv : decide (t.vars = u.vars) with
      | false =>
        have HV := hide hv
        rw [hv] at HEq
        clear hv
        go_quiet ((go_at_call 74; exact Calls.quiet_of (unhide HEq _ (below_drewN (Below.refl _ W) _))))
        go_wp2
        go_ret
        have hbb := fun n => below_drewN (unhide HBW) n
        refine ⟨?_, ⟨s, by omega, (unhide HC).below (hbb _) (unhide HC).cells.1⟩, But.of (hbb _) (Nat.le_refl _)⟩
        rw [unhide HSame, unhide HQ, unhide HV, beq_iff_eq.2 (unhide H19)]
        rfl
      | true =>
        have HV := hide hv
        rw [hv] at HEq
        clear hv
        cases hp : sameL t.pat u.pat with
        | false =>
          have HP := hide hp
          rw [hp] at HPt
          clear hp
          go_region_held3 (fun w' => But r W w' ∧ w'.cell? ⟨b, o + 5, none⟩ = some (.slice aV nv cV) ∧ w'.cell? ⟨b', o' + 5, none⟩ = some (.slice aV' nv' cV') ∧ w'.cell? ⟨b, o + 6, none⟩ = some (.slice aP np cP) ∧ w'.cell? ⟨b', o' + 6, none⟩ = some (.slice aP' np' cP')) (first | assumption | exact unhide HSS _ hT2 | exact unhide HSS _ (But.of hT1 (Nat.le_refl _)) | exact unhide HSS _ (But.of (keep0 _) (Nat.le_refl _))) (first | (go_at_call 74; refine (unhide HEq _ (by first | exact keep0 _ | assumption)).mono ?_; rintro e v1 ⟨rfl, hv1⟩; have hT1 : Below W.heap.size W v1 := (by obtain ⟨m, rfl⟩ := hv1; exact below_drewN (keep0 W) m)) | (go_at_call 75; refine (unhide HPt _ hT1).mono ?_; rintro e v2 ⟨rfl, h5⟩; have hT2 : But r W v2 := (But.of hT1 (Nat.le_refl _)).trans h5.2; have H5 := hide h5; clear h5))
          go_wp2
          go_ret
          obtain ⟨⟨s5, hs5, hC5⟩, hb5⟩ := unhide H5
          have hbb : Below w.heap.size w v1 := (unhide HBW).trans (hT1.mono (unhide HBW).size)
          refine ⟨?_, ⟨s5, by have := unhide HWt; unfold lwt at hs5; omega, hC5⟩, (But.of hbb (Nat.le_refl _)).trans hb5⟩
          rw [unhide HSame, unhide HQ, unhide HV, unhide HP, beq_iff_eq.2 (unhide H19)]
          rfl
        | true =>
          have HP := hide hp
          rw [hp] at HPt
          clear hp
          go_region_held3 (fun w' => But r W w' ∧ w'.cell? ⟨b, o + 5, none⟩ = some (.slice aV nv cV) ∧ w'.cell? ⟨b', o' + 5, none⟩ = some (.slice aV' nv' cV') ∧ w'.cell? ⟨b, o + 6, none⟩ = some (.slice aP np cP) ∧ w'.cell? ⟨b', o' + 6, none⟩ = some (.slice aP' np' cP')) (first | assumption | exact unhide HSS _ hT2 | exact unhide HSS _ (But.of hT1 (Nat.le_refl _)) | exact unhide HSS _ (But.of (keep0 _) (Nat.le_refl _))) (first | (go_at_call 74; refine (unhide HEq _ (by first | exact keep0 _ | assumption)).mono ?_; rintro e v1 ⟨rfl, hv1⟩; have hT1 : Below W.heap.size W v1 := (by obtain ⟨m, rfl⟩ := hv1; exact below_drewN (keep0 W) m)) | (go_at_call 75; refine (unhide HPt _ hT1).mono ?_; rintro e v2 ⟨rfl, h5⟩; have hT2 : But r W v2 := (But.of hT1 (Nat.le_refl _)).trans h5.2; have H5 := hide h5; clear h5))
          go_wp2
          obtain ⟨⟨s5, hs5, hC5⟩, hb5⟩ := unhide H5
          have hb6 : But r W v2 := (But.of hT1 (Nat.le_refl _)).trans hb5
          obtain ⟨c4, d4⟩ := unhide HSB v2 hb6
          have HCall := hide (unhide HLt v2.drew s5 ⟨hb6.os, hb6.tape, hb6.output, hb6.size, hb6.block⟩ hC5 hs5)
          have H6 := hide (And.intro hb6 hs5)
          clear c5 d5 c6 d6 hT1 hs5 hC5 hb5 hb6 HSS HEq HPt
          go_region_held3 (fun w' => w'.cell? ⟨b, o + 4, none⟩ = some (.slice aL n cL) ∧ w'.cell? ⟨b', o' + 4, none⟩ = some (.slice aL' n' cL')) (first | exact unhide HSB _ ((unhide H6).1.trans ((But.of (keep0 _) (Nat.le_refl _)).trans (unhide H7).2)) | exact unhide HSB _ ((unhide H6).1.trans (But.of (keep0 _) (Nat.le_refl _))) | go_keep) ((go_at_call 75; refine (unhide HCall).mono ?_; rintro e w7 ⟨rfl, h7⟩; have H7 := hide h7; clear h7))
          go_wp2
          go_ret
          obtain ⟨⟨s7, hs7, hC7⟩, hb7⟩ := unhide H7
          refine ⟨?_, ⟨s7, by have := unhide HWt; have := (unhide H6).2; unfold lwt at *; omega, hC7⟩, (But.of (unhide HBW) (Nat.le_refl _)).trans ((unhide H6).1.trans ((But.of (Below.refl _ v2).drew (Nat.le_refl _)).trans hb7))⟩
          rw [unhide HSame, unhide HQ, unhide HV, unhide HP, beq_iff_eq.2 (unhide H19)]
          rfl
    · have hk2 : kindOf t.op ≠ 112 := kindOf_all h19
      have H19 := hide h19
      clear h19
      generalize kindOf t.op = kk at *
      generalize kindOf u.op = kk2 at *
      have ta2 := fun w => ta_no (ty := 112) (v := .agg #[.pointer (some ⟨b, o, none⟩)]) (z := .agg #[.pointer none]) (w := w) hk2 rfl rfl (by go_simp)
      go_wp2
      obtain ⟨W, eW, hbW⟩ : ∃ W, w4.alloc (.cells #[.pointer none] 112) = W ∧ Below w.heap.size w W := ⟨_, rfl, (unhide HB4).alloc (unhide HB4).size _⟩
      rw [eW]
      have c4 : W.cell? ⟨b, o + 4, none⟩ = some (.slice aL t.l.length cL) := (hbW.cell (p := ⟨b, o + 4, none⟩) hbw).trans ((unhide HG).1 4 _ rfl)
      have d4 : W.cell? ⟨b', o' + 4, none⟩ = some (.slice aL' u.l.length cL') := (hbW.cell (p := ⟨b', o' + 4, none⟩) hbw').trans ((unhide HG).2 4 _ rfl)
      have hbB : Below B w W.drew := hbW.drew.mono (by omega)
      have HCall := hide (unhide HL B r s W.drew aL aL' t.l.length u.l.length cL cL' t.l u.l (k + 1) ((unhide HRows).1.below hbB) ((unhide HRows).2.1.below hbB) rfl rfl ((unhide HC).below hbW.drew hrw) hB (by have := (unhide HS).1; have := unhide HWt; unfold lwt; omega) (by omega))
      rw [show ((k + 1 : Nat) : Int) = (k : Int) + 1 by omega] at HCall
      have hbW2 : b < W.heap.size := Nat.lt_of_lt_of_le hbw hbW.size
      have hbW2' : b' < W.heap.size := Nat.lt_of_lt_of_le hbw' hbW.size
      have HSB := hide (show ∀ w', But r W w' → w'.cell? ⟨b, o + 4, none⟩ = some (.slice aL t.l.length cL) ∧ w'.cell? ⟨b', o' + 4, none⟩ = some (.slice aL' u.l.length cL') from fun w' h' => ⟨cell_but h' hbW2 hbr c4, cell_but h' hbW2' hbr' d4⟩)
      have HBW := hide hbW
      have HSame := hide (t.same_eq u)
      clear eW hbW hbB HB4 hNe hEg hb hb' hbw hbw' hbr hbr' hB hrw hk2 hbW2 hbW2'
      generalize t.l.length = n at *
      generalize u.l.length = n' at *
      have hwr := wrap_succ (k := k) (by omega)
      go_region_held3 (fun w' => w'.cell? ⟨b, o + 4, none⟩ = some (.slice aL n cL) ∧ w'.cell? ⟨b', o' + 4, none⟩ = some (.slice aL' n' cL')) (first | exact unhide HSB _ ((But.of (keep0 _) (Nat.le_refl _)).trans (unhide H5).2) | exact unhide HSB _ (But.of (keep0 _) (Nat.le_refl _)) | go_keep) ((go_at_call 75; refine (unhide HCall).mono ?_; rintro e w5 ⟨rfl, h5⟩; have H5 := hide h5; clear h5))
      go_wp2
      go_ret
      obtain ⟨⟨s5, hs5, hC5⟩, hb5⟩ := unhide H5
      refine ⟨?_, ⟨s5, by have := unhide HWt; unfold lwt at hs5; omega, hC5⟩, (But.of (unhide HBW) (Nat.le_refl _)).trans ((But.of (Below.refl _ W).drew (Nat.le_refl _)).trans hb5)⟩
      rw [unhide HSame, unhide HQ, beq_eq_false_iff_ne.2 (unhide H19)]
      simp
end Go.Proofs.YtiockiilenjjaaaDoor

namespace Go.Proofs.YtiockiilenjjaaaDoor
open Go Go.RowKit
/-- A function's signature. -/
structure Fn where
  name : ByteArray
  args : List Int
  out : Int
def findF (k : ByteArray) : List Fn → Option Fn
  | [] => none
  | f :: l => if k = f.name then some f else findF k l
def byteOf (s : ByteArray) (i : Nat) : Nat := (s.data.toList.getD i 0).toNat
def letB (x : Nat) : Bool := (decide (65 ≤ x) && decide (x ≤ 90)) || (decide (97 ≤ x) && decide (x ≤ 122)) || x == 95
def digB (x : Nat) : Bool := decide (48 ≤ x) && decide (x ≤ 57)
def wordB (s : ByteArray) : Bool := decide (0 < s.size) && decide (s.size ≤ 40) && !isRes s && (List.range s.size).all fun i => letB (byteOf s i) || (digB (byteOf s i) && !(i == 0))
theorem byteOf_eq {s : ByteArray} {i : Nat} (h : i < s.size) : byteOf s i = (s[i]'h).toNat := by
  unfold byteOf
  have h' : i < s.data.toList.length := h
  rw [List.getD_eq_getElem?_getD, List.getElem?_eq_getElem h']
  rfl
theorem wordB_iff (s : ByteArray) : wordB s = true ↔ IsWord s := by
  unfold wordB IsWord
  simp only [Bool.and_eq_true, decide_eq_true_eq, Bool.not_eq_true', List.all_eq_true, List.mem_range, and_assoc]
  refine and_congr_right fun _ => and_congr_right fun _ => and_congr_right fun _ => ?_
  refine forall_congr' fun i => ?_
  refine ⟨fun h hi => ?_, fun h hi => ?_⟩
  · intro h'
    have := h hi
    rw [byteOf_eq hi] at this
    simp only [letB, digB, Bool.or_eq_true, Bool.and_eq_true, decide_eq_true_eq, beq_iff_eq, Bool.not_eq_true', beq_eq_false_iff_ne] at this
    unfold isLetter isDig
    omega
  · have := h hi hi
    rw [byteOf_eq hi]
    unfold isLetter isDig at this
    simp only [letB, digB, Bool.or_eq_true, Bool.and_eq_true, decide_eq_true_eq, beq_iff_eq, Bool.not_eq_true', beq_eq_false_iff_ne]
    omega
theorem isWord_b (s : ByteArray) (w : World) (hs : s.size ≤ 9223372036854775807) : Calls Tryd.prog 100 #[.string s] w (VPost (.bool (wordB s)) w) :=
  (isWord_any s w hs).mono fun e w' ⟨b, h1, h2, h3⟩ => by
    have : b = wordB s := by
      have := wordB_iff s
      cases hb : b <;> cases hw : wordB s <;> simp_all
    exact ⟨by rw [h1, this], h3⟩
def sortB (x : Int) : Bool := decide (1 ≤ x) && decide (x ≤ 3)
/-- The operator of the first operand. -/
def headOp (l : List Tm) : Int := match l with
  | [] => 0
  | u :: _ => u.op
def operandsB (op : Int) (n : Nat) (h : Int) : Bool := (opCount op.toNat == -1 || opCount op.toNat == (n : Int)) && (!(op == 15) || h == 1)
def memB (k : ByteArray) (l : List ByteArray) : Bool := l.any fun j => decide (j = k)
def distinct : List ByteArray → Bool
  | [] => true
  | k :: l => !(memB k l) && distinct l
def bindersB (vars : List (ByteArray × Int)) : Bool := (vars.all fun v => wordB v.1 && sortB v.2) && (!(vars.length == 0) && distinct (vars.map (·.1)))
def shapeB (rt : ByteArray → Bool) (op : Int) (name num : ByteArray) (n : Nat) (h : Int) (vars : List (ByteArray × Int)) (np : Nat) : Bool :=
  if op = 1 then rt num && n == 0
  else if op = 2 ∨ op = 3 then n == 0
  else if 4 ≤ op ∧ op ≤ 16 then operandsB op n h
  else if op = 18 then wordB name && n == 0
  else if op = 19 then (n == 1 && decide (0 < np)) && bindersB vars
  else false
def appE (sig : List Fn) (name : ByteArray) (n : Nat) : Int :=
  if wordB name then (match findF name sig with
    | none => 32
    | some f => if n = f.args.length then 0 else 30) else 30
def shapeE (rt : ByteArray → Bool) (sig : List Fn) (op : Int) (name num : ByteArray) (n : Nat) (h : Int) (vars : List (ByteArray × Int)) (np : Nat) : Int :=
  if op = 17 then appE sig name n else if shapeB rt op name num n h vars np then 0 else 30
def appliedT (f : Fn) (ss : List Int) : Option Int := if ss = f.args ∧ sortB f.out = true then some f.out else none
def operatedT (op : Nat) (ss : List Int) : Option Int :=
  if op = 16 then (if ss.getD 0 0 = 2 ∧ ss.getD 1 0 = ss.getD 2 0 then some (ss.getD 1 0) else none)
  else if ss.all fun s => s == (if opEach op = 0 then ss.getD 0 0 else opEach op) then some (opOwn op) else none
def sortOfT (sig : List Fn) (op : Int) (name : ByteArray) (ss : List Int) : Option Int :=
  if op = 17 then (findF name sig).bind fun f => appliedT f ss
  else if 4 ≤ op ∧ op ≤ 16 then operatedT op.toNat ss
  else if op = 1 then some 1 else some 2
def varE (name : ByteArray) (sort : Int) (env : (ByteArray → List Int)) : Int × Int := match (env name).getLast? with
  | none => (0, 32)
  | some s => if s = sort then (sort, 0) else (0, 31)
def bindV : List (ByteArray × Int) → (ByteArray → List Int) → (ByteArray → List Int)
  | [], env => env
  | v :: l, env => bindV l fun k => if k = v.1 then env k ++ [v.2] else env k
def chkL : List ((ByteArray → List Int) → Int × Int) → (ByteArray → List Int) → List Int × Int
  | [], _ => ([], 0)
  | f :: fs, env => if (f env).2 ≠ 0 then ([], (f env).2) else ((f env).1 :: (chkL fs env).1, (chkL fs env).2)
def Tm.bare : Tm → Bool | ⟨op, _, _, _, l, _, _⟩ => (op == 1 || (decide (12 ≤ op) && decide (op ≤ 15)) || op == 17 || op == 18) && ((l.map fun u => Tm.bare u).all id)
def Tm.vn : Tm → List ByteArray | ⟨op, name, _, _, l, _, _⟩ => (if op = 18 then [name] else []) ++ ((l.map fun u => Tm.vn u).flatten)
/-- What is wrong with a pattern: its limits, its form, its check. -/
def patE (lim : Int) (op : Int) (bare : Bool) (e : Int) : Int := if lim ≠ 0 then lim else if op = 17 ∧ bare = true then e else 30
def firstE : List Int → Int
  | [] => 0
  | e :: l => if e ≠ 0 then e else firstE l
def underE (body : Int × Int) (pats : List Int) (vars : List (ByteArray × Int)) (names : List ByteArray) : Int :=
  if body.2 ≠ 0 then body.2 else if body.1 ≠ 2 then 31 else if firstE pats ≠ 0 then firstE pats else if vars.all fun v => memB v.1 names then 0 else 30
def headF (l : List ((ByteArray → List Int) → Int × Int)) (env : (ByteArray → List Int)) : Int × Int := match l with
  | [] => (0, 0)
  | f :: _ => f env
def patEs (l : List ((Int × Int × Bool) × ((ByteArray → List Int) → Int × Int))) (env : (ByteArray → List Int)) : List Int := l.map fun p => patE p.1.1 p.1.2.1 p.1.2.2 (p.2 env).2
def Tm.chk (rt : ByteArray → Bool) (sig : List Fn) : Tm → (ByteArray → List Int) → Int × Int
  | ⟨op, name, sort, num, l, vars, pat⟩, env =>
    if shapeE rt sig op name num l.length (headOp l) vars pat.length ≠ 0 then (0, shapeE rt sig op name num l.length (headOp l) vars pat.length)
    else if op = 18 then varE name sort env
    else if op = 19 then
      (if underE (headF (l.map fun u => Tm.chk rt sig u) (bindV vars env)) (patEs (pat.map fun p => ((limE p, p.op, p.bare), Tm.chk rt sig p)) (bindV vars env)) vars ((pat.map Tm.vn).flatten) ≠ 0
        then (0, underE (headF (l.map fun u => Tm.chk rt sig u) (bindV vars env)) (patEs (pat.map fun p => ((limE p, p.op, p.bare), Tm.chk rt sig p)) (bindV vars env)) vars ((pat.map Tm.vn).flatten)) else (2, 0))
    else if (chkL (l.map fun u => Tm.chk rt sig u) env).2 ≠ 0 then (0, (chkL (l.map fun u => Tm.chk rt sig u) env).2)
    else match sortOfT sig op name (chkL (l.map fun u => Tm.chk rt sig u) env).1 with
      | some s => (s, 0)
      | none => (0, 31)
end Go.Proofs.YtiockiilenjjaaaDoor
