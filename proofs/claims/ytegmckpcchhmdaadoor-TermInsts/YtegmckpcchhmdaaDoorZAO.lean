/- The collector in memory; join. -/
import Derived.Test.YtegmckpcchhmdaaDoorZAF
import Derived.Test.YtegmckpcchhmdaaDoorZAN
import Derived.LaidEqlPtr
import Derived.Laws.AppendOwn
set_option linter.unusedVariables false
set_option linter.unusedSimpArgs false

/- Maps by keys of any kind whose comparisons are known: what hangs on no program. -/
set_option linter.unusedSectionVars false
namespace Go.Proofs.YtegmckpcchhmdaaDoor
open Go Go.RowKit
section
variable {κ : Type} [DecidableEq κ]
/-- A map holds these, in this order. -/
def GM (kv : κ → Value) (w : World) (r : Nat) (es : List (κ × Value)) : Prop := ∃ (a : Array MapEntry) (c : Nat), w.heap[r]? = some (.map a c) ∧ a.toList.map (fun e => (e.key, e.val)) = es.map (fun p => (kv p.1, p.2))
def lookG (k : κ) : List (κ × Value) → Option Value
  | [] => none
  | p :: l => if k = p.1 then some p.2 else lookG k l
def putG (k : κ) (v : Value) : List (κ × Value) → List (κ × Value)
  | [] => [(k, v)]
  | p :: l => if k = p.1 then (k, v) :: l else p :: putG k v l
theorem putG_new (k : κ) (v : Value) : ∀ (es : List (κ × Value)), lookG k es = none → putG k v es = es ++ [(k, v)]
  | [], _ => rfl
  | p :: l, h => by
    simp only [lookG] at h
    split at h
    · cases h
    · rename_i hk
      rw [putG, if_neg hk, putG_new k v l h]
      rfl
theorem putG_mem {k : κ} {v : Value} : ∀ {es : List (κ × Value)} {p : κ × Value}, p ∈ putG k v es → p = (k, v) ∨ p ∈ es
  | [], p, h => by
    simp only [putG, List.mem_singleton] at h
    exact .inl h
  | q :: l, p, h => by
    unfold putG at h
    split at h
    · rcases List.mem_cons.1 h with h | h
      · exact .inl h
      · exact .inr (List.mem_cons_of_mem _ h)
    · rcases List.mem_cons.1 h with h | h
      · exact .inr (h ▸ List.mem_cons_self)
      · rcases putG_mem h with h | h
        · exact .inl h
        · exact .inr (List.mem_cons_of_mem _ h)
variable {P : Program} {mt kt et : TypeId} {kv : κ → Value} {ds : TypeDesc}
/-- Two keys are compared as they are. -/
def KEq (P : Program) (kt : TypeId) (kv : κ → Value) (w : World) (a b : κ) : Prop := (Op.equal kt (kv a) (kv b)).run P w = .ok (decide (a = b)) w
theorem find_gm {k : κ} {w : World} : ∀ (es : List (κ × Value)) (l : List MapEntry) (i : Nat), l.map (fun e => (e.key, e.val)) = es.map (fun p => (kv p.1, p.2)) → (∀ p ∈ es, KEq P kt kv w k p.1) →
    (lookG k es = none ∧ (Instr.findAsking kt (kv k) l i).run P w = .ok none w) ∨
    ∃ j v0, lookG k es = some v0 ∧ (Instr.findAsking kt (kv k) l i).run P w = .ok (some (i + j, v0)) w ∧ (∃ h : j < l.length, l[j].key = kv k) ∧ ∀ v, (l.modify j fun e => { e with key := kv k, val := v }).map (fun e => (e.key, e.val)) = (putG k v es).map (fun p => (kv p.1, p.2))
  | [], l, i, h, _ => by
    have : l = [] := by simpa using h
    subst this
    exact .inl ⟨rfl, rfl⟩
  | p :: es, [], i, h, _ => by simp at h
  | p :: es, e :: l, i, h, hq => by
    simp only [List.map_cons, List.cons.injEq, Prod.mk.injEq] at h
    obtain ⟨⟨h1, h2⟩, h3⟩ := h
    have hp := hq p List.mem_cons_self
    unfold KEq at hp
    by_cases hk : k = p.1
    · refine .inr ⟨0, p.2, by simp [lookG, hk], ?_, ⟨by simp, by simp [h1, hk]⟩, fun v => ?_⟩
      · rw [decide_eq_true hk] at hp
        simp [Instr.findAsking, h1, hp, h2]
      · simp [putG, hk, h3]
    · have hs : (Instr.findAsking kt (kv k) (e :: l) i).run P w = (Instr.findAsking kt (kv k) l (i + 1)).run P w := by
        simp [Instr.findAsking, h1, hp, hk]
      rcases find_gm (k := k) es l (i + 1) h3 (fun q hq' => hq q (List.mem_cons_of_mem _ hq')) with ⟨a1, a2⟩ | ⟨j, v0, a1, a2, ⟨a3, a4⟩, a5⟩
      · exact .inl ⟨by simp [lookG, hk, a1], hs.trans a2⟩
      · refine .inr ⟨j + 1, v0, by simp [lookG, hk, a1], by rw [hs, a2]; congr 3; omega, ⟨by simp; omega, by simpa using a4⟩, fun v => ?_⟩
        have := a5 v
        simp only [List.modify_succ_cons, List.map_cons, putG, if_neg hk, this, h1, h2]
/-- What is wanted of a type of keys. -/
structure KOk (P : Program) (kt : TypeId) (kv : κ → Value) (ds : TypeDesc) : Prop where
  un : P.underlying kt = some ds
  now : ∀ a b, Instr.sameNow ds a b = none
  chk : ∀ w em k, (Instr.checkKey em 10000 kt (kv k)).run P w = .ok () w
  bits : ∀ k, Instr.sameBits 10000 (kv k) (kv k) = true
theorem findKey_asks (K : KOk P kt kv ds) (k : κ) (w : World) (l : List MapEntry) : (Instr.findKey kt (kv k) l).run P w = (Instr.findAsking kt (kv k) l 0).run P w := by
  cases l with
  | nil => simp [Instr.findKey, run_underlying K.un, Instr.findNow, Instr.findAsking]
  | cons e l => simp [Instr.findKey, run_underlying K.un, Instr.findNow, K.now]
theorem gm_lookup (K : KOk P kt kv ds) {w : World} {r : Nat} {es : List (κ × Value)} {k : κ} {z : Value} (um : P.underlying mt = some (.map kt et)) (hz : (zeroValue et).run P w = .ok z w) (h : GM kv w r es) (hq : ∀ p ∈ es, KEq P kt kv w k p.1) :
    (Instr.lookup mt (.map (some r)) (kv k) true).run P w = .ok (.tuple #[(lookG k es).getD z, .bool (lookG k es).isSome]) w := by
  obtain ⟨a, c, h1, h2⟩ := h
  have hf := findKey_asks K k w a.toList
  rcases find_gm (P := P) (kt := kt) (k := k) es a.toList 0 h2 hq with ⟨a1, a2⟩ | ⟨j, v0, a1, a2, _, _⟩
  · rw [a1]
    rw [a2] at hf
    simp [Instr.lookup, run_underlying um, MapKept.run_getObj_map h1, K.chk, hf, hz, Result.andThen]
  · rw [a1]
    rw [a2] at hf
    simp [Instr.lookup, run_underlying um, MapKept.run_getObj_map h1, K.chk, hf, Result.andThen]
theorem gm_update (K : KOk P kt kv ds) {w : World} {r : Nat} {es : List (κ × Value)} {k : κ} {v : Value} (um : P.underlying mt = some (.map kt et)) (h : GM kv w r es) (hq : ∀ p ∈ es, KEq P kt kv w k p.1) :
    ∃ w', (Instr.mapUpdate mt (.map (some r)) (kv k) v).run P w = .ok () w' ∧ PutAt r w w' ∧ GM kv w' r (putG k v es) := by
  obtain ⟨a, c, h1, h2⟩ := h
  have hf := findKey_asks K k w a.toList
  have hlt := (Array.getElem?_eq_some_iff.1 h1).1
  rcases find_gm (P := P) (kt := kt) (k := k) es a.toList 0 h2 hq with ⟨a1, a2⟩ | ⟨j, v0, a1, a2, ⟨a3, a4⟩, a5⟩
  · obtain ⟨hp, ho⟩ := put_obj (w := w) (.map (a.push ⟨kv k, v, c⟩) (c + 1)) hlt
    rw [a2] at hf
    exact ⟨_, by simp only [Instr.mapUpdate, Sem.run_bind, run_underlying um, MapKept.run_getObj_map h1, K.chk, hf, MapKept.run_setObj_map _ h1, Result.andThen], hp, _, _, ho, by rw [putG_new k v es a1]; simp [h2]⟩
  · obtain ⟨hp, ho⟩ := put_obj (w := w) (.map (a.modify (0 + j) fun e => { e with key := kv k, val := v }) c) hlt
    rw [a2] at hf
    have hj : (((a[0 + j]?).map (·.key)).getD (kv k)) = kv k := by
      have : j < a.size := by simpa using a3
      simp only [Nat.zero_add]
      rw [Array.getElem?_eq_getElem this]
      simpa using a4
    have hst : (Instr.keyThatStays (kv k) (kv k)).run P w = .ok (kv k) w := by
      simp [Instr.keyThatStays, K.bits]
    refine ⟨_, ?_, hp, _, _, ho, ?_⟩
    · simp only [Instr.mapUpdate, Sem.run_bind, run_underlying um, MapKept.run_getObj_map h1, K.chk, hf, hj, hst, MapKept.run_setObj_map _ h1, Result.andThen]
    · simpa using a5 v
theorem gm_len {w : World} {r : Nat} {es : List (κ × Value)} {ty : TypeId} (um : P.underlying mt = some (.map kt et)) (h : GM kv w r es) : (Builtin.len_ #[mt] ty #[.map (some r)]).run P w = .ok (.int .i64 es.length) w := by
  obtain ⟨a, c, h1, h2⟩ := h
  have : a.size = es.length := by
    have := congrArg List.length h2
    simpa using this
  simp [Builtin.len_, run_underlying um, MapKept.run_getObj_map h1, this, goInt]
theorem GM.new (w : World) : GM kv (w.alloc (.map #[] 0)) w.heap.size [] := ⟨#[], 0, (MapKept.heap_alloc w _).1, rfl⟩
theorem GM.lt {w : World} {r : Nat} {es : List (κ × Value)} (h : GM kv w r es) : r < w.heap.size := by
  obtain ⟨_, _, h, _⟩ := h
  exact (Array.getElem?_eq_some_iff.1 h).1
theorem GM.same {w w' : World} {r : Nat} {es : List (κ × Value)} (h : GM kv w r es) (hb : w'.heap[r]? = w.heap[r]?) : GM kv w' r es := by
  obtain ⟨a, c, h1, h2⟩ := h
  exact ⟨a, c, hb.trans h1, h2⟩
theorem GM.below {w w' : World} {r B : Nat} {es : List (κ × Value)} (h : GM kv w r es) (hb : Below B w w') (hB : r < B) : GM kv w' r es := h.same (hb.block r hB)
end
end Go.Proofs.YtegmckpcchhmdaaDoor

/- What a collector collects: plain facts. -/
namespace Go.Proofs.YtegmckpcchhmdaaDoor
open Go Go.RowKit
/-- A bare ground term: nothing in fields that say nothing. -/
def BG (x : Tm) : Prop := x.inst0 = x ∧ x.ground = true
def insT (x : Tm) (S : List Tm) : List Tm := if S.any (fun y => y.same x) then S else S ++ [x]
def insAll (xs S : List Tm) : List Tm := xs.foldl (fun S x => insT x S) S
/-- The ground terms that stand in a term, as they end, bare. -/
def Tm.gs : Tm → List Tm
  | ⟨op, name, sort, num, l, vars, pat⟩ => if op = 19 then [] else (l.map fun u => Tm.gs u).flatten ++ if Tm.ground ⟨op, name, sort, num, l, vars, pat⟩ then [Tm.inst0 ⟨op, name, sort, num, l, vars, pat⟩] else []
def gsL (l : List Tm) : List Tm := (l.map Tm.gs).flatten
theorem Tm.gs_eq (t : Tm) : t.gs = if t.op = 19 then [] else gsL t.l ++ if t.ground then [t.inst0] else [] := by
  cases t
  rw [Tm.gs]
  rfl
theorem Tm.inst0_eq (t : Tm) : t.inst0 = ⟨t.op, t.nm, t.so, t.nu, t.l.map Tm.inst0, if t.op = 19 then t.vars else [], if t.op = 19 then t.pat.map Tm.inst0 else []⟩ := by
  cases t
  rw [Tm.inst0]
  rfl
theorem Tm.ground_iff (t : Tm) : t.ground = true ↔ t.op ≠ 18 ∧ t.op ≠ 19 ∧ ∀ u ∈ t.l, u.ground = true := by
  rw [Tm.ground_eq]
  simp [and_assoc]
theorem BG.parts {x : Tm} (h : BG x) : x.op ≠ 18 ∧ x.op ≠ 19 ∧ x.nm = x.name ∧ x.nu = x.num ∧ x.so = x.sort ∧ x.vars = [] ∧ x.pat = [] ∧ ∀ u ∈ x.l, BG u := by
  obtain ⟨h1, h2⟩ := h
  obtain ⟨g1, g2, g3⟩ := (Tm.ground_iff x).1 h2
  rw [Tm.inst0_eq, if_neg g2, if_neg g2] at h1
  have e1 := congrArg Tm.name h1
  have e2 := congrArg Tm.num h1
  have e3 := congrArg Tm.sort h1
  have e4 := congrArg Tm.vars h1
  have e5 := congrArg Tm.pat h1
  have e6 := congrArg Tm.l h1
  simp only at e1 e2 e3 e4 e5 e6
  refine ⟨g1, g2, e1, e2, e3, e4.symm, e5.symm, fun u hu => ⟨?_, g3 u hu⟩⟩
  obtain ⟨j, hj, rfl⟩ := List.getElem_of_mem hu
  have e7 := congrArg (fun l => l[j]?) e6
  simp only [List.getElem?_map, List.getElem?_eq_getElem hj, Option.map_some, Option.some.injEq] at e7
  exact e7
theorem instL_twice {l : List Tm} (h : ∀ u ∈ l, u.inst0.inst0 = u.inst0) : l.map (Tm.inst0 ∘ Tm.inst0) = l.map Tm.inst0 := List.map_congr_left fun u hu => h u hu
theorem Tm.inst0_twice (t : Tm) : t.inst0.inst0 = t.inst0 := Tm.ind (p := fun t => t.inst0.inst0 = t.inst0) (fun t hl hp => by
  obtain ⟨op, name, sort, num, l, vars, pat⟩ := t
  rw [Tm.inst0_eq ⟨op, name, sort, num, l, vars, pat⟩, Tm.inst0_eq]
  simp only [Tm.nm, Tm.nu, Tm.so, List.map_map, instL_twice hl]
  by_cases h19 : op = 19
  · simp only [h19, if_true, List.map_map, instL_twice hp]
    simp
  · simp [h19]
    exact ⟨fun h1 h2 h3 => absurd h3 (by simp [h1, h2]), fun h1 h2 => absurd h2 h1, fun h1 h2 => absurd h2 h1⟩) t
theorem groundL_inst0 {l : List Tm} (h : ∀ u ∈ l, u.inst0.ground = u.ground) : (l.map Tm.inst0).all Tm.ground = l.all Tm.ground := by
  induction l with
  | nil => rfl
  | cons t l ih => simp only [List.map_cons, List.all_cons, h t List.mem_cons_self, ih fun u hu => h u (List.mem_cons_of_mem _ hu)]
theorem Tm.ground_inst0 (t : Tm) : t.inst0.ground = t.ground := Tm.ind (p := fun t => t.inst0.ground = t.ground) (fun t hl _ => by
  rw [Tm.inst0_eq, Tm.ground_eq, Tm.ground_eq]
  simp only [groundL_inst0 hl]) t
theorem BG.of {t : Tm} (h : t.ground = true) : BG t.inst0 := ⟨t.inst0_twice, by rw [t.ground_inst0]; exact h⟩
theorem bytes_eq {a b : ByteArray} (h : (a.toList == b.toList) = true) : a = b := by
  by_cases e : a = b
  · exact e
  · rw [str_ne e] at h
    cases h
theorem sameL_bare : ∀ {l m : List Tm}, (∀ u ∈ l, ∀ y, BG u → BG y → u.same y = true → u = y) → (∀ u ∈ l, BG u) → (∀ u ∈ m, BG u) → sameL l m = true → l = m
  | [], [], _, _, _, _ => rfl
  | [], _ :: _, _, _, _, h => by cases h
  | _ :: _, [], _, _, _, h => by cases h
  | t :: l, u :: m, hi, hx, hy, h => by
    rw [sameL_cons, Bool.and_eq_true] at h
    rw [hi t List.mem_cons_self u (hx t List.mem_cons_self) (hy u List.mem_cons_self) h.1, sameL_bare (fun v hv => hi v (List.mem_cons_of_mem _ hv)) (fun v hv => hx v (List.mem_cons_of_mem _ hv)) (fun v hv => hy v (List.mem_cons_of_mem _ hv)) h.2]
theorem same_bare {x y : Tm} (hx : BG x) (hy : BG y) (h : x.same y = true) : x = y := Tm.ind (p := fun x => ∀ y, BG x → BG y → x.same y = true → x = y) (fun x hl _ y hx hy h => by
    obtain ⟨a1, a2, a3, a4, a5, a6, a7, a8⟩ := hx.parts
    obtain ⟨b1, b2, b3, b4, b5, b6, b7, b8⟩ := hy.parts
    rw [Tm.same_eq] at h
    unfold Tm.sameLab at h
    rw [a3, a4, a5, b3, b4, b5] at h
    simp only [Bool.and_eq_true] at h
    obtain ⟨⟨h1, h2, h3, h4⟩, _, h5⟩ := h
    have e5 := sameL_bare hl a8 b8 h5
    cases x
    cases y
    simp only at *
    have e1 := of_decide_eq_true h1
    have e2 := bytes_eq h2
    have e3 := bytes_eq h3
    have e4 := of_decide_eq_true h4
    subst e1 e2 e3 e4 e5 a6 a7 b6 b7
    rfl) x y hx hy h
theorem insT_in {x : Tm} {S : List Tm} (h : x ∈ S) : insT x S = S := by
  unfold insT
  rw [if_pos]
  simp only [List.any_eq_true]
  exact ⟨x, h, x.same_refl⟩
theorem insT_out {x : Tm} {S : List Tm} (hS : ∀ y ∈ S, BG y) (hx : BG x) (h : x ∉ S) : insT x S = S ++ [x] := by
  unfold insT
  rw [if_neg]
  simp only [List.any_eq_true, not_exists, not_and]
  intro y hy e
  exact h (same_bare (hS y hy) hx e ▸ hy)
theorem insAll_app (xs ys S : List Tm) : insAll (xs ++ ys) S = insAll ys (insAll xs S) := List.foldl_append
theorem insAll_in : ∀ {xs S : List Tm}, (∀ x ∈ xs, x ∈ S) → insAll xs S = S
  | [], _, _ => rfl
  | x :: xs, S, h => by
    show insAll xs (insT x S) = S
    rw [insT_in (h x List.mem_cons_self)]
    exact insAll_in fun y hy => h y (List.mem_cons_of_mem _ hy)
theorem insT_pre (x : Tm) (S : List Tm) : S <+: insT x S := by
  unfold insT
  split
  · exact List.prefix_refl S
  · exact List.prefix_append _ _
theorem insAll_pre : ∀ (xs S : List Tm), S <+: insAll xs S
  | [], S => List.prefix_refl S
  | x :: xs, S => (insT_pre x S).trans (insAll_pre xs (insT x S))
theorem insT_mem {x : Tm} {S : List Tm} (hS : ∀ y ∈ S, BG y) (hx : BG x) : x ∈ insT x S ∧ ∀ y ∈ insT x S, BG y := by
  by_cases h : x ∈ S
  · rw [insT_in h]
    exact ⟨h, hS⟩
  · rw [insT_out hS hx h]
    exact ⟨by simp, fun y hy => by
      rcases List.mem_append.1 hy with hy | hy
      · exact hS y hy
      · rw [List.mem_singleton.1 hy]; exact hx⟩
theorem insAll_mem : ∀ {xs S : List Tm}, (∀ y ∈ S, BG y) → (∀ x ∈ xs, BG x) → (∀ x ∈ xs, x ∈ insAll xs S) ∧ ∀ y ∈ insAll xs S, BG y
  | [], S, hS, _ => ⟨fun x hx => absurd hx List.not_mem_nil, hS⟩
  | x :: xs, S, hS, hx => by
    obtain ⟨h1, h2⟩ := insT_mem hS (hx x List.mem_cons_self)
    obtain ⟨h3, h4⟩ := insAll_mem (xs := xs) (S := insT x S) h2 (fun y hy => hx y (List.mem_cons_of_mem _ hy))
    refine ⟨fun y hy => ?_, h4⟩
    rcases List.mem_cons.1 hy with rfl | hy
    · exact (insAll_pre xs (insT y S)).subset h1
    · exact h3 y hy
theorem gsL_mem {l : List Tm} {x : Tm} (h : x ∈ gsL l) : ∃ u ∈ l, x ∈ u.gs := by
  unfold gsL at h
  obtain ⟨g, hg, hx⟩ := List.mem_flatten.1 h
  obtain ⟨u, hu, rfl⟩ := List.mem_map.1 hg
  exact ⟨u, hu, hx⟩
theorem Tm.gs_bg (t : Tm) : ∀ x ∈ t.gs, BG x := Tm.ind (p := fun t => ∀ x ∈ t.gs, BG x) (fun t hl _ x hx => by
  rw [Tm.gs_eq] at hx
  split at hx
  · cases hx
  · rcases List.mem_append.1 hx with hx | hx
    · obtain ⟨u, hu, hxu⟩ := gsL_mem hx
      exact hl u hu x hxu
    · split at hx
      · rename_i hg
        rw [List.mem_singleton.1 hx]
        exact BG.of hg
      · cases hx) t
theorem gsL_bg (l : List Tm) : ∀ x ∈ gsL l, BG x := fun x hx => by
  obtain ⟨u, _, hxu⟩ := gsL_mem hx
  exact u.gs_bg x hxu
theorem gsL_len0 {l : List Tm} (h : ∀ u ∈ l, u.gs.length ≤ u.size) : (gsL l).length ≤ (l.map Tm.size).sum := by
  induction l with
  | nil => exact Nat.le_refl _
  | cons t l ih =>
    have h1 := h t List.mem_cons_self
    have h2 := ih fun u hu => h u (List.mem_cons_of_mem _ hu)
    unfold gsL at h2 ⊢
    rw [List.map_cons, List.flatten_cons, List.length_append, List.map_cons, List.sum_cons]
    omega
theorem Tm.gs_len (t : Tm) : t.gs.length ≤ t.size := Tm.ind (p := fun t => t.gs.length ≤ t.size) (fun t hl _ => by
  rw [Tm.gs_eq, Tm.size_eq]
  split
  · simp
  · have := gsL_len0 hl
    rw [List.length_append]
    split <;> simp only [List.length_singleton, List.length_nil] <;> omega) t
theorem gsL_len (l : List Tm) : (gsL l).length ≤ (l.map Tm.size).sum := gsL_len0 fun u _ => u.gs_len
theorem insAll_len : ∀ (xs S : List Tm), (insAll xs S).length ≤ S.length + xs.length
  | [], S => by simp [insAll]
  | x :: xs, S => by
    have h1 := insAll_len xs (insT x S)
    have h2 : (insT x S).length ≤ S.length + 1 := by
      unfold insT
      split <;> simp
    show (insAll xs (insT x S)).length ≤ _
    rw [List.length_cons]
    omega
theorem gsL_take {l : List Tm} {i : Nat} (h : i < l.length) : gsL (l.take (i + 1)) = gsL (l.take i) ++ l[i].gs := by
  unfold gsL
  rw [take_more h, List.map_append, List.flatten_append]
  simp
end Go.Proofs.YtegmckpcchhmdaaDoor

/- Numbers of terms and of lists: plain facts; the keys that they are kept by. -/
namespace Go.Proofs.YtegmckpcchhmdaaDoor
open Go Go.RowKit
theorem eq_of_bin {P : Program} {t : TypeId} {x y : Array Value} {w : World} {b : Bool} (h : (binOp .eql t (.agg x) (.agg y)).run P w = .ok (.bool b) w) : (Op.equal t (.agg x) (.agg y)).run P w = .ok b w := by
  simp only [binOp] at h
  simp at h
  cases hr : (Op.equal t (.agg x) (.agg y)).run P w with
  | ok c w' => rw [hr] at h; simp [Result.andThen] at h; rw [h.1, h.2]
  | halt c w' => rw [hr] at h; simp [Result.andThen] at h
def kv1 (k : Int × ByteArray × ByteArray × Int × Int) : Value := .agg #[.int .i64 k.1, .string k.2.1, .string k.2.2.1, .int .i64 k.2.2.2.1, .int .i64 k.2.2.2.2]
def kv2 (k : Int × Int) : Value := .agg #[.int .i64 k.1, .int .i64 k.2]
def kv3 (k : Nat × Nat × Int) : Value := .agg #[.pointer (some ⟨k.1, k.2.1, none⟩), .int .i64 k.2.2]
set_option maxRecDepth 100000 in
set_option maxHeartbeats 4000000 in
theorem eqLong (w : World) (a d a' d' : Int) : (Op.equal 192 (.agg #[.int .i64 a, .int .i64 d]) (.agg #[.int .i64 a', .int .i64 d'])).run Tryd.prog w = .ok (a == a' && d == d') w := by
  apply eq_of_bin
  cases h1 : a == a' <;> cases h2 : d == d' <;> go_simp <;> simp_all
set_option maxRecDepth 100000 in
set_option maxHeartbeats 4000000 in
theorem eqMade (w : World) (b1 b2 b1' b2' : ByteArray) (a d e a' d' e' : Int) : (Op.equal 165 (.agg #[.int .i64 a, .string b1, .string b2, .int .i64 d, .int .i64 e]) (.agg #[.int .i64 a', .string b1', .string b2', .int .i64 d', .int .i64 e'])).run Tryd.prog w = .ok (a == a' && (b1.toList == b1'.toList && (b2.toList == b2'.toList && (d == d' && e == e')))) w := by
  apply eq_of_bin
  cases h1 : a == a' <;> cases h2 : b1.toList == b1'.toList <;> cases h3 : b2.toList == b2'.toList <;> cases h4 : d == d' <;> cases h5 : e == e' <;> go_simp <;> simp_all
theorem infTm : ∃ j, Tryd.prog.info? 25 = some j ∧ j.size ≠ 0 := by
  obtain ⟨i0, hi, hz0, hz1, hz2⟩ := inf_of infTerm
  exact ⟨i0, hi, by omega⟩
theorem uPtr : Tryd.prog.underlying 50 = some (.pointer 25) := by kernel_rfl
theorem eqPtr {P : Program} {w : World} {tp te : TypeId} {j : TypeInfo} {a b : Addr} {x : Bool} (hp : P.underlying tp = some (.pointer te)) (hte : P.info? te = some j) (hsz : j.size ≠ 0) (hs : (sameAddr a b).run P w = .ok x w) (d : Nat) : (Op.equalIn (d + 1) tp (.pointer (some a)) (.pointer (some b))).run P w = .ok x w := by
  simp [Op.equalIn, run_underlying hp, sizeOf, typeInfo, hte, hsz, hs]
set_option maxRecDepth 100000 in
set_option maxHeartbeats 4000000 in
theorem eqKey (w : World) (a a' : Addr) (n n' : Int) (x : Bool) (hs : (sameAddr a a').run Tryd.prog w = .ok x w) : (Op.equal 184 (.agg #[.pointer (some a), .int .i64 n]) (.agg #[.pointer (some a'), .int .i64 n'])).run Tryd.prog w = .ok (x && n == n') w := by
  obtain ⟨j, hj, hsz⟩ := infTm
  have hp : (Op.equalIn 9999 50 (.pointer (some a)) (.pointer (some a'))).run Tryd.prog w = .ok x w := eqPtr uPtr hj hsz hs 9998
  apply eq_of_bin
  cases x <;> cases h2 : n == n' <;> go_simp <;> simp_all
theorem keq1 (w : World) (a b : Int × ByteArray × ByteArray × Int × Int) : KEq Tryd.prog 165 kv1 w a b := by
  obtain ⟨a1, a2, a3, a4, a5⟩ := a
  obtain ⟨b1, b2, b3, b4, b5⟩ := b
  unfold KEq kv1
  rw [eqMade]
  have e : (a1 == b1 && (a2.toList == b2.toList && (a3.toList == b3.toList && (a4 == b4 && a5 == b5)))) = decide ((a1, a2, a3, a4, a5) = (b1, b2, b3, b4, b5)) := by
    rw [Bool.eq_iff_iff, decide_eq_true_iff]
    simp only [Bool.and_eq_true, beq_iff_eq, Prod.mk.injEq, ByteArray.toList_eq]
    constructor
    · rintro ⟨h1, h2, h3, h4, h5⟩
      exact ⟨h1, by cases a2; cases b2; simpa using h2, by cases a3; cases b3; simpa using h3, h4, h5⟩
    · rintro ⟨h1, h2, h3, h4, h5⟩
      exact ⟨h1, by rw [h2], by rw [h3], h4, h5⟩
  rw [e]
theorem keq2 (w : World) (a b : Int × Int) : KEq Tryd.prog 192 kv2 w a b := by
  obtain ⟨a1, a2⟩ := a
  obtain ⟨b1, b2⟩ := b
  unfold KEq kv2
  rw [eqLong]
  have e : (a1 == b1 && a2 == b2) = decide ((a1, a2) = (b1, b2)) := by
    rw [Bool.eq_iff_iff, decide_eq_true_iff]
    simp
  rw [e]
theorem keq3 {w : World} {a b : Nat × Nat × Int} (ha : Clear w a.1) (hb : Clear w b.1) : KEq Tryd.prog 184 kv3 w a b := by
  obtain ⟨a1, a2, a3⟩ := a
  obtain ⟨b1, b2, b3⟩ := b
  unfold KEq kv3
  by_cases h : a1 = b1 ∧ a2 = b2
  · obtain ⟨rfl, rfl⟩ := h
    rw [eqKey w _ _ a3 b3 true (run_sameAddr_same w _)]
    have e : (true && a3 == b3) = decide ((a1, a2, a3) = (a1, a2, b3)) := by
      rw [Bool.eq_iff_iff, decide_eq_true_iff]
      simp
    rw [e]
  · obtain ⟨ca, ta, h1⟩ := ha
    obtain ⟨cb, tb, h2⟩ := hb
    rw [eqKey w _ _ a3 b3 false (run_sameAddr_other w (by intro e; injection e with e1 e2; exact h ⟨e1, e2⟩) h1 h2)]
    have e : (false && a3 == b3) = decide ((a1, a2, a3) = (b1, b2, b3)) := by
      rw [Bool.eq_iff_iff, decide_eq_true_iff]
      simp
      intro e1 e2
      exact absurd ⟨e1, e2⟩ h
    rw [e]
end Go.Proofs.YtegmckpcchhmdaaDoor

/- Numbers of terms and of lists: plain facts; the keys that they are kept by. -/
namespace Go.Proofs.YtegmckpcchhmdaaDoor
open Go Go.RowKit
theorem struct_of {o : Option TypeDesc} (h : (match o with | some (.struct _) => true | _ => false) = true) : ∃ fs, o = some (.struct fs) := by
  split at h
  · exact ⟨_, rfl⟩
  · cases h
set_option maxRecDepth 100000 in
set_option maxHeartbeats 4000000 in
theorem ckMade (n : Nat) (w : World) (em : Bool) (b1 b2 : ByteArray) (a d e : Int) : (Instr.checkKey em (n + 3) 165 (.agg #[.int .i64 a, .string b1, .string b2, .int .i64 d, .int .i64 e])).run Tryd.prog w = .ok () w := by
  simp [Instr.checkKey]
  go_simp
set_option maxRecDepth 100000 in
set_option maxHeartbeats 4000000 in
theorem ckLong (n : Nat) (w : World) (em : Bool) (a d : Int) : (Instr.checkKey em (n + 2) 192 (.agg #[.int .i64 a, .int .i64 d])).run Tryd.prog w = .ok () w := rfl
set_option maxRecDepth 100000 in
set_option maxHeartbeats 4000000 in
theorem ckKey (n : Nat) (w : World) (em : Bool) (a : Addr) (d : Int) : (Instr.checkKey em (n + 2) 184 (.agg #[.pointer (some a), .int .i64 d])).run Tryd.prog w = .ok () w := rfl
theorem kok1 : ∃ ds, KOk Tryd.prog 165 kv1 ds := by
  obtain ⟨fs, hfs⟩ : ∃ fs, Tryd.prog.underlying 165 = some (.struct fs) := struct_of (by kernel_rfl)
  refine ⟨.struct fs, hfs, fun a b => rfl, fun w em k => ckMade 9997 w em _ _ _ _ _, fun k => ?_⟩
  simp [kv1, Instr.sameBits, (MapKept.bytes_beq k.2.1 k.2.1).2 rfl, (MapKept.bytes_beq k.2.2.1 k.2.2.1).2 rfl]
theorem kok2 : ∃ ds, KOk Tryd.prog 192 kv2 ds := by
  obtain ⟨fs, hfs⟩ : ∃ fs, Tryd.prog.underlying 192 = some (.struct fs) := struct_of (by kernel_rfl)
  refine ⟨.struct fs, hfs, fun a b => rfl, fun w em k => ckLong 9998 w em _ _, fun k => ?_⟩
  simp [kv2, Instr.sameBits]
theorem kok3 : ∃ ds, KOk Tryd.prog 184 kv3 ds := by
  obtain ⟨fs, hfs⟩ : ∃ fs, Tryd.prog.underlying 184 = some (.struct fs) := struct_of (by kernel_rfl)
  refine ⟨.struct fs, hfs, fun a b => rfl, fun w em k => ckKey 9998 w em _ _, fun k => ?_⟩
  simp [kv3, Instr.sameBits]
end Go.Proofs.YtegmckpcchhmdaaDoor

/- Numbers of terms and of lists. -/
namespace Go.Proofs.YtegmckpcchhmdaaDoor
open Go Go.RowKit
/-- A list's number: the empty one is 0. -/
def isL (LL : List (List Tm)) (l : List Tm) (j : Nat) : Prop := (j = 0 ∧ l = []) ∨ ∃ k, j = k + 1 ∧ LL[k]? = some l
theorem isL.fn {LL : List (List Tm)} {l l' : List Tm} {j : Nat} (h : isL LL l j) (h' : isL LL l' j) : l = l' := by
  rcases h with ⟨rfl, rfl⟩ | ⟨k, rfl, hk⟩
  · rcases h' with ⟨_, rfl⟩ | ⟨k, e, _⟩
    · rfl
    · omega
  · rcases h' with ⟨e, _⟩ | ⟨k', e, hk'⟩
    · omega
    · obtain rfl : k = k' := by omega
      rw [hk] at hk'
      exact Option.some.inj hk'
theorem pre_get {α : Type} {l m : List α} (h : l <+: m) {i : Nat} {x : α} (hx : l[i]? = some x) : m[i]? = some x := by
  obtain ⟨r, rfl⟩ := h
  rw [List.getElem?_append_left (List.getElem?_eq_some_iff.1 hx).1]
  exact hx
theorem isL.mono {LL LL' : List (List Tm)} {l : List Tm} {j : Nat} (h : isL LL l j) (hp : LL <+: LL') : isL LL' l j := by
  rcases h with h | ⟨k, e, hk⟩
  · exact .inl h
  · exact .inr ⟨k, e, pre_get hp hk⟩
theorem lookG_none {κ : Type} [DecidableEq κ] {k : κ} : ∀ {es : List (κ × Value)}, (∀ p ∈ es, p.1 ≠ k) → lookG k es = none
  | [], _ => rfl
  | p :: l, h => by
    rw [lookG, if_neg (fun e => h p List.mem_cons_self e.symm)]
    exact lookG_none fun q hq => h q (List.mem_cons_of_mem _ hq)
theorem lookG_some {κ : Type} [DecidableEq κ] {k : κ} {v : Value} : ∀ {es : List (κ × Value)}, (k, v) ∈ es → (∀ p ∈ es, p.1 = k → p.2 = v) → lookG k es = some v
  | [], h, _ => absurd h List.not_mem_nil
  | p :: l, h, hu => by
    by_cases e : k = p.1
    · rw [lookG, if_pos e, hu p List.mem_cons_self e.symm]
    · rw [lookG, if_neg e]
      refine lookG_some ?_ fun q hq => hu q (List.mem_cons_of_mem _ hq)
      rcases List.mem_cons.1 h with h | h
      · exact absurd (congrArg Prod.fst h) e
      · exact h
theorem lookG_mem {κ : Type} [DecidableEq κ] {k : κ} {v : Value} : ∀ {es : List (κ × Value)}, lookG k es = some v → (k, v) ∈ es
  | [], h => by cases h
  | p :: l, h => by
    unfold lookG at h
    split at h
    · rename_i e
      injection h with h
      rw [← h, e]
      exact List.mem_cons_self
    · exact List.mem_cons_of_mem _ (lookG_mem h)
/-- What the terms and the lists that have numbers are kept by. -/
structure CI (TT : List Tm) (LL : List (List Tm)) (e1 : List ((Int × ByteArray × ByteArray × Int × Int) × Value)) (e2 : List ((Int × Int) × Value)) : Prop where
  bg : ∀ t ∈ TT, BG t
  t1 : e1.length = TT.length
  t2 : ∀ (i : Nat) t, TT[i]? = some t → ∃ j : Nat, isL LL t.l j ∧ e1[i]? = some ((t.op, t.name, t.num, t.sort, (j : Int)), .int .i64 (i : Int))
  tn : ∀ (i i' : Nat) t, TT[i]? = some t → TT[i']? = some t → i = i'
  l1 : e2.length = LL.length
  l2 : ∀ (k : Nat) l, LL[k]? = some l → ∃ (l0 : List Tm) (x : Tm) (j i : Nat), l = l0 ++ [x] ∧ isL LL l0 j ∧ TT[i]? = some x ∧ e2[k]? = some (((j : Int), (i : Int)), .int .i64 ((k : Int) + 1))
  ln : ∀ (k k' : Nat) l, LL[k]? = some l → LL[k']? = some l → k = k'
section
variable {TT : List Tm} {LL : List (List Tm)} {e1 : List ((Int × ByteArray × ByteArray × Int × Int) × Value)} {e2 : List ((Int × Int) × Value)}
theorem CI.new : CI [] [] [] [] := ⟨fun t h => absurd h List.not_mem_nil, rfl, fun i t h => by simp at h, fun i i' t h => by simp at h, rfl, fun k l h => by simp at h, fun k k' l h => by simp at h⟩
theorem CI.inj (h : CI TT LL e1 e2) {l : List Tm} {j j' : Nat} (a : isL LL l j) (b : isL LL l j') : j = j' := by
  rcases a with ⟨rfl, rfl⟩ | ⟨k, rfl, hk⟩
  · rcases b with ⟨rfl, _⟩ | ⟨k, rfl, hk⟩
    · rfl
    · obtain ⟨l0, x, _, _, e, _⟩ := h.l2 k _ hk
      simp at e
  · rcases b with ⟨rfl, rfl⟩ | ⟨k', rfl, hk'⟩
    · obtain ⟨l0, x, _, _, e, _⟩ := h.l2 k _ hk
      simp at e
    · rw [h.ln k k' l hk hk']
/-- A term is asked for. -/
theorem CI.look1 (h : CI TT LL e1 e2) {x : Tm} {j : Nat} (hx : BG x) (hj : isL LL x.l j) : (∃ i : Nat, TT[i]? = some x ∧ lookG (x.op, x.name, x.num, x.sort, (j : Int)) e1 = some (.int .i64 (i : Int))) ∨ (x ∉ TT ∧ lookG (x.op, x.name, x.num, x.sort, (j : Int)) e1 = none) := by
  have hkey : ∀ p ∈ e1, p.1 = (x.op, x.name, x.num, x.sort, (j : Int)) → ∃ i : Nat, TT[i]? = some x ∧ p.2 = .int .i64 (i : Int) := fun p hp e => by
    obtain ⟨i, hi, rfl⟩ := List.getElem_of_mem hp
    have hit : i < TT.length := by rw [← h.t1]; exact hi
    obtain ⟨j', hj', e2⟩ := h.t2 i _ (List.getElem?_eq_getElem hit)
    rw [List.getElem?_eq_getElem hi] at e2
    injection e2 with e2
    rw [e2] at e ⊢
    simp only [Prod.mk.injEq] at e
    obtain ⟨h1, h2, h3, h4, h5⟩ := e
    have h6 : j' = j := by omega
    subst h6
    have h7 := hj'.fn hj
    obtain ⟨_, _, _, _, _, h8, h9, _⟩ := (h.bg _ (List.getElem_mem hit)).parts
    obtain ⟨_, _, _, _, _, h10, h11, _⟩ := hx.parts
    refine ⟨i, ?_, rfl⟩
    rw [List.getElem?_eq_getElem hit]
    generalize TT[i] = y at *
    cases x
    cases y
    simp only at *
    subst h1 h2 h3 h4 h7 h8 h9 h10 h11
    rfl
  by_cases hm : ∃ i : Nat, TT[i]? = some x
  · obtain ⟨i, hi⟩ := hm
    obtain ⟨j', hj', e⟩ := h.t2 i x hi
    rw [h.inj hj' hj] at e
    refine .inl ⟨i, hi, lookG_some (List.mem_of_getElem? e) fun p hp e' => ?_⟩
    obtain ⟨i', hi', e3⟩ := hkey p hp e'
    rw [e3, h.tn i i' x hi hi']
  · refine .inr ⟨fun hx' => hm ?_, lookG_none fun p hp e => ?_⟩
    · obtain ⟨i, hi, rfl⟩ := List.getElem_of_mem hx'
      exact ⟨i, List.getElem?_eq_getElem hi⟩
    · obtain ⟨i, hi, _⟩ := hkey p hp e
      exact hm ⟨i, hi⟩
/-- A list and one more term are asked for. -/
theorem CI.look2 (h : CI TT LL e1 e2) {l : List Tm} {x : Tm} {j i : Nat} (hj : isL LL l j) (hi : TT[i]? = some x) : (∃ k : Nat, LL[k]? = some (l ++ [x]) ∧ lookG ((j : Int), (i : Int)) e2 = some (.int .i64 ((k : Int) + 1))) ∨ ((∀ k : Nat, LL[k]? ≠ some (l ++ [x])) ∧ lookG ((j : Int), (i : Int)) e2 = none) := by
  have hkey : ∀ p ∈ e2, p.1 = ((j : Int), (i : Int)) → ∃ k : Nat, LL[k]? = some (l ++ [x]) ∧ p.2 = .int .i64 ((k : Int) + 1) := fun p hp e => by
    obtain ⟨k, hk, rfl⟩ := List.getElem_of_mem hp
    have hkt : k < LL.length := by rw [← h.l1]; exact hk
    obtain ⟨l0, y, j', i', e1', hj', hi', e3⟩ := h.l2 k _ (List.getElem?_eq_getElem hkt)
    rw [List.getElem?_eq_getElem hk] at e3
    injection e3 with e3
    rw [e3] at e ⊢
    simp only [Prod.mk.injEq] at e
    obtain rfl : j' = j := by omega
    obtain rfl : i' = i := by omega
    rw [hi] at hi'
    injection hi' with hi'
    refine ⟨k, ?_, rfl⟩
    rw [List.getElem?_eq_getElem hkt, e1', hj'.fn hj, hi']
  by_cases hm : ∃ k : Nat, LL[k]? = some (l ++ [x])
  · obtain ⟨k, hk⟩ := hm
    obtain ⟨l0, y, j', i', e1', hj', hi', e3⟩ := h.l2 k _ hk
    obtain ⟨rfl, e4⟩ := List.append_inj' e1' rfl
    injection e4 with e4 _
    subst e4
    rw [h.inj hj' hj, h.tn i' i _ hi' hi] at e3
    refine .inl ⟨k, hk, lookG_some (List.mem_of_getElem? e3) fun p hp e' => ?_⟩
    obtain ⟨k', hk', e5⟩ := hkey p hp e'
    rw [e5, h.ln k k' _ hk hk']
  · refine .inr ⟨fun k hk => hm ⟨k, hk⟩, lookG_none fun p hp e => ?_⟩
    obtain ⟨k, hk, _⟩ := hkey p hp e
    exact hm ⟨k, hk⟩
theorem get_snoc {α : Type} {l : List α} {x y : α} {i : Nat} (h : (l ++ [x])[i]? = some y) : l[i]? = some y ∨ (i = l.length ∧ y = x) := by
  rcases Nat.lt_trichotomy i l.length with hi | hi | hi
  · rw [List.getElem?_append_left hi] at h
    exact .inl h
  · subst hi
    simp at h
    exact .inr ⟨rfl, h.symm⟩
  · rw [List.getElem?_eq_none (by simp; omega)] at h
    cases h
theorem get_last {α : Type} (l : List α) (x : α) : (l ++ [x])[l.length]? = some x := by simp
/-- A term more. -/
theorem CI.add1 (h : CI TT LL e1 e2) {x : Tm} {j : Nat} (hx : BG x) (hj : isL LL x.l j) (hn : x ∉ TT) : CI (TT ++ [x]) LL (e1 ++ [((x.op, x.name, x.num, x.sort, (j : Int)), .int .i64 (TT.length : Int))]) e2 := by
  refine ⟨fun t ht => ?_, by simp [h.t1], fun i t ht => ?_, fun i i' t ht ht' => ?_, h.l1, fun k l hk => ?_, h.ln⟩
  · rcases List.mem_append.1 ht with ht | ht
    · exact h.bg t ht
    · rw [List.mem_singleton.1 ht]; exact hx
  · rcases get_snoc ht with ht | ⟨rfl, rfl⟩
    · obtain ⟨j', h1, h2⟩ := h.t2 i t ht
      exact ⟨j', h1, pre_get (List.prefix_append _ _) h2⟩
    · exact ⟨j, hj, by rw [← h.t1]; exact get_last _ _⟩
  · rcases get_snoc ht with g | ⟨g, e⟩
    · rcases get_snoc ht' with g' | ⟨g', e'⟩
      · exact h.tn i i' t g g'
      · rw [e'] at g
        exact absurd (List.mem_of_getElem? g) hn
    · rcases get_snoc ht' with g' | ⟨g', e'⟩
      · rw [e] at g'
        exact absurd (List.mem_of_getElem? g') hn
      · rw [g, g']
  · obtain ⟨l0, y, j', i', a1, a2, a3, a4⟩ := h.l2 k l hk
    exact ⟨l0, y, j', i', a1, a2, pre_get (List.prefix_append _ _) a3, a4⟩
/-- A list more. -/
theorem CI.add2 (h : CI TT LL e1 e2) {l : List Tm} {x : Tm} {j i : Nat} (hj : isL LL l j) (hi : TT[i]? = some x) (hn : ∀ k : Nat, LL[k]? ≠ some (l ++ [x])) : CI TT (LL ++ [l ++ [x]]) e1 (e2 ++ [(((j : Int), (i : Int)), .int .i64 ((LL.length : Int) + 1))]) := by
  have hp : LL <+: LL ++ [l ++ [x]] := List.prefix_append _ _
  refine ⟨h.bg, h.t1, fun i t ht => ?_, h.tn, by simp [h.l1], fun k m hm => ?_, fun k k' m hm hm' => ?_⟩
  · obtain ⟨j', h1, h2⟩ := h.t2 i t ht
    exact ⟨j', h1.mono hp, h2⟩
  · rcases get_snoc hm with hm | ⟨rfl, rfl⟩
    · obtain ⟨l0, y, j', i', a1, a2, a3, a4⟩ := h.l2 k m hm
      exact ⟨l0, y, j', i', a1, a2.mono hp, a3, pre_get (List.prefix_append _ _) a4⟩
    · exact ⟨l, x, j, i, rfl, hj.mono hp, hi, by rw [← h.l1]; exact get_last _ _⟩
  · rcases get_snoc hm with g | ⟨g, e⟩
    · rcases get_snoc hm' with g' | ⟨g', e'⟩
      · exact h.ln k k' m g g'
      · rw [e'] at g
        exact absurd g (hn k)
    · rcases get_snoc hm' with g' | ⟨g', e'⟩
      · rw [e] at g'
        exact absurd g' (hn k')
      · rw [g, g']
end
/-- What is told of a term, of a list. -/
def NumT (TT : List Tm) (t : Tm) (x : Int) : Prop := (t.ground = true ∧ ∃ i : Nat, x = i ∧ TT[i]? = some t.inst0) ∨ (t.ground = false ∧ x = -1)
def NumL (LL : List (List Tm)) (l : List Tm) (x : Int) : Prop := (l.all Tm.ground = true ∧ ∃ j : Nat, x = j ∧ isL LL (l.map Tm.inst0) j) ∨ (l.all Tm.ground = false ∧ x = -1)
theorem NumL.mono {LL LL' : List (List Tm)} {l : List Tm} {x : Int} (h : NumL LL l x) (hp : LL <+: LL') : NumL LL' l x := by
  rcases h with ⟨h1, j, h2, h3⟩ | h
  · exact .inl ⟨h1, j, h2, h3.mono hp⟩
  · exact .inr h
end Go.Proofs.YtegmckpcchhmdaaDoor

namespace Go.Proofs.YtegmckpcchhmdaaDoor
open Go Go.RowKit
def ptrs (ps : List (Nat × Nat)) : List Value := ps.map fun p => .pointer (some ⟨p.1, p.2, none⟩)
/-- Lists whose numbers are known, by where they lie. -/
def KN (w : World) (B D : Nat) (TT : List Tm) (LL : List (List Tm)) (e3 : List ((Nat × Nat × Int) × Value)) : Prop := ∀ p ∈ e3, ∃ l : List Tm, p.1.2.2 = (l.length : Int) ∧ l ≠ [] ∧ p.1.1 < B ∧ Clear w p.1.1 ∧ (∀ (j : Nat) u, l[j]? = some u → TmAt w B D p.1.1 (p.1.2.1 + j * 7) u) ∧ (∃ x, p.2 = .int .i64 x ∧ NumL LL l x) ∧ ∀ y ∈ gsL l, y ∈ TT
def AR (w : World) (B D : Nat) (ps : List (Nat × Nat)) (ts : List Tm) : Prop := ps.length = ts.length ∧ ∀ (k : Nat) p t, ps[k]? = some p → ts[k]? = some t → ∃ u, TmAt w B D p.1 p.2 u ∧ u.inst0 = t ∧ u.wt ≤ 400000
def isApp (t : Tm) : Bool := t.op == 17
/-- The collector. -/
structure CO (w : World) (B D rc m1 m2 m3 : Nat) (av : Value) (e1 : List ((Int × ByteArray × ByteArray × Int × Int) × Value)) (e2 : List ((Int × Int) × Value)) (e3 : List ((Nat × Nat × Int) × Value)) (ps : List (Nat × Nat)) (AA TT : List Tm) (LL : List (List Tm)) : Prop where
  cc : w.heap[rc]? = some (.cells #[.map (some m1), .map (some m2), .map (some m3), av, .bool false] 130)
  br : B ≤ rc
  b1 : B ≤ m1
  b2 : B ≤ m2
  b3 : B ≤ m3
  n12 : m1 ≠ m2
  n13 : m1 ≠ m3
  n23 : m2 ≠ m3
  g1 : GM kv1 w m1 e1
  g2 : GM kv2 w m2 e2
  g3 : GM kv3 w m3 e3
  ci : CI TT LL e1 e2
  kn : KN w B D TT LL e3
  ow : w.ownsRow B 50 1 av ps.length (ptrs ps)
  ar : AR w B D ps AA
def COx (w : World) (B D rc : Nat) (TT : List Tm) (LL : List (List Tm)) : Prop := ∃ m1 m2 m3 av e1 e2 e3 ps, CO w B D rc m1 m2 m3 av e1 e2 e3 ps (TT.filter isApp) TT LL
section
variable {w w' : World} {B D rc m1 m2 m3 : Nat} {av : Value} {e1 : List ((Int × ByteArray × ByteArray × Int × Int) × Value)} {e2 : List ((Int × Int) × Value)} {e3 : List ((Nat × Nat × Int) × Value)} {ps : List (Nat × Nat)} {AA TT : List Tm} {LL : List (List Tm)}
theorem KN.below (h : KN w B D TT LL e3) (hb : Below B w w') : KN w' B D TT LL e3 := fun p hp => by
  obtain ⟨l, h1, h2, h3, h4, h5, h6⟩ := h p hp
  exact ⟨l, h1, h2, h3, h4.below h3 hb, fun j u hu => (h5 j u hu).more hb (Nat.le_refl _) (Nat.le_refl _), h6⟩
theorem KN.mono {TT' : List Tm} {LL' : List (List Tm)} (h : KN w B D TT LL e3) (hT : TT <+: TT') (hL : LL <+: LL') : KN w B D TT' LL' e3 := fun p hp => by
  obtain ⟨l, h1, h2, h3, h4, h5, ⟨x, h6, h7⟩, h8⟩ := h p hp
  exact ⟨l, h1, h2, h3, h4, h5, ⟨x, h6, h7.mono hL⟩, fun y hy => hT.subset (h8 y hy)⟩
theorem AR.below {ts : List Tm} (h : AR w B D ps ts) (hb : Below B w w') : AR w' B D ps ts := ⟨h.1, fun k p t hp ht => by
  obtain ⟨u, h1, h2⟩ := h.2 k p t hp ht
  exact ⟨u, h1.more hb (Nat.le_refl _) (Nat.le_refl _), h2⟩⟩
theorem own_kept {v : Value} {n : Nat} {xs : List Value} {ty : TypeId} (h : w.ownsRow B ty 1 v n xs) (hk : ∀ (g : Nat) (cs : Array Value), w.heap[g]? = some (Obj.cells cs ty) → w'.heap[g]? = w.heap[g]?) : w'.ownsRow B ty 1 v n xs := by
  refine ⟨h.1, h.2.imp id ?_⟩
  rintro ⟨g, cap, cur, k1, k2, k3, k4⟩
  exact ⟨g, cap, cur, k1, k2, (hk g cur k3).trans k3, k4⟩
theorem CO.lt (h : CO w B D rc m1 m2 m3 av e1 e2 e3 ps AA TT LL) : rc < w.heap.size := (Array.getElem?_eq_some_iff.1 h.cc).1
theorem CO.bw (h : CO w B D rc m1 m2 m3 av e1 e2 e3 ps AA TT LL) : B ≤ w.heap.size := by have := h.lt; have := h.br; omega
theorem CO.grow (h : CO w B D rc m1 m2 m3 av e1 e2 e3 ps AA TT LL) (hb : Below w.heap.size w w') : CO w' B D rc m1 m2 m3 av e1 e2 e3 ps AA TT LL :=
  ⟨(hb.block _ h.lt).trans h.cc, h.br, h.b1, h.b2, h.b3, h.n12, h.n13, h.n23, h.g1.below hb h.g1.lt, h.g2.below hb h.g2.lt, h.g3.below hb h.g3.lt, h.ci, h.kn.below (hb.mono h.bw), own_kept h.ow (fun g cs e => hb.block g (Array.getElem?_eq_some_iff.1 e).1), h.ar.below (hb.mono h.bw)⟩
theorem GM.noCells {κ : Type} {kv : κ → Value} {r : Nat} {es : List (κ × Value)} (h : GM kv w r es) {g : Nat} {cs : Array Value} {ty : TypeId} (hg : w.heap[g]? = some (.cells cs ty)) : g ≠ r := fun e => by
  obtain ⟨a, c, h1, _⟩ := h
  rw [e, h1] at hg
  cases hg
theorem PutAt.bel {r : Nat} (h : PutAt r w w') (hB : B ≤ r) : Below B w w' := ⟨h.os, h.tape, h.output, by rw [h.size]; exact Nat.le_refl _, fun k hk => h.block k (by omega)⟩
/-- Another number for a list. -/
theorem CO.put2 (h : CO w B D rc m1 m2 m3 av e1 e2 e3 ps AA TT LL) (hp : PutAt m2 w w') {e2' : List ((Int × Int) × Value)} {LL' : List (List Tm)} (hg : GM kv2 w' m2 e2') (hc : CI TT LL' e1 e2') (hL : LL <+: LL') : CO w' B D rc m1 m2 m3 av e1 e2' e3 ps AA TT LL' := by
  have hb : Below B w w' := PutAt.bel hp h.b2
  exact ⟨(hp.block rc (h.g2.noCells h.cc)).trans h.cc, h.br, h.b1, h.b2, h.b3, h.n12, h.n13, h.n23, h.g1.same (hp.block m1 h.n12), hg, h.g3.same (hp.block m3 (Ne.symm h.n23)), hc, (h.kn.below hb).mono (List.prefix_refl _) hL, own_kept h.ow (fun g cs e => hp.block g (h.g2.noCells e)), h.ar.below hb⟩
theorem CO.put3 (h : CO w B D rc m1 m2 m3 av e1 e2 e3 ps AA TT LL) (hp : PutAt m3 w w') {e3' : List ((Nat × Nat × Int) × Value)} (hg : GM kv3 w' m3 e3') (hk : KN w B D TT LL e3') : CO w' B D rc m1 m2 m3 av e1 e2 e3' ps AA TT LL := by
  have hb : Below B w w' := PutAt.bel hp h.b3
  exact ⟨(hp.block rc (h.g3.noCells h.cc)).trans h.cc, h.br, h.b1, h.b2, h.b3, h.n12, h.n13, h.n23, h.g1.same (hp.block m1 h.n13), h.g2.same (hp.block m2 h.n23), hg, h.ci, hk.below hb, own_kept h.ow (fun g cs e => hp.block g (h.g3.noCells e)), h.ar.below hb⟩
end
theorem um1 : Tryd.prog.underlying 126 = some (.map 165 3) := by kernel_rfl
theorem um2 : Tryd.prog.underlying 127 = some (.map 192 3) := by kernel_rfl
theorem um3 : Tryd.prog.underlying 128 = some (.map 184 3) := by kernel_rfl
set_option maxRecDepth 100000 in
theorem zI (w : World) : (zeroValue 3).run Tryd.prog w = .ok (.int .i64 0) w := by go_simp
/-- What join answers. -/
def JPost (B D rc : Nat) (TT : List Tm) (LL : List (List Tm)) (l : List Tm) (w : World) (e : Ending) (w' : World) : Prop := ∃ LL' j, e = .returned (.int .i64 ((j : Nat) : Int)) ∧ COx w' B D rc TT LL' ∧ LL <+: LL' ∧ LL'.length ≤ LL.length + 1 ∧ isL LL' l j ∧ Below B w w'
set_option maxRecDepth 1000000 in
set_option maxHeartbeats 16000000 in
theorem join_no {rc : Nat} {w : World} {a b : Int} (h : a = -1 ∨ b = -1) : Calls Tryd.prog 78 #[.pointer (some ⟨rc, 0, none⟩), .int .i64 a, .int .i64 b] w (fun e w' => e = .returned (.int .i64 (-1)) ∧ w' = w) := by
  by_cases ha : a = -1
  · subst ha
    clear h
    go_enter Tryd.func78, Tryd.ntmps78
    go_wp2
    go_ret
    exact ⟨rfl, rfl⟩
  · obtain rfl : b = -1 := by omega
    have h1 : (a == -1) = false := by simp [ha]
    clear h ha
    go_enter Tryd.func78, Tryd.ntmps78
    go_wp2
    go_ret
    exact ⟨rfl, rfl⟩
set_option maxRecDepth 1000000 in
set_option maxHeartbeats 16000000 in
theorem join_any {w : World} {B D rc : Nat} {TT : List Tm} {LL : List (List Tm)} {l : List Tm} {x : Tm} {j i : Nat} (h : COx w B D rc TT LL) (hj : isL LL l j) (hi : TT[i]? = some x) (hL : LL.length ≤ 1000000) : Calls Tryd.prog 78 #[.pointer (some ⟨rc, 0, none⟩), .int .i64 (j : Int), .int .i64 (i : Int)] w (JPost B D rc TT LL (l ++ [x]) w) := by
  obtain ⟨m1, m2, m3, av, e1, e2, e3, ps, h⟩ := h
  obtain ⟨ds, K⟩ := kok2
  have d1 : ((j : Int) == -1) = false := by simp
  have d2 : ((i : Int) == -1) = false := by simp
  obtain ⟨V, eV, hbV, hsV, hcV, hhV⟩ := box_new w #[.int .i64 (j : Int), .int .i64 (i : Int)] 192
  have hV := h.grow hbV
  have hlen : e2.length = LL.length := hV.ci.l1
  have hqlt : w.heap.size < V.heap.size := by omega
  have HSS : Hid (∀ w', Below V.heap.size V w' → (w'.cell? ⟨rc, 1, none⟩ = some (.map (some m2)) ∧ w'.cell? ⟨w.heap.size, 0, none⟩ = some (.int .i64 (j : Int)) ∧ w'.cell? ⟨w.heap.size, 1, none⟩ = some (.int .i64 (i : Int)) ∧ (Instr.lookup 127 (.map (some m2)) (.agg #[.int .i64 (j : Int), .int .i64 (i : Int)]) true).run Tryd.prog w' = .ok (.tuple #[(lookG ((j : Int), (i : Int)) e2).getD (.int .i64 0), .bool (lookG ((j : Int), (i : Int)) e2).isSome]) w')) := fun w' hb => by
    have h' := hV.grow hb
    have hq' := (hb.block _ hqlt).trans hhV
    exact ⟨(blk h'.cc).2.1 1 _ rfl, (blk hq').2.1 0 _ rfl, (blk hq').2.1 1 _ rfl, gm_lookup K (k := ((j : Int), (i : Int))) um2 (zI w') h'.g2 (fun p _ => keq2 w' _ _)⟩
  obtain ⟨s0, s1, s2, s3⟩ := unhide HSS V (Below.refl _ V)
  rcases hV.ci.look2 hj hi with ⟨k, hk, hlk⟩ | ⟨hno, hlk⟩
  · rw [hlk] at HSS s3
    simp only [Option.getD_some, Option.isSome_some] at HSS s3
    have HF := hide (And.intro hV (And.intro hk hbV))
    have hB := h.bw
    clear h hV hbV hsV hcV hhV hlen hqlt hlk hk hj hi hL K
    go_enter Tryd.func78, Tryd.ntmps78
    go_wp2
    clear eV
    go_region_held3 (fun w' => w'.cell? ⟨rc, 1, none⟩ = some (.map (some m2)) ∧ w'.cell? ⟨w.heap.size, 0, none⟩ = some (.int .i64 (j : Int)) ∧ w'.cell? ⟨w.heap.size, 1, none⟩ = some (.int .i64 (i : Int)) ∧ (Instr.lookup 127 (.map (some m2)) (.agg #[.int .i64 (j : Int), .int .i64 (i : Int)]) true).run Tryd.prog w' = .ok (.tuple #[.int .i64 ((k : Int) + 1), .bool true]) w') (first | assumption | exact unhide HSS _ (keep0 _)) (fail)
    go_wp2
    go_ret
    obtain ⟨hV, hk, hbV⟩ := unhide HF
    refine ⟨LL, k + 1, by simp, ⟨m1, m2, m3, av, e1, e2, e3, ps, hV.grow (keep0 V)⟩, List.prefix_refl _, by omega, .inr ⟨k, rfl, hk⟩, (hbV.mono hB).trans ((keep0 V).mono (by have := hbV.size; omega))⟩
  · rw [hlk] at HSS s3
    simp only [Option.getD_none, Option.isSome_none] at HSS s3
    have hB := h.bw
    have hVd := hV.grow (keep0 V)
    have hVdd := hVd.grow (keep0 V.drew)
    have hqd : V.drew.heap[w.heap.size]? = _ := hhV
    have hqdd : V.drew.drew.heap[w.heap.size]? = _ := hhV
    obtain ⟨W9, hrun, hput, hg9⟩ := gm_update (P := Tryd.prog) K (k := ((j : Int), (i : Int))) (v := .int .i64 ((LL.length : Int) + 1)) um2 hVdd.g2 (fun p _ => keq2 V.drew.drew _ _)
    rw [putG_new _ _ _ hlk] at hg9
    have h9 := hVdd.put2 hput hg9 (hVdd.ci.add2 hj hi hno) (List.prefix_append _ _)
    have hx9 := (hput.block w.heap.size (hVdd.g2.noCells hqdd)).trans hqdd
    have hln : (Builtin.len_ #[127] 3 #[.map (some m2)]).run Tryd.prog V.drew = .ok (.int .i64 (LL.length : Int)) V.drew := by rw [← hlen]; exact gm_len um2 hVd.g2
    have HS9 : Hid (W9.cell? ⟨rc, 1, none⟩ = some (.map (some m2)) ∧ W9.cell? ⟨w.heap.size, 0, none⟩ = some (.int .i64 (j : Int)) ∧ W9.cell? ⟨w.heap.size, 1, none⟩ = some (.int .i64 (i : Int))) := ⟨(blk h9.cc).2.1 1 _ rfl, (blk hx9).2.1 0 _ rfl, (blk hx9).2.1 1 _ rfl⟩
    have HSC : Hid (V.drew.drew.cell? ⟨rc, 1, none⟩ = some (.map (some m2)) ∧ V.drew.drew.cell? ⟨w.heap.size, 0, none⟩ = some (.int .i64 (j : Int)) ∧ V.drew.drew.cell? ⟨w.heap.size, 1, none⟩ = some (.int .i64 (i : Int))) := ⟨(blk hVdd.cc).2.1 1 _ rfl, (blk hqdd).2.1 0 _ rfl, (blk hqdd).2.1 1 _ rfl⟩
    have g0 : V.drew.cell? ⟨rc, 1, none⟩ = some (.map (some m2)) := (blk hVd.cc).2.1 1 _ rfl
    have g1 : V.drew.cell? ⟨w.heap.size, 0, none⟩ = some (.int .i64 (j : Int)) := (blk hqd).2.1 0 _ rfl
    have g2 : V.drew.cell? ⟨w.heap.size, 1, none⟩ = some (.int .i64 (i : Int)) := (blk hqd).2.1 1 _ rfl
    have HF := hide (And.intro h9 (And.intro ((hbV.mono hB).trans ((((keep0 V).mono (by have := hbV.size; omega)).trans ((keep0 V.drew).mono (by have := hbV.size; have := (keep0 V).size; omega))).trans (PutAt.bel hput h.b2))) hL))
    obtain ⟨n, hn⟩ : ∃ n, LL.length = n := ⟨_, rfl⟩
    have HN := hide hn
    have hnn : (n : Int) ≤ 1000000 := by omega
    rw [hn] at hln hrun
    simp only [kv2] at hrun
    clear h hV hbV hsV hcV hhV hlen hqlt hlk hj hi hL K hno hVd hVdd hqd hqdd hput hg9 h9 hx9 hn
    go_enter Tryd.func78, Tryd.ntmps78
    go_wp2
    clear eV
    go_region_held3 (fun w' => w'.cell? ⟨rc, 1, none⟩ = some (.map (some m2)) ∧ w'.cell? ⟨w.heap.size, 0, none⟩ = some (.int .i64 (j : Int)) ∧ w'.cell? ⟨w.heap.size, 1, none⟩ = some (.int .i64 (i : Int)) ∧ (Instr.lookup 127 (.map (some m2)) (.agg #[.int .i64 (j : Int), .int .i64 (i : Int)]) true).run Tryd.prog w' = .ok (.tuple #[.int .i64 0, .bool false]) w') (first | assumption | exact unhide HSS _ (keep0 _)) (fail)
    clear s0 s1 s2 s3
    go_wp2
    go_region_held3 (fun w' => w'.cell? ⟨rc, 1, none⟩ = some (.map (some m2)) ∧ w'.cell? ⟨w.heap.size, 0, none⟩ = some (.int .i64 (j : Int)) ∧ w'.cell? ⟨w.heap.size, 1, none⟩ = some (.int .i64 (i : Int))) (first | assumption | exact (unhide HS9) | exact (unhide HSC)) (fail)
    go_wp2
    go_ret
    obtain ⟨h9, hb9, hL⟩ := unhide HF
    exact ⟨_, n + 1, by simp, ⟨m1, m2, m3, av, e1, _, e3, ps, h9⟩, List.prefix_append _ _, by simp, .inr ⟨n, rfl, by rw [← unhide HN]; exact get_last _ _⟩, hb9⟩
end Go.Proofs.YtegmckpcchhmdaaDoor
