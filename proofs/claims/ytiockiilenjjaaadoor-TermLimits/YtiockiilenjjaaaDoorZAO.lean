/- Copies: a node that is replaced. -/
import Derived.Test.YtiockiilenjjaaaDoorZAN
import Derived.Lib.SliceRun
import Derived.Lib.Walk
set_option linter.unusedVariables false
set_option linter.unusedSimpArgs false

/- Copies: a label's term. -/
namespace Go.Proofs.YtiockiilenjjaaaDoor
open Go Go.RowKit
set_option maxRecDepth 100000 in
set_option maxHeartbeats 16000000 in
theorem bare_any (op so : Int) (nm nu : ByteArray) (w : World) : Calls Tryd.prog 96 #[.agg #[.int .i64 op, .string nm, .string nu, .int .i64 so]] w (VPost (.agg #[.int .i64 op, .string nm, .int .i64 so, .string nu, .slice none 0 0, .slice none 0 0, .slice none 0 0]) w) := by
  obtain ⟨V, eV, hbV, hsV, hcV, hhV⟩ := box_new w #[.int .i64 op, .string nm, .string nu, .int .i64 so] 140
  have v0 : V.cell? ⟨w.heap.size, 0, none⟩ = some (.int .i64 op) := hcV 0 _ rfl
  have v1 : V.cell? ⟨w.heap.size, 1, none⟩ = some (.string nm) := hcV 1 _ rfl
  have v2 : V.cell? ⟨w.heap.size, 2, none⟩ = some (.string nu) := hcV 2 _ rfl
  have v3 : V.cell? ⟨w.heap.size, 3, none⟩ = some (.int .i64 so) := hcV 3 _ rfl
  have hlt : w.heap.size < V.heap.size := by omega
  have HW := hide hbV
  clear hbV hsV hcV hhV
  go_enter Tryd.func96, Tryd.ntmps96
  go_wp2
  refine ⟨rfl, _, res_row (cs := [.int .i64 op, .string nm, .int .i64 so, .string nu, .slice none 0 0, .slice none 0 0, .slice none 0 0]) rfl rfl (range_new V _ _) rfl rfl rfl, rfl, ?_⟩
  exact (unhide HW).alloc (unhide HW).size _
end Go.Proofs.YtiockiilenjjaaaDoor

/- Copies: a list of bound variables. -/
namespace Go.Proofs.YtiockiilenjjaaaDoor
open Go Go.RowKit Go.Lib
theorem infBound : (Tryd.prog.info? 45).map (fun i => (i.zero, i.size, i.bytes)) = some (some (.agg #[.string ⟨#[]⟩, .int .i64 0]), 2, 24) := by kernel_rfl
theorem tBounds : Tryd.prog.underlying 24 = some (.slice 45) := by kernel_rfl
def bcells (x : List (ByteArray × Int)) : List Value := x.flatMap fun u => [.string u.1, .int .i64 u.2]
theorem bcells_len (x : List (ByteArray × Int)) : (bcells x).length = x.length * 2 := by
  induction x with
  | nil => rfl
  | cons u x ih =>
    show ([Value.string u.1, Value.int .i64 u.2] ++ bcells x).length = _
    rw [List.length_append, ih]
    simp
    omega
theorem bcells_get : ∀ (x : List (ByteArray × Int)) (j : Nat) (v : Value), (bcells x)[j]? = some v ↔ ∃ u, x[j / 2]? = some u ∧ (if j % 2 = 0 then Value.string u.1 else Value.int .i64 u.2) = v
  | [], j, v => by simp [bcells]
  | u :: x, 0, v => by simp [bcells]
  | u :: x, 1, v => by simp [bcells]
  | u :: x, j + 2, v => by
    have h1 : (bcells (u :: x))[j + 2]? = (bcells x)[j]? := rfl
    have h2 : (j + 2) / 2 = j / 2 + 1 := by omega
    have h3 : (j + 2) % 2 = j % 2 := by omega
    rw [h1, h2, h3, List.getElem?_cons_succ]
    exact bcells_get x j v
/-- A copy, in memory of its own. -/
def ClP (x : List (ByteArray × Int)) (n : Nat) (w : World) (e : Ending) (w' : World) : Prop := ∃ a' c', e = .returned (.slice a' n c') ∧ n ≤ c' ∧ (n ≠ 0 → ∃ g, a' = some ⟨g, 0, none⟩ ∧ w.heap.size ≤ g ∧ g < w'.heap.size ∧ (∃ cur, w'.heap[g]? = some (.cells cur 45)) ∧ ∀ (j : Nat) u, x[j]? = some u → w'.rangeAt g (j * 2) [.string u.1, .int .i64 u.2]) ∧ Below w.heap.size w w'
set_option maxRecDepth 100000 in
set_option maxHeartbeats 16000000 in
theorem clone_any {w : World} {B n c : Nat} {a : Option Addr} {x : List (ByteArray × Int)} (hx : Row B a n c 2 (BR w x)) (hn : n = x.length) (hB : B ≤ w.heap.size) (hl : n ≤ 400000) :
    Calls Tryd.prog 97 #[.slice a n c] w (ClP x n w) := by
  obtain ⟨i0, hi0, hz0, hz1, hz2⟩ := inf_of infBound
  have q22 : ∀ (w : World) (a : Option Addr) (n c n' c' : Nat), (binOp .eql 24 (.slice a n c) (.slice none n' c')).run Tryd.prog w = .ok (.bool a.isNone) w := fun w a n c n' c' => Lib.run_eql_slice_nil w _ _ a n c n' c' tBounds
  cases a with
  | none =>
    have h0 : n = 0 := by
      rcases Nat.eq_zero_or_pos n with h | h
      · exact h
      · obtain ⟨b, off, e, _⟩ := hx.2.2 (by omega)
        cases e
    subst h0
    clear hx hi0 hz0 hz1 hz2 hn
    go_enter Tryd.func97, Tryd.ntmps97
    go_wp2
    go_ret
    exact ⟨none, 0, rfl, Nat.le_refl _, fun h => absurd rfl h, Below.refl _ _⟩
  | some ad =>
    have hnews : ∀ (W : World), Below w.heap.size w W → ∀ j u, (bcells x)[j]? = some u → W.cell? (ad.add j) = some u := fun W hW j u hj => by
      obtain ⟨p, hp, rfl⟩ := (bcells_get x j u).1 hj
      have hj2 := (List.getElem?_eq_some_iff.1 hp).1
      obtain ⟨b, off, e, hb, hjj⟩ := hx.2.2 (by omega)
      injection e with e
      subst e
      obtain ⟨rg, _⟩ := hjj (j / 2) (by omega) p hp
      have hm : j = j / 2 * 2 + j % 2 := by omega
      rw [Addr.add_lit, hW.cell (p := ⟨b, off + j, none⟩) (by show b < _; omega)]
      by_cases h2 : j % 2 = 0
      · rw [if_pos h2]
        have := rg 0 _ rfl
        rw [show off + j = off + j / 2 * 2 + 0 by omega]
        exact this
      · rw [if_neg h2]
        have := rg 1 _ rfl
        rw [show off + j = off + j / 2 * 2 + 1 by omega]
        exact this
    have HNews := hide hnews
    have HX := hide hn
    clear hx hnews hn
    go_enter Tryd.func97, Tryd.ntmps97
    go_wp2_with (at_builtin; refine wpList_append_own _ rfl _ _ 24 rfl w.heap.size 45 i0 (.agg #[.string ⟨#[]⟩, .int .i64 0]) 2 24 tBounds hi0 hz0 hz1 hz2 rfl (by decide) _ _ _ rfl (World.ownsRow_made w #[] 0 (Nat.le_refl _) (Nat.zero_le _) rfl) ad n c (bcells x) rfl ?qc1 ?qc2 ?qc3 ?qc4 ?qc5 ?qc6 ?_)
    case qc1 => rw [bcells_len, unhide HX]
    case qc2 => exact unhide HNews _ ((Below.refl _ w).alloc (Nat.le_refl _) _)
    case qc3 =>
      intro u hu
      obtain ⟨j, hj, e⟩ := List.getElem_of_mem hu
      obtain ⟨p, _, rfl⟩ := (bcells_get x j u).1 (by rw [List.getElem?_eq_getElem hj, e])
      split <;> rfl
    case qc4 => unfold maxLen; omega
    case qc5 => omega
    case qc6 => simp
    intro v' w1 hown hgrow hnil
    have hbel : Below w.heap.size w w1 := ((Below.refl _ w).alloc (Nat.le_refl _) _).grown hgrow (by simp) (by intro k hk; simp [Value.ownBlock] at hk; omega)
    obtain ⟨hlen, ⟨rfl, h0⟩ | ⟨g, cap, cur, rfl, hg, hgb, hc1, hc2, hc3, hc4⟩⟩ := hown
    · have HB := hide hbel
      clear hgrow hnil hbel hlen
      go_wp2
      go_ret
      subst h0
      exact ⟨none, 0, rfl, Nat.le_refl _, fun h => absurd rfl h, unhide HB⟩
    · have hlt := (Array.getElem?_eq_some_iff.1 hgb).1
      have hrng : ∀ (j : Nat) u, x[j]? = some u → w1.rangeAt g (j * 2) [.string u.1, .int .i64 u.2] := fun j u hu => by
        have hcell : ∀ k v, (bcells x)[k]? = some v → w1.cell? ⟨g, k, none⟩ = some v := fun k v hk => by
          rw [← hc4, List.getElem?_take] at hk
          split at hk
          · exact (blk hgb).2.1 k v (by rw [← Array.getElem?_toList]; exact hk)
          · cases hk
        intro k v hv
        have hk2 : k < 2 := by
          have := (List.getElem?_eq_some_iff.1 hv).1
          simpa using this
        refine hcell (j * 2 + k) v ((bcells_get x _ v).2 ⟨u, ?_, ?_⟩)
        · rw [show (j * 2 + k) / 2 = j by omega]; exact hu
        · rcases (by omega : k = 0 ∨ k = 1) with rfl | rfl
          · rw [if_pos (by omega)]
            simpa using hv
          · rw [if_neg (by omega)]
            simpa using hv
      have HF := hide (And.intro hbel (And.intro hg (And.intro hlt (And.intro hgb (And.intro hc1 hrng)))))
      clear hgrow hnil hbel hlen hg hgb hc1 hc2 hc3 hc4 hlt hrng
      go_wp2
      go_ret
      obtain ⟨hbel, hg, hlt, hgb, hc1, hrng⟩ := unhide HF
      exact ⟨_, cap, rfl, hc1, fun _ => ⟨g, rfl, hg, hlt, ⟨cur, hgb⟩, hrng⟩, hbel⟩
end Go.Proofs.YtiockiilenjjaaaDoor

/- Terms that lie in some blocks; what a copy of a term is. -/
namespace Go.Proofs.YtiockiilenjjaaaDoor
open Go Go.RowKit
def RowP (P : Nat → Prop) (a : Option Addr) (n cap k : Nat) (p : Nat → Nat → Nat → Prop) : Prop := n ≤ cap ∧ n ≤ 281474976710656 ∧ (n ≠ 0 → ∃ b off, a = some ⟨b, off, none⟩ ∧ P b ∧ ∀ j, j < n → p b (off + j * k) j)
theorem RowP.imp {P Q : Nat → Prop} {a : Option Addr} {n cap k : Nat} {p q : Nat → Nat → Nat → Prop} (h : RowP P a n cap k p) (hP : ∀ b, P b → Q b) (hp : ∀ b o j, P b → p b o j → q b o j) : RowP Q a n cap k q := by
  refine ⟨h.1, h.2.1, fun hn => ?_⟩
  obtain ⟨b, off, e, hb, hj⟩ := h.2.2 hn
  exact ⟨b, off, e, hP b hb, fun j h => hp _ _ _ hb (hj j h)⟩
theorem RowP.row {P : Nat → Prop} {B : Nat} {a : Option Addr} {n cap k : Nat} {p q : Nat → Nat → Nat → Prop} (h : RowP P a n cap k p) (hP : ∀ b, P b → b < B) (hp : ∀ b o j, P b → p b o j → q b o j) : Row B a n cap k q := by
  refine ⟨h.1, h.2.1, fun hn => ?_⟩
  obtain ⟨b, off, e, hb, hj⟩ := h.2.2 hn
  exact ⟨b, off, e, hP b hb, fun j h => hp _ _ _ hb (hj j h)⟩
/-- A term lies in blocks of which P holds. -/
def TmP (w : World) (P : Nat → Prop) : Nat → Nat → Nat → Tm → Prop
  | 0, _, _, _ => False
  | d + 1, b, o, t => P b ∧ fits t.op ∧ fits t.sort ∧ ∃ aL aV aP cL cV cP, w.rangeAt b o (tcells t aL aV aP cL cV cP)
      ∧ RowP P aL t.l.length cL 7 (fun b o j => ∀ u, t.l[j]? = some u → TmP w P d b o u)
      ∧ RowP P aV t.vars.length cV 2 (fun b o j => ∀ u, t.vars[j]? = some u → w.rangeAt b o [.string u.1, .int .i64 u.2] ∧ fits u.2)
      ∧ RowP P aP t.pat.length cP 7 (fun b o j => ∀ u, t.pat[j]? = some u → TmP w P d b o u)
      ∧ Plain w b
/-- A term as a value, whose lists lie in such blocks. -/
def IsP (w : World) (P : Nat → Prop) (d : Nat) (v : Value) (t : Tm) : Prop := fits t.op ∧ fits t.sort ∧ ∃ aL aV aP cL cV cP, v = .agg (tcells t aL aV aP cL cV cP).toArray
      ∧ RowP P aL t.l.length cL 7 (fun b o j => ∀ u, t.l[j]? = some u → TmP w P d b o u)
      ∧ RowP P aV t.vars.length cV 2 (fun b o j => ∀ u, t.vars[j]? = some u → w.rangeAt b o [.string u.1, .int .i64 u.2] ∧ fits u.2)
      ∧ RowP P aP t.pat.length cP 7 (fun b o j => ∀ u, t.pat[j]? = some u → TmP w P d b o u)
theorem range_same {w w' : World} {b o : Nat} {cs : List Value} (h : w.rangeAt b o cs) (hb : w'.heap[b]? = w.heap[b]?) : w'.rangeAt b o cs := fun j v hv => by
  rw [World.cell?_of_block (w := w) (a := ⟨b, o + j, none⟩) hb]
  exact h j v hv
theorem Plain.same {w w' : World} {b : Nat} (h : Plain w b) (hb : w'.heap[b]? = w.heap[b]?) : Plain w' b := by
  obtain ⟨cs, ty, h⟩ := h
  exact ⟨cs, ty, hb.trans h⟩
theorem TmP.keep {P Q : Nat → Prop} {w w' : World} (hk : ∀ k, P k → Q k ∧ w'.heap[k]? = w.heap[k]?) : ∀ {d d' b o : Nat} {t : Tm}, d ≤ d' → TmP w P d b o t → TmP w' Q d' b o t
  | 0, _, _, _, _, _, h => h.elim
  | d + 1, 0, _, _, _, hd, _ => absurd hd (by omega)
  | d + 1, d' + 1, b, o, t, hd, ⟨hb, h1, h2, aL, aV, aP, cL, cV, cP, hr, hL, hV, hP, hPl⟩ =>
    ⟨(hk b hb).1, h1, h2, aL, aV, aP, cL, cV, cP, range_same hr (hk b hb).2,
      hL.imp (fun b h => (hk b h).1) fun b o j hb h u hu => TmP.keep hk (by omega) (h u hu),
      hV.imp (fun b h => (hk b h).1) fun b o j hb h u hu => ⟨range_same (h u hu).1 (hk b hb).2, (h u hu).2⟩,
      hP.imp (fun b h => (hk b h).1) fun b o j hb h u hu => TmP.keep hk (by omega) (h u hu), hPl.same (hk b hb).2⟩
theorem IsP.keep {P Q : Nat → Prop} {w w' : World} (hk : ∀ k, P k → Q k ∧ w'.heap[k]? = w.heap[k]?) {d d' : Nat} {v : Value} {t : Tm} (hd : d ≤ d') (h : IsP w P d v t) : IsP w' Q d' v t := by
  obtain ⟨h1, h2, aL, aV, aP, cL, cV, cP, hr, hL, hV, hP⟩ := h
  exact ⟨h1, h2, aL, aV, aP, cL, cV, cP, hr, hL.imp (fun b h => (hk b h).1) fun b o j hb h u hu => (h u hu).keep hk hd,
    hV.imp (fun b h => (hk b h).1) fun b o j hb h u hu => ⟨range_same (h u hu).1 (hk b hb).2, (h u hu).2⟩,
    hP.imp (fun b h => (hk b h).1) fun b o j hb h u hu => (h u hu).keep hk hd⟩
theorem TmP.at {P : Nat → Prop} {w : World} {B : Nat} (hP : ∀ k, P k → k < B) : ∀ {d b o : Nat} {t : Tm}, TmP w P d b o t → TmAt w B d b o t
  | 0, _, _, _, h => h.elim
  | d + 1, b, o, t, ⟨hb, h1, h2, aL, aV, aP, cL, cV, cP, hr, hL, hV, hPt, hPl⟩ =>
    ⟨hP b hb, h1, h2, aL, aV, aP, cL, cV, cP, hr, hL.row hP fun b o j hb h u hu => TmP.at hP (h u hu), hV.row hP fun b o j hb h => h, hPt.row hP fun b o j hb h u hu => TmP.at hP (h u hu), hPl⟩
theorem IsP.isT {P : Nat → Prop} {w : World} {B d : Nat} {v : Value} {t : Tm} (hP : ∀ k, P k → k < B) (h : IsP w P d v t) : IsT w B d v t := by
  obtain ⟨h1, h2, aL, aV, aP, cL, cV, cP, hr, hL, hV, hPt⟩ := h
  exact ⟨h1, h2, aL, aV, aP, cL, cV, cP, hr, hL.row hP fun b o j hb h u hu => (h u hu).at hP, hV.row hP fun b o j hb h => h, hPt.row hP fun b o j hb h u hu => (h u hu).at hP⟩
/-- Laid into memory. -/
theorem IsP.laid {P : Nat → Prop} {w : World} {d b o : Nat} {v : Value} {t : Tm} (h : IsP w P d v t) (hb : P b) (hPl : Plain w b) (hr : ∀ cs, v = .agg cs.toArray → w.rangeAt b o cs) : TmP w P (d + 1) b o t := by
  obtain ⟨h1, h2, aL, aV, aP, cL, cV, cP, e, hL, hV, hPt⟩ := h
  exact ⟨hb, h1, h2, aL, aV, aP, cL, cV, cP, hr _ e, hL, hV, hPt, hPl⟩
/-- A copy of a term: nothing in fields that say nothing. -/
def Tm.inst0 : Tm → Tm
  | ⟨op, name, sort, num, l, vars, pat⟩ => ⟨op, if op = 17 ∨ op = 18 then name else .empty, if op = 18 then sort else 0, if op = 1 then num else .empty, l.map fun u => Tm.inst0 u, if op = 19 then vars else [], if op = 19 then pat.map fun p => Tm.inst0 p else []⟩
/-- A copy of a term, in which names are replaced. -/
def Tm.inst (sub : ByteArray → Option Tm) : Tm → (ByteArray → Int) → Tm
  | ⟨op, name, sort, num, l, vars, pat⟩, hid => match rep sub hid op name with
    | some u => u.inst0
    | none => ⟨op, if op = 17 ∨ op = 18 then name else .empty, if op = 18 then sort else 0, if op = 1 then num else .empty, l.map fun u => Tm.inst sub u (within op vars hid), if op = 19 then vars else [], if op = 19 then pat.map fun p => Tm.inst sub p (within op vars hid) else []⟩
theorem rep_no (hid : ByteArray → Int) (op : Int) (name : ByteArray) : rep (fun _ => none) hid op name = none := by
  unfold rep
  split <;> rfl
theorem inst_no {w : World} {B : Nat} : ∀ {d b o : Nat} {t : Tm}, TmAt w B d b o t → ∀ hid, t.inst (fun _ => none) hid = t.inst0
  | 0, _, _, _, h, _ => h.elim
  | d + 1, b, o, ⟨op, name, sort, num, l, vars, pat⟩, ⟨hb, h1, h2, aL, aV, aP, cL, cV, cP, hr, hL, hV, hP, hPl⟩, hid => by
    have hl : ∀ (q : List Tm) (a : Option Addr) (c : Nat), Row B a q.length c 7 (fun b o j => ∀ u, q[j]? = some u → TmAt w B d b o u) → ∀ hid, (q.map fun u => Tm.inst (fun _ => none) u hid) = q.map fun u => Tm.inst0 u := fun q a c hq hid => by
      refine List.map_congr_left fun u hu => ?_
      obtain ⟨j, hj, e⟩ := List.getElem_of_mem hu
      obtain ⟨b', off, _, _, hjj⟩ := hq.2.2 (by omega)
      exact inst_no (hjj j hj u (by rw [List.getElem?_eq_getElem hj, e])) hid
    rw [Tm.inst, Tm.inst0, rep_no]
    simp only
    rw [hl l aL cL hL, hl pat aP cP hP]
end Go.Proofs.YtiockiilenjjaaaDoor

/- A list of terms that is being made. -/
namespace Go.Proofs.YtiockiilenjjaaaDoor
open Go Go.RowKit
theorem infTerm : (Tryd.prog.info? 26).map (fun i => (i.zero, i.size, i.bytes)) = some (some (.agg #[.int .i64 0, .string ⟨#[]⟩, .int .i64 0, .string ⟨#[]⟩, .slice none 0 0, .slice none 0 0, .slice none 0 0]), 7, 120) := by kernel_rfl
theorem tTerms : Tryd.prog.underlying 23 = some (.slice 26) := by kernel_rfl
/-- A block of n terms' cells. -/
def TB (w : World) (g n : Nat) (cur : Array Value) : Prop := w.heap[g]? = some (.cells cur 26) ∧ cur.size = n * 7
/-- One term laid into memory. -/
def put7 (w : World) (g m : Nat) (a b c d e f h : Value) : World := ((((((w.setCell ⟨g, m, none⟩ a).setCell ⟨g, m + 1, none⟩ b).setCell ⟨g, m + 2, none⟩ c).setCell ⟨g, m + 3, none⟩ d).setCell ⟨g, m + 4, none⟩ e).setCell ⟨g, m + 5, none⟩ f).setCell ⟨g, m + 6, none⟩ h
theorem put7_far {w : World} {g m q : Nat} {a b c d e f h : Value} (hq : q ≠ g) : (put7 w g m a b c d e f h).heap[q]? = w.heap[q]? := by
  unfold put7
  rw [Below.heap_setCell _ ⟨g, m + 6, none⟩ h q hq, Below.heap_setCell _ ⟨g, m + 5, none⟩ f q hq, Below.heap_setCell _ ⟨g, m + 4, none⟩ e q hq, Below.heap_setCell _ ⟨g, m + 3, none⟩ d q hq, Below.heap_setCell _ ⟨g, m + 2, none⟩ c q hq, Below.heap_setCell _ ⟨g, m + 1, none⟩ b q hq, Below.heap_setCell _ ⟨g, m, none⟩ a q hq]
theorem put7_at {w : World} {g n i : Nat} {cur : Array Value} {a b c d e f h : Value} (hT : TB w g n cur) (hi : i < n) : ∃ cur', TB (put7 w g (i * 7) a b c d e f h) g n cur' ∧ (put7 w g (i * 7) a b c d e f h).rangeAt g (i * 7) [a, b, c, d, e, f, h] ∧ ∀ k, (k < i * 7 ∨ i * 7 + 7 ≤ k) → cur'[k]? = cur[k]? := by
  have hh : (put7 w g (i * 7) a b c d e f h).heap[g]? = _ := set_block (set_block (set_block (set_block (set_block (set_block (set_block hT.1 a) b) c) d) e) f) h
  have hs := hT.2
  refine ⟨_, ⟨hh, by simp only [Array.size_setIfInBounds]; exact hs⟩, fun j v hv => ?_, fun k hk => ?_⟩
  · refine (blk hh).2.1 (i * 7 + j) v ?_
    have hj : j < 7 := by
      have := (List.getElem?_eq_some_iff.1 hv).1
      simpa using this
    have hb : i * 7 + 6 < cur.size := by omega
    rcases (by omega : j = 0 ∨ j = 1 ∨ j = 2 ∨ j = 3 ∨ j = 4 ∨ j = 5 ∨ j = 6) with rfl | rfl | rfl | rfl | rfl | rfl | rfl <;> (simp at hv; subst hv; simp [Array.getElem?_setIfInBounds]; try omega)
  · have h0 : i * 7 ≠ k := by omega
    have h1 : i * 7 + 1 ≠ k := by omega
    have h2 : i * 7 + 2 ≠ k := by omega
    have h3 : i * 7 + 3 ≠ k := by omega
    have h4 : i * 7 + 4 ≠ k := by omega
    have h5 : i * 7 + 5 ≠ k := by omega
    have h6 : i * 7 + 6 ≠ k := by omega
    simp [Array.getElem?_setIfInBounds, h0, h1, h2, h3, h4, h5, h6]
theorem TB.cell {w : World} {g n : Nat} {cur : Array Value} (h : TB w g n cur) {k : Nat} (hk : k < n * 7) : ∃ x, w.cell? ⟨g, k, none⟩ = some x ∧ w.frozen? ⟨g, k, none⟩ = false :=
  ⟨_, (blk h.1).2.1 k _ (Array.getElem?_eq_getElem (by have := h.2; omega)), (blk h.1).2.2 k⟩
theorem mkTerms (n : Nat) (w : World) (hn : n ≤ 21474836) : ∃ cur, (Instr.makeSlice 23 (.int .i64 (n : Int)) (.int .i64 (n : Int))).run Tryd.prog w = .ok (.slice (some ⟨w.heap.size, 0, none⟩) n n) (w.alloc (.cells cur 26)) ∧ cur.size = n * 7 := by
  obtain ⟨i0, hi, hz0, hz1, hz2⟩ := inf_of infTerm
  have hr := run_make (P := Tryd.prog) w 23 26 i0 (.agg #[.int .i64 0, .string ⟨#[]⟩, .int .i64 0, .string ⟨#[]⟩, .slice none 0 0, .slice none 0 0, .slice none 0 0]) tTerms hi hz0 .i64 .i64 n n (by omega) (Int.le_refl _) (by rw [hz2]; omega) (by omega)
  rw [hz1] at hr
  simp only [Int.toNat_natCast] at hr
  exact ⟨_, hr, by simp [madeCells]⟩
/-- How much is copied. -/
def Tm.icp0 : Tm → Nat
  | ⟨op, _, _, _, l, vars, pat⟩ => l.length + (l.map fun u => Tm.icp0 u).sum + if op = 19 then vars.length + pat.length + (pat.map fun p => Tm.icp0 p).sum else 0
def Tm.icp (sub : ByteArray → Option Tm) : Tm → (ByteArray → Int) → Nat
  | ⟨op, name, _, _, l, vars, pat⟩, hid => match rep sub hid op name with
    | some u => u.icp0
    | none => l.length + (l.map fun u => Tm.icp sub u (within op vars hid)).sum + if op = 19 then vars.length + pat.length + (pat.map fun p => Tm.icp sub p (within op vars hid)).sum else 0
/-- New blocks, no slots. -/
def FB (m : Nat) (w : World) (k : Nat) : Prop := m ≤ k ∧ k < w.heap.size ∧ NS w k
def CV (sv : Value) (cp : Nat) : Obj := .cells #[sv, .int .i64 cp, .bool false] 147
def icpL (sub : ByteArray → Option Tm) (l : List Tm) (hid : ByteArray → Int) : Nat := l.length + (l.map fun u => u.icp sub hid).sum
def YTermC (sub : ByteArray → Option Tm) (dl : Nat) (sv : Value) (d : Nat) : Prop := ∀ (B r : Nat) (w : World) (b o : Nat) (t : Tm) (hid : ByteArray → Int) (cp u : Nat), TmAt w B d b o t → SLv w B sv dl sub hid → w.heap[r]? = some (CV sv cp) → B ≤ r → cp + t.icp sub hid ≤ 21474836 → u + d + dl ≤ 65536 → (∀ k, 0 ≤ hid k ∧ hid k + t.wt ≤ 400000) →
    Calls Tryd.prog 77 #[.pointer (some ⟨r, 0, none⟩), .pointer (some ⟨b, o, none⟩), .int .i64 u] w fun e w' => ∃ v, e = .returned v ∧ IsP w' (FB w.heap.size w') (d + dl) v (t.inst sub hid) ∧ w'.heap[r]? = some (CV sv (cp + t.icp sub hid)) ∧ SLv w' B sv dl sub hid ∧ XF B r w w' ∧ (sv = .map none → But r w w')
def YListC (sub : ByteArray → Option Tm) (dl : Nat) (sv : Value) (d : Nat) : Prop := ∀ (B r : Nat) (w : World) (a : Option Addr) (n c : Nat) (l : List Tm) (hid : ByteArray → Int) (cp u : Nat), Row B a n c 7 (fun b o j => ∀ t, l[j]? = some t → TmAt w B d b o t) → n = l.length → SLv w B sv dl sub hid → w.heap[r]? = some (CV sv cp) → B ≤ r → cp + icpL sub l hid ≤ 21474836 → u + d + dl ≤ 65536 → (∀ k, 0 ≤ hid k ∧ hid k + lwt l ≤ 400000) →
    Calls Tryd.prog 98 #[.pointer (some ⟨r, 0, none⟩), .slice a n c, .int .i64 u] w fun e w' => ∃ a' c', e = .returned (.slice a' n c') ∧ RowP (FB w.heap.size w') a' n c' 7 (fun b o j => ∀ t, (l.map fun t => t.inst sub hid)[j]? = some t → TmP w' (FB w.heap.size w') (d + dl + 1) b o t) ∧ w'.heap[r]? = some (CV sv (cp + icpL sub l hid)) ∧ SLv w' B sv dl sub hid ∧ XF B r w w' ∧ (sv = .map none → But r w w')
end Go.Proofs.YtiockiilenjjaaaDoor

/- Copies of lists. -/
namespace Go.Proofs.YtiockiilenjjaaaDoor
open Go Go.RowKit
theorem FB.keep {m m' : Nat} {w w' : World} {k : Nat} (h : FB m w k) (hm : m' ≤ m) (hs : w.heap.size ≤ w'.heap.size) (hb : w'.heap[k]? = w.heap[k]?) : FB m' w' k ∧ w'.heap[k]? = w.heap[k]? :=
  ⟨⟨Nat.le_trans hm h.1, Nat.lt_of_lt_of_le h.2.1 hs, fun cs fr e => h.2.2 cs fr (hb.symm.trans e)⟩, hb⟩
theorem TB.same {w w' : World} {g n k : Nat} {cur cur' : Array Value} (h : TB w g n cur) (h' : TB w' g n cur') (hk : cur'[k]? = cur[k]?) : w'.cell? ⟨g, k, none⟩ = w.cell? ⟨g, k, none⟩ := by
  simp only [World.cell?, h.1, h'.1, hk]
theorem TB.ns {w : World} {g n : Nat} {cur : Array Value} (h : TB w g n cur) : NS w g := fun cs fr e => by
  rw [h.1] at e
  injection e with e
  injection e with _ e
  revert e
  decide
theorem icpL_more {sub : ByteArray → Option Tm} {l : List Tm} {hid : ByteArray → Int} {i : Nat} (h : i < l.length) : ((l.take (i + 1)).map fun u => u.icp sub hid).sum = ((l.take i).map fun u => u.icp sub hid).sum + l[i].icp sub hid := by
  rw [take_more h, List.map_append, List.sum_append]
  simp
theorem icpL_take (sub : ByteArray → Option Tm) (l : List Tm) (hid : ByteArray → Int) (i : Nat) : ((l.take i).map fun u => u.icp sub hid).sum ≤ (l.map fun u => u.icp sub hid).sum := by
  rw [List.map_take]
  exact sum_take_le _ i
/-- The elements that are made already. -/
def Made (w : World) (g d i : Nat) (l : List Tm) : Prop := ∀ (j : Nat) t, j < i → l[j]? = some t → ∃ cs, cs.length = 7 ∧ w.rangeAt g (j * 7) cs ∧ IsP w (FB (g + 1) w) d (.agg cs.toArray) t
theorem Made.next {w w7 : World} {g d i n : Nat} {l : List Tm} {cur : Array Value} {a b c e f h k : Value} (hM : Made w g d i l) (hg : g < w.heap.size) (hT : TB w7 g n cur) (hk : ∀ q, FB (g + 1) w q ∨ q = g → w7.heap[q]? = w.heap[q]?) (hs : w.heap.size ≤ w7.heap.size) (hi : i < n) (hV : ∀ t, l[i]? = some t → IsP w7 (FB w.heap.size w7) d (.agg #[a, b, c, e, f, h, k]) t) :
    ∃ cur', TB (put7 w7 g (i * 7) a b c e f h k) g n cur' ∧ Made (put7 w7 g (i * 7) a b c e f h k) g d (i + 1) l := by
  obtain ⟨cur', hT', hr, hcur⟩ := put7_at (a := a) (b := b) (c := c) (d := e) (e := f) (f := h) (h := k) hT hi
  have hsz : (put7 w7 g (i * 7) a b c e f h k).heap.size = w7.heap.size := by unfold put7; simp
  refine ⟨cur', hT', fun j t hj ht => ?_⟩
  rcases Nat.lt_or_ge j i with hlt | hge
  · obtain ⟨cs, h7, hr0, hI⟩ := hM j t hlt ht
    refine ⟨cs, h7, fun m v hv => ?_, hI.keep (fun q hq => ?_) (Nat.le_refl _)⟩
    · have hm : m < 7 := by have := (List.getElem?_eq_some_iff.1 hv).1; omega
      rw [hT.same hT' (hcur (j * 7 + m) (by omega)), World.cell?_of_block (w := w) (a := ⟨g, j * 7 + m, none⟩) (hk g (.inr rfl))]
      exact hr0 m v hv
    · have hqg : q ≠ g := by have := hq.1; omega
      exact hq.keep (Nat.le_refl _) (by omega) ((put7_far hqg).trans (hk q (.inl hq)))
  · obtain rfl : j = i := by omega
    refine ⟨[a, b, c, e, f, h, k], rfl, hr, (hV t ht).keep (fun q hq => ?_) (Nat.le_refl _)⟩
    have hqg : q ≠ g := by have := hq.1; omega
    exact hq.keep (by omega) (by omega) (put7_far hqg)
theorem Made.row {w : World} {g d n m : Nat} {l : List Tm} {cur : Array Value} (hM : Made w g d n l) (hT : TB w g n cur) (hm : m ≤ g) (hn : n ≤ 281474976710656) : RowP (FB m w) (some ⟨g, 0, none⟩) n n 7 (fun b o j => ∀ t, l[j]? = some t → TmP w (FB m w) (d + 1) b o t) := by
  have hlt := (Array.getElem?_eq_some_iff.1 hT.1).1
  refine ⟨Nat.le_refl _, hn, fun _ => ⟨g, 0, rfl, ⟨hm, hlt, hT.ns⟩, fun j hj t ht => ?_⟩⟩
  obtain ⟨cs, h7, hr, hI⟩ := hM j t hj ht
  refine (hI.keep (Q := FB m w) (w' := w) (fun q hq => hq.keep (by omega) (Nat.le_refl _) rfl) (Nat.le_refl _)).laid ⟨hm, hlt, hT.ns⟩ ⟨cur, _, hT.1⟩ fun cs' e => ?_
  injection e with e
  have e2 : cs = cs' := by simpa using e
  subst e2
  simpa using hr
end Go.Proofs.YtiockiilenjjaaaDoor

/- Copies of lists: the walk. -/
namespace Go.Proofs.YtiockiilenjjaaaDoor
open Go Go.RowKit
theorem SLv.but {B g dl : Nat} {w w' : World} {sv : Value} {sub : ByteArray → Option Tm} {hid : ByteArray → Int} {cs : Array Value} {ty : TypeId} (h : SLv w B sv dl sub hid) (hb : Below B w w') (hk : ∀ q, q ≠ g → w'.heap[q]? = w.heap[q]?) (hr : w.heap[g]? = some (.cells cs ty)) (ht : ty ≠ 151) : SLv w' B sv dl sub hid := by
  refine h.imp id ?_
  rintro ⟨rs, e, hBr, es, h1, h2, h3⟩
  refine ⟨rs, e, hBr, es, h1.same (hk rs (fun e' => ?_)), fun k => (h2 k).imp id ?_, h3⟩
  · obtain ⟨a, c, k1, _⟩ := h1
    rw [e', hr] at k1
    cases k1
  · rintro ⟨u, q, bt, ot, e1, e2, e3, e4, e5⟩
    refine ⟨u, q, bt, ot, e1, e2, e3, ?_, e5.more hb (Nat.le_refl _) (Nat.le_refl _)⟩
    rw [hk q (fun e' => ?_)]
    · exact e4
    · rw [e', hr] at e4
      injection e4 with e4
      injection e4 with _ e4
      exact ht e4
theorem put7_below {B : Nat} {w : World} {g m : Nat} {a b c d e f h : Value} (hg : B ≤ g) : Below B w (put7 w g m a b c d e f h) := by
  unfold put7
  exact (((((((Below.refl B w).setCell (p := ⟨g, m, none⟩) hg _).setCell (p := ⟨g, m + 1, none⟩) hg _).setCell (p := ⟨g, m + 2, none⟩) hg _).setCell (p := ⟨g, m + 3, none⟩) hg _).setCell (p := ⟨g, m + 4, none⟩) hg _).setCell (p := ⟨g, m + 5, none⟩) hg _).setCell (p := ⟨g, m + 6, none⟩) hg _
theorem put7_but {r : Nat} {w0 w : World} {g m : Nat} {a b c d e f h : Value} (hw : But r w0 w) (hg : w0.heap.size ≤ g) : But r w0 (put7 w g m a b c d e f h) := by
  unfold put7
  exact ((((((hw.setCell (p := ⟨g, m, none⟩) (.inr hg) _).setCell (p := ⟨g, m + 1, none⟩) (.inr hg) _).setCell (p := ⟨g, m + 2, none⟩) (.inr hg) _).setCell (p := ⟨g, m + 3, none⟩) (.inr hg) _).setCell (p := ⟨g, m + 4, none⟩) (.inr hg) _).setCell (p := ⟨g, m + 5, none⟩) (.inr hg) _).setCell (p := ⟨g, m + 6, none⟩) (.inr hg) _
set_option maxRecDepth 1000000 in
set_option maxHeartbeats 16000000 in
theorem ylist_of {sub : ByteArray → Option Tm} {dl d : Nat} {sv : Value} (ih : YTermC sub dl sv d) : YListC sub dl sv d := by
  intro B r w a n c l hid cp u hR hn hS hW hBr hcp hu hh
  have hrw := (Array.getElem?_eq_some_iff.1 hW).1
  have hBw : B ≤ w.heap.size := by omega
  have hnm : n ≤ 21474836 := by unfold icpL at hcp; omega
  have hcn : cp + n ≤ 21474836 := by unfold icpL at hcp; omega
  have r1 : w.cell? ⟨r, 1, none⟩ = some (.int .i64 (cp : Int)) := (blk hW).2.1 1 _ rfl
  have r2 : w.cell? ⟨r, 2, none⟩ = some (.bool false) := (blk hW).2.1 2 _ rfl
  have rf1 := (blk hW).2.2 1
  have rf2 := (blk hW).2.2 2
  have hd1 : decide ((21474836 : Int) < (cp : Int) + (n : Int)) = false := by simp; omega
  have hd2 : decide ((65536 : Int) < (u : Int)) = false := by simp; omega
  obtain ⟨A, eA⟩ : ∃ A, ((w.setCell ⟨r, 1, none⟩ (.int .i64 ((cp : Int) + (n : Int)))).setCell ⟨r, 2, none⟩ (.bool false)) = A := ⟨_, rfl⟩
  have hWA : A.heap[r]? = some (CV sv (cp + n)) := by
    rw [← eA, set_block (set_block hW _)]
    rfl
  have hSA : SLv A B sv dl sub hid := by
    rw [← eA]
    exact (hS.set hBr hW (by decide)).set hBr (set_block hW _) (by decide)
  have hXA : XF B r w A := by
    rw [← eA]
    exact ((XF.refl B r w).set hBr).set hBr
  have hBA : But r w A := by
    rw [← eA]
    exact ((But.refl r w).setCell (p := ⟨r, 1, none⟩) (.inl rfl) _).setCell (p := ⟨r, 2, none⟩) (.inl rfl) _
  have hsA : A.heap.size = w.heap.size := by rw [← eA]; simp
  have a2 : A.cell? ⟨r, 2, none⟩ = some (.bool false) := (blk hWA).2.1 2 _ rfl
  have HA := hide (And.intro hWA (And.intro hSA (And.intro hXA (And.intro hsA hBA))))
  have HR := hide hR
  have HN := hide hn
  have HC := hide (And.intro hcp (And.intro hu hh))
  have HIH := hide ih
  clear ih hR hn hS hW hcp hh hWA hSA hXA hsA hBA
  by_cases h0 : n = 0
  · have hz1 : decide ((n : Int) = 0) = true := by simp; omega
    have hz2 : ((n : Int) == 0) = true := by simp; omega
    have H0 := hide h0
    clear h0
    go_enter Tryd.func98, Tryd.ntmps98
    go_wp2
    go_ret
    obtain ⟨hWA, hSA, hXA, hsA, hBA⟩ := unhide HA
    have h0 := unhide H0
    have hl : l = [] := List.length_eq_zero_iff.1 (by rw [← unhide HN]; exact h0)
    subst hl
    rw [h0] at hWA ⊢
    exact ⟨none, 0, rfl, ⟨Nat.le_refl _, by omega, fun h => absurd rfl h⟩, hWA, hSA, hXA, fun _ => hBA⟩
  have hz1 : decide ((n : Int) = 0) = false := by simp; omega
  have hz2 : ((n : Int) == 0) = false := by simp; omega
  obtain ⟨cur0, km, hc0⟩ := mkTerms n A hnm
  obtain ⟨C, eC, hbC, hsC, hcC, hhC⟩ := box_new A cur0 26
  have HC0 : Hid (∃ cur, TB C A.heap.size n cur ∧ C.heap[r]? = some (CV sv (cp + n)) ∧ SLv C B sv dl sub hid ∧ XF B r w C ∧ But r w C) := by
    obtain ⟨hWA, hSA, hXA, hsA, hBA⟩ := unhide HA
    exact ⟨cur0, ⟨hhC, hc0⟩, (hbC.block r (by omega)).trans hWA, hSA.below hbC (Nat.le_refl _), hXA.trans (XF.of hbC (Nat.le_refl _)), hBA.trans (But.of hbC (Nat.le_refl _))⟩
  obtain ⟨g, eg⟩ : ∃ g, A.heap.size = g := ⟨_, rfl⟩
  have hgw : w.heap.size = g := by rw [← eg]; exact (unhide HA).2.2.2.1.symm
  rw [eg] at HC0 km
  have HG := hide hgw
  have hgr : g ≠ r := by omega
  clear hbC hsC hcC hhC hc0 eg hgw
  go_enter Tryd.func98, Tryd.ntmps98
  go_wp2
  clear km eA eC a2 r1 r2 rf1 rf2
  go_loopw [8] (fun iv wr => ∃ i cur, i ≤ n ∧ iv = .int .i64 (i : Int) ∧ TB wr g n cur ∧ wr.heap[r]? = some (CV sv (cp + n + ((l.take i).map fun t => t.icp sub hid).sum)) ∧ SLv wr B sv dl sub hid ∧ XF B r w wr ∧ (sv = .map none → But r w wr) ∧ Made wr g (d + dl) i (l.map fun t => t.inst sub hid)) (fun iv _ => (n - (intOf iv).toNat))
  case atStart =>
    obtain ⟨cur, h1, h2, h3, h4, h5⟩ := unhide HC0
    exact ⟨0, cur, Nat.zero_le _, rfl, h1, h2, h3, h4, fun _ => h5, fun j t hj => absurd hj (by omega)⟩
  case round =>
    obtain ⟨i, cur, hi, rfl, hTi, hWi, hSi, hXi, hBi, hMi⟩ := hrel
    have s2 : wr.cell? ⟨r, 2, none⟩ = some (.bool false) := (blk hWi).2.1 2 _ rfl
    by_cases hlt : i < n
    · have h1 : i < l.length := by have := unhide HN; omega
      have hdi : decide ((i : Int) < (n : Int)) = true := by simp; omega
      have hIi : (i : Int) < (n : Int) := by omega
      have hcap : (i : Int) < 281474976710656 := by omega
      obtain ⟨bl, ol, rfl, hblB, hj⟩ := (unhide HR).2.2 (by omega)
      have hTr := (hj i hlt _ (List.getElem?_eq_getElem h1)).more (hXi.below hBw) (Nat.le_refl _) (Nat.le_refl _)
      obtain ⟨hcp, hu, hh⟩ := unhide HC
      have hmore := icpL_more (sub := sub) (hid := hid) h1
      have hwi : ∀ k, 0 ≤ hid k ∧ hid k + l[i].wt ≤ 400000 := fun k => (hh k).imp id (fun h => by
        have h3 : l[i].wt ≤ lwt l := by
          have := lwt_more h1
          have := lwt_take l (i + 1)
          omega
        omega)
      have hsum : cp + n + ((l.take i).map fun t => t.icp sub hid).sum + l[i].icp sub hid ≤ 21474836 := by
        have h5 := icpL_take sub l hid (i + 1)
        rw [hmore] at h5
        unfold icpL at hcp
        have := unhide HN
        omega
      have HCl := hide (unhide HIH B r wr bl (ol + i * 7) l[i] hid (cp + n + ((l.take i).map fun t => t.icp sub hid).sum) u hTr hSi hWi hBr hsum hu hwi)
      have HP := hide (And.intro hTi (And.intro hXi (And.intro hMi (And.intro hmore hBi))))
      clear hj hTr hcp hu hh hmore hwi hsum hTi hWi hSi hXi hMi hBi
      go_wp2_with fail
      refine (unhide HCl).mono ?_
      rintro e w7 ⟨v, rfl, hI7, hW7, hS7, hX7, hB7⟩
      obtain ⟨hTi, hXi, hMi, hmore, hBi⟩ := unhide HP
      have hT7 : TB w7 g n cur := ⟨hX7.blk hTi.1 hgr (by decide), hTi.2⟩
      have hV : IsP w7 (FB wr.heap.size w7) (d + dl) v (l[i].inst sub hid) := hI7
      obtain ⟨h1', h2', aL, aV, aP, cL, cV, cP, rfl, hL, hV', hP'⟩ := hI7
      generalize hti : l[i].inst sub hid = ti at *
      simp only [tcells, List.toArray] at hV ⊢
      have hgl : g < wr.heap.size := (Array.getElem?_eq_some_iff.1 hTi.1).1
      have hge : w.heap.size = g := unhide HG
      obtain ⟨cur', hT9, hM9⟩ := hMi.next (a := .int .i64 ti.op) (b := .string ti.name) (c := .int .i64 ti.sort) (e := .string ti.num) (f := .slice aL ti.l.length cL) (h := .slice aV ti.vars.length cV) (k := .slice aP ti.pat.length cP) hgl hT7 (fun q hq => by
        rcases hq with hq | rfl
        · exact hX7.block q hq.2.1 (.inr ⟨by have := hq.1; omega, hq.2.2⟩)
        · exact hX7.block q hgl (.inr ⟨hgr, hTi.ns⟩)) hX7.size hlt (fun t ht => by
        rw [List.getElem?_map, List.getElem?_eq_getElem h1, Option.map_some, hti] at ht
        injection ht with ht
        rw [← ht]
        exact hV)
      have hb9 : Below B w7 _ := put7_below (m := i * 7) (a := .int .i64 ti.op) (b := .string ti.name) (c := .int .i64 ti.sort) (d := .string ti.num) (e := .slice aL ti.l.length cL) (f := .slice aV ti.vars.length cV) (h := .slice aP ti.pat.length cP) (show B ≤ g by omega)
      have hS9 := hS7.but hb9 (fun q hq => put7_far hq) hT7.1 (by decide)
      have hX9 : XF B r w (put7 w7 g (i * 7) (.int .i64 ti.op) (.string ti.name) (.int .i64 ti.sort) (.string ti.num) (.slice aL ti.l.length cL) (.slice aV ti.vars.length cV) (.slice aP ti.pat.length cP)) := by
        have hX := hXi.trans hX7
        refine ⟨hb9.os.trans hX.os, hb9.tape.trans hX.tape, hb9.output.trans hX.output, Nat.le_trans hX.size hb9.size, fun k hk hj => ?_⟩
        rw [put7_far (by omega)]
        exact hX.block k hk hj
      have hW9 := (put7_far (w := w7) (m := i * 7) (a := .int .i64 ti.op) (b := .string ti.name) (c := .int .i64 ti.sort) (d := .string ti.num) (e := .slice aL ti.l.length cL) (f := .slice aV ti.vars.length cV) (h := .slice aP ti.pat.length cP) (fun e => hgr e.symm)).trans hW7
      rw [Nat.add_assoc (cp + n), ← hmore] at hW9
      have hB9 := fun e => put7_but (m := i * 7) (a := .int .i64 ti.op) (b := .string ti.name) (c := .int .i64 ti.sort) (d := .string ti.num) (e := .slice aL ti.l.length cL) (f := .slice aV ti.vars.length cV) (h := .slice aP ti.pat.length cP) ((hBi e).trans (hB7 e)) (show w.heap.size ≤ g by omega)
      obtain ⟨x0, z0, f0⟩ := hT7.cell (k := i * 7) (by omega)
      obtain ⟨x1, z1, f1⟩ := hT7.cell (k := i * 7 + 1) (by omega)
      obtain ⟨x2, z2, f2⟩ := hT7.cell (k := i * 7 + 2) (by omega)
      obtain ⟨x3, z3, f3⟩ := hT7.cell (k := i * 7 + 3) (by omega)
      obtain ⟨x4, z4, f4⟩ := hT7.cell (k := i * 7 + 4) (by omega)
      obtain ⟨x5, z5, f5⟩ := hT7.cell (k := i * 7 + 5) (by omega)
      obtain ⟨x6, z6, f6⟩ := hT7.cell (k := i * 7 + 6) (by omega)
      have H9 := hide (And.intro hT9 (And.intro hW9 (And.intro hS9 (And.intro hX9 (And.intro hB9 hM9)))))
      unfold put7 at H9
      clear hTi hXi hMi hmore hT7 hV h1' h2' hL hV' hP' hti hT9 hM9 hb9 hS9 hX9 hW9 hS7 hX7 hW7 hge s2 hBi hB7 hB9
      generalize ti.l.length = nL at *
      generalize ti.vars.length = nV at *
      generalize ti.pat.length = nP at *
      go_wp2
      exact ⟨⟨i + 1, cur', by omega, rfl, unhide H9⟩, by simp only [intOf]; omega⟩
    · have hin : i = n := by omega
      have hdi : decide ((i : Int) < (n : Int)) = false := by simp; omega
      subst hin
      have htk : l.take i = l := List.take_of_length_le (by have := unhide HN; omega)
      rw [htk] at hWi
      have hrow := hMi.row hTi (m := w.heap.size) (by have := unhide HG; omega) (by omega)
      have HF := hide (And.intro hrow (And.intro hWi (And.intro hSi (And.intro hXi hBi))))
      clear hWi hSi hXi hMi hTi hrow htk hBi
      go_wp2
      go_ret
      obtain ⟨hrow, hWi, hSi, hXi, hBi⟩ := unhide HF
      refine ⟨_, _, rfl, hrow, ?_, hSi, hXi, hBi⟩
      rw [hWi]
      unfold icpL
      rw [← unhide HN, Nat.add_assoc]
end Go.Proofs.YtiockiilenjjaaaDoor

/- A copy of a term as it stands. -/
namespace Go.Proofs.YtiockiilenjjaaaDoor
open Go Go.RowKit
theorem SLv.butr {B r dl : Nat} {w w' : World} {sv : Value} {sub : ByteArray → Option Tm} {hid : ByteArray → Int} {cs : Array Value} {ty : TypeId} (h : SLv w B sv dl sub hid) (hb : But r w w') (hBr : B ≤ r) (hBw : B ≤ w.heap.size) (hr : w.heap[r]? = some (.cells cs ty)) (ht : ty ≠ 151) : SLv w' B sv dl sub hid := by
  refine h.imp id ?_
  rintro ⟨rs, e, hBr2, es, h1, h2, h3⟩
  refine ⟨rs, e, hBr2, es, h1.same (hb.block rs h1.lt (fun e' => ?_)), fun k => (h2 k).imp id ?_, h3⟩
  · obtain ⟨a, c, k1, _⟩ := h1
    rw [e', hr] at k1
    cases k1
  · rintro ⟨u, q, bt, ot, e1, e2, e3, e4, e5⟩
    refine ⟨u, q, bt, ot, e1, e2, e3, ?_, e5.more (hb.below hBr hBw) (Nat.le_refl _) (Nat.le_refl _)⟩
    rw [hb.block q (Array.getElem?_eq_some_iff.1 e4).1 (fun e' => ?_)]
    · exact e4
    · rw [e', hr] at e4
      injection e4 with e4
      injection e4 with _ e4
      exact ht e4
theorem XF.ofBut {B r : Nat} {w w' : World} (h : But r w w') (hBr : B ≤ r) : XF B r w w' := ⟨h.os, h.tape, h.output, h.size, fun k hk hj => h.block k hk (by omega)⟩
set_option maxHeartbeats 4000000 in
/-- What a term's block holds when all seven cells are filled. -/
theorem fill7 {w : World} {q : Nat} {a b c d e f h a' b' c' d' e' f' h' : Value} {ty : TypeId} (hq : w.heap[q]? = some (.cells #[a, b, c, d, e, f, h] ty)) : (put7 w q 0 a' b' c' d' e' f' h').heap[q]? = some (.cells #[a', b', c', d', e', f', h'] ty) := by
  unfold put7
  have k0 := set_block (o := 0) hq a'
  have k1 := set_block (o := 0 + 1) k0 b'
  have k2 := set_block (o := 0 + 2) k1 c'
  have k3 := set_block (o := 0 + 3) k2 d'
  have k4 := set_block (o := 0 + 4) k3 e'
  have k5 := set_block (o := 0 + 5) k4 f'
  have k6 := set_block (o := 0 + 6) k5 h'
  rw [k6]
  rfl
set_option maxRecDepth 1000000 in
set_option maxHeartbeats 16000000 in
theorem as_any {dl dl' : Nat} (ih : YTermC (fun _ => none) 0 (.map none) dl) {B r : Nat} {w : World} {bt ot : Nat} {t : Tm} {cp u : Nat} {sv : Value} {sub : ByteArray → Option Tm} {hid : ByteArray → Int} (hT : TmAt w B dl bt ot t) (hS : SLv w B sv dl' sub hid) (hW : w.heap[r]? = some (CV sv cp)) (hBr : B ≤ r) (hcp : cp + t.icp (fun _ => none) (fun _ => 0) ≤ 21474836) (hu : u + dl ≤ 65536) (hwt : t.wt ≤ 400000) :
    Calls Tryd.prog 95 #[.pointer (some ⟨r, 0, none⟩), .pointer (some ⟨bt, ot, none⟩), .int .i64 u] w fun e w' => ∃ v, e = .returned v ∧ IsP w' (FB w.heap.size w') dl v t.inst0 ∧ w'.heap[r]? = some (CV sv (cp + t.icp (fun _ => none) (fun _ => 0))) ∧ SLv w' B sv dl' sub hid ∧ But r w w' := by
  obtain ⟨mx, rfl⟩ : ∃ mx, sv = .map mx := by rcases hS with ⟨rfl, _⟩ | ⟨rs, rfl, _⟩ <;> exact ⟨_, rfl⟩
  have hrw := (Array.getElem?_eq_some_iff.1 hW).1
  have hBw : B ≤ w.heap.size := by omega
  obtain ⟨A, eA, hbA, hsA, hcA, hhA⟩ := box_new w #[.int .i64 0, .string ⟨#[]⟩, .int .i64 0, .string ⟨#[]⟩, .slice none 0 0, .slice none 0 0, .slice none 0 0] 26
  have hWA : A.heap[r]? = some (CV (.map mx) cp) := (hbA.block r hrw).trans hW
  have a0 : A.cell? ⟨r, 0, none⟩ = some (.map mx) := (blk hWA).2.1 0 _ rfl
  have af0 := (blk hWA).2.2 0
  obtain ⟨D, eD⟩ : ∃ D, A.setCell ⟨r, 0, none⟩ (.map none) = D := ⟨_, rfl⟩
  have hWD : D.heap[r]? = some (CV (.map none) cp) := by
    rw [← eD, CV]
    exact set_block hWA _
  have hqD : D.heap[w.heap.size]? = some (.cells #[.int .i64 0, .string ⟨#[]⟩, .int .i64 0, .string ⟨#[]⟩, .slice none 0 0, .slice none 0 0, .slice none 0 0] 26) := by
    rw [← eD]
    exact keep_set hhA (by show w.heap.size ≠ r; omega) _
  have hBD : But r w D := by
    rw [← eD]
    exact (But.of hbA (Nat.le_refl _)).setCell (p := ⟨r, 0, none⟩) (.inl rfl) _
  have hsD : D.heap.size = w.heap.size + 1 := by rw [← eD]; simp; omega
  have HCl := hide (ih B r D bt ot t (fun _ => 0) cp u (hT.more (hBD.below hBr hBw) (Nat.le_refl _) (Nat.le_refl _)) (.inl ⟨rfl, fun _ => rfl⟩) hWD hBr hcp (by omega) (fun k => ⟨by omega, by omega⟩))
  have HI := hide (And.intro hS (And.intro hW (And.intro hBD (And.intro hqD hsD))))
  obtain ⟨ti, eti⟩ : ∃ ti, t.inst0 = ti := ⟨_, rfl⟩
  rw [eti]
  have HE := hide ((inst_no hT (fun _ => 0)).trans eti)
  clear eti hT hS hW hbA hsA hcA hhA hWA hWD hqD hBD hsD ih hcp
  go_enter Tryd.func95, Tryd.ntmps95
  go_wp2_with fail
  refine (unhide HCl).mono ?_
  rintro e w3 ⟨v, rfl, hI3, hW3, hS3, hX3, hB3⟩
  have hB3 : But r D w3 := by first | exact hB3 rfl | exact hB3 trivial
  rw [unhide HE] at hI3
  obtain ⟨hS, hW, hBD, hqD, hsD⟩ := unhide HI
  have hV := hI3
  obtain ⟨h1', h2', aL, aV, aP, cL, cV, cP, rfl, hL, hV', hP'⟩ := hI3
  simp only [tcells, List.toArray] at hV ⊢
  have HV := hide hV
  clear hL hV' hP' h1' h2' hV
  obtain ⟨nL, enL⟩ : ∃ n, ti.l.length = n := ⟨_, rfl⟩
  obtain ⟨nV, enV⟩ : ∃ n, ti.vars.length = n := ⟨_, rfl⟩
  obtain ⟨nP, enP⟩ : ∃ n, ti.pat.length = n := ⟨_, rfl⟩
  rw [enL, enV, enP] at HV ⊢
  obtain ⟨E, eE, hbE, hsE, hcE, hhE⟩ := box_new w3 #[.int .i64 ti.op, .string ti.name, .int .i64 ti.sort, .string ti.num, .slice aL nL cL, .slice aV nV cV, .slice aP nP cP] 26
  obtain ⟨F, eF⟩ : ∃ F, E.setCell ⟨r, 0, none⟩ (.map mx) = F := ⟨_, rfl⟩
  have hr3 : r < w3.heap.size := (Array.getElem?_eq_some_iff.1 hW3).1
  have hWE : E.heap[r]? = _ := (hbE.block r hr3).trans hW3
  have g0 : E.cell? ⟨r, 0, none⟩ = some (.map none) := (blk hWE).2.1 0 _ rfl
  have gf0 := (blk hWE).2.2 0
  have hWF : F.heap[r]? = some (CV (.map mx) (cp + t.icp (fun _ => none) (fun _ => 0))) := by
    rw [← eF, CV]
    exact set_block hWE _
  have hqw : w.heap.size ≠ r := by omega
  have hq3 : w3.heap[w.heap.size]? = some (.cells #[.int .i64 0, .string ⟨#[]⟩, .int .i64 0, .string ⟨#[]⟩, .slice none 0 0, .slice none 0 0, .slice none 0 0] 26) := hB3.blk hqD hqw
  have hqF : F.heap[w.heap.size]? = some (.cells #[.int .i64 0, .string ⟨#[]⟩, .int .i64 0, .string ⟨#[]⟩, .slice none 0 0, .slice none 0 0, .slice none 0 0] 26) := by
    rw [← eF]
    exact keep_set ((hbE.block _ (Array.getElem?_eq_some_iff.1 hq3).1).trans hq3) hqw _
  have hpF : F.heap[w3.heap.size]? = some (.cells #[.int .i64 ti.op, .string ti.name, .int .i64 ti.sort, .string ti.num, .slice aL nL cL, .slice aV nV cV, .slice aP nP cP] 26) := by
    rw [← eF]
    exact keep_set hhE (by show w3.heap.size ≠ r; omega) _
  have hBF : But r w F := by
    rw [← eF]
    exact ((hBD.trans hB3).trans (But.of hbE (Nat.le_refl _))).setCell (p := ⟨r, 0, none⟩) (.inl rfl) _
  have hkF : ∀ k, FB D.heap.size w3 k → F.heap[k]? = w3.heap[k]? := fun k hk => by
    rw [← eF, Below.heap_setCell E ⟨r, 0, none⟩ (.map mx) k (by show k ≠ r; have := hk.1; omega)]
    exact hbE.block k hk.2.1
  have hsF : w3.heap.size ≤ F.heap.size := by rw [← eF]; simp; omega
  have q0 : F.cell? ⟨w.heap.size, 0, none⟩ = some (.int .i64 0) := (blk hqF).2.1 0 _ rfl
  have q1 : F.cell? ⟨w.heap.size, 1, none⟩ = some (.string ⟨#[]⟩) := (blk hqF).2.1 1 _ rfl
  have q2 : F.cell? ⟨w.heap.size, 2, none⟩ = some (.int .i64 0) := (blk hqF).2.1 2 _ rfl
  have q3 : F.cell? ⟨w.heap.size, 3, none⟩ = some (.string ⟨#[]⟩) := (blk hqF).2.1 3 _ rfl
  have q4 : F.cell? ⟨w.heap.size, 4, none⟩ = some (.slice none 0 0) := (blk hqF).2.1 4 _ rfl
  have q5 : F.cell? ⟨w.heap.size, 5, none⟩ = some (.slice none 0 0) := (blk hqF).2.1 5 _ rfl
  have q6 : F.cell? ⟨w.heap.size, 6, none⟩ = some (.slice none 0 0) := (blk hqF).2.1 6 _ rfl
  have qf0 := (blk hqF).2.2 0
  have qf1 := (blk hqF).2.2 1
  have qf2 := (blk hqF).2.2 2
  have qf3 := (blk hqF).2.2 3
  have qf4 := (blk hqF).2.2 4
  have qf5 := (blk hqF).2.2 5
  have qf6 := (blk hqF).2.2 6
  have p0 : F.cell? ⟨w3.heap.size, 0, none⟩ = some (.int .i64 ti.op) := (blk hpF).2.1 0 _ rfl
  have p1 : F.cell? ⟨w3.heap.size, 1, none⟩ = some (.string ti.name) := (blk hpF).2.1 1 _ rfl
  have p2 : F.cell? ⟨w3.heap.size, 2, none⟩ = some (.int .i64 ti.sort) := (blk hpF).2.1 2 _ rfl
  have p3 : F.cell? ⟨w3.heap.size, 3, none⟩ = some (.string ti.num) := (blk hpF).2.1 3 _ rfl
  have p4 : F.cell? ⟨w3.heap.size, 4, none⟩ = some (.slice aL nL cL) := (blk hpF).2.1 4 _ rfl
  have p5 : F.cell? ⟨w3.heap.size, 5, none⟩ = some (.slice aV nV cV) := (blk hpF).2.1 5 _ rfl
  have p6 : F.cell? ⟨w3.heap.size, 6, none⟩ = some (.slice aP nP cP) := (blk hpF).2.1 6 _ rfl
  have HF := hide (And.intro hWF (And.intro hqF (And.intro hBF (And.intro hkF (And.intro hsF (And.intro hS (And.intro hW hsD)))))))
  have hne : w3.heap.size ≠ w.heap.size := by have := (Array.getElem?_eq_some_iff.1 hq3).1; omega
  have hne2 : w.heap.size ≠ w3.heap.size := fun e => hne e.symm
  clear hWF hqF hBF hkF hsF hS hW hsD hBD hqD hbE hsE hcE hhE hWE hq3 hpF hW3 hS3 hX3 hB3 enL enV enP hr3
  go_wp2
  obtain ⟨hWF, hqF, hBF, hkF, hsF, hS, hW, hsD⟩ := unhide HF
  have hG : (put7 F w.heap.size 0 (.int .i64 ti.op) (.string ti.name) (.int .i64 ti.sort) (.string ti.num) (.slice aL nL cL) (.slice aV nV cV) (.slice aP nP cP)).heap[w.heap.size]? = some (.cells [.int .i64 ti.op, .string ti.name, .int .i64 ti.sort, .string ti.num, .slice aL nL cL, .slice aV nV cV, .slice aP nP cP].toArray 26) := fill7 hqF
  have hBG : But r w (put7 F w.heap.size 0 (.int .i64 ti.op) (.string ti.name) (.int .i64 ti.sort) (.string ti.num) (.slice aL nL cL) (.slice aV nV cV) (.slice aP nP cP)) := put7_but hBF (Nat.le_refl _)
  have hsG : (put7 F w.heap.size 0 (.int .i64 ti.op) (.string ti.name) (.int .i64 ti.sort) (.string ti.num) (.slice aL nL cL) (.slice aV nV cV) (.slice aP nP cP)).heap.size = F.heap.size := by unfold put7; simp
  have hWG := (put7_far (w := F) (m := 0) (a := .int .i64 ti.op) (b := .string ti.name) (c := .int .i64 ti.sort) (d := .string ti.num) (e := .slice aL nL cL) (f := .slice aV nV cV) (h := .slice aP nP cP) (show r ≠ w.heap.size by omega)).trans hWF
  have hSG := hS.butr hBG hBr hBw hW (by decide)
  have hIG : IsP (put7 F w.heap.size 0 (.int .i64 ti.op) (.string ti.name) (.int .i64 ti.sort) (.string ti.num) (.slice aL nL cL) (.slice aV nV cV) (.slice aP nP cP)) (FB w.heap.size (put7 F w.heap.size 0 (.int .i64 ti.op) (.string ti.name) (.int .i64 ti.sort) (.string ti.num) (.slice aL nL cL) (.slice aV nV cV) (.slice aP nP cP))) dl _ ti := (unhide HV).keep (fun k hk => hk.keep (by omega) (by omega) ((put7_far (by have := hk.1; omega)).trans (hkF k hk))) (by omega)
  exact ⟨rfl, _, res_row (cs := [.int .i64 ti.op, .string ti.name, .int .i64 ti.sort, .string ti.num, .slice aL nL cL, .slice aV nV cV, .slice aP nP cP]) rfl rfl (range_block hG) rfl rfl rfl, _, rfl, hIG, hWG, hSG, hBG⟩
end Go.Proofs.YtiockiilenjjaaaDoor

namespace Go.Proofs.YtiockiilenjjaaaDoor
open Go Go.RowKit
theorem icp_no {w : World} {B : Nat} : ∀ {d b o : Nat} {t : Tm}, TmAt w B d b o t → ∀ hid, t.icp (fun _ => none) hid = t.icp0
  | 0, _, _, _, h, _ => h.elim
  | d + 1, b, o, ⟨op, name, sort, num, l, vars, pat⟩, ⟨hb, h1, h2, aL, aV, aP, cL, cV, cP, hr, hL, hV, hP, hPl⟩, hid => by
    have hl : ∀ (q : List Tm) (a : Option Addr) (c : Nat), Row B a q.length c 7 (fun b o j => ∀ u, q[j]? = some u → TmAt w B d b o u) → ∀ hid, (q.map fun u => Tm.icp (fun _ => none) u hid) = q.map fun u => Tm.icp0 u := fun q a c hq hid => by
      refine List.map_congr_left fun u hu => ?_
      obtain ⟨j, hj, e⟩ := List.getElem_of_mem hu
      obtain ⟨b', off, _, _, hjj⟩ := hq.2.2 (by omega)
      exact icp_no (hjj j hj u (by rw [List.getElem?_eq_getElem hj, e])) hid
    rw [Tm.icp, Tm.icp0, rep_no]
    simp only
    rw [hl l aL cL hL, hl pat aP cP hP]
theorem inst_some {sub : ByteArray → Option Tm} {t u : Tm} {hid : ByteArray → Int} (h : rep sub hid t.op t.name = some u) : t.inst sub hid = u.inst0 ∧ t.icp sub hid = u.icp0 := by
  cases t
  rw [Tm.inst, Tm.icp]
  simp only at h
  rw [h]
  exact ⟨rfl, rfl⟩
set_option maxRecDepth 1000000 in
set_option maxHeartbeats 16000000 in
theorem yterm_some {sub : ByteArray → Option Tm} {dl d : Nat} {sv : Value} (hN : YTermC (fun _ => none) 0 (.map none) dl) (hSub : ∀ k u, sub k = some u → u.wt ≤ 400000) {B r : Nat} {w : World} {b o : Nat} {t u : Tm} {hid : ByteArray → Int} {cp un : Nat} (hT : TmAt w B (d + 1) b o t) (hS : SLv w B sv dl sub hid) (hW : w.heap[r]? = some (CV sv cp)) (hBr : B ≤ r) (hcp : cp + t.icp sub hid ≤ 21474836) (hu : un + (d + 1) + dl ≤ 65536) (hr : rep sub hid t.op t.name = some u) :
    Calls Tryd.prog 77 #[.pointer (some ⟨r, 0, none⟩), .pointer (some ⟨b, o, none⟩), .int .i64 un] w fun e w' => ∃ v, e = .returned v ∧ IsP w' (FB w.heap.size w') (d + 1 + dl) v (t.inst sub hid) ∧ w'.heap[r]? = some (CV sv (cp + t.icp sub hid)) ∧ SLv w' B sv dl sub hid ∧ XF B r w w' ∧ (sv = .map none → But r w w') := by
  obtain ⟨ei, ec⟩ := inst_some hr
  rw [ec] at hcp
  rw [ei, ec]
  have hwt := hSub _ _ (rep_sub hr)
  have hrw := (Array.getElem?_eq_some_iff.1 hW).1
  have hBw : B ≤ w.heap.size := by omega
  obtain ⟨hb, _, _, aL, aV, aP, cL, cV, cP, hrg, hRL, hV, hP, _⟩ := hT
  have hbw : b < w.heap.size := by omega
  obtain ⟨ti, eti⟩ : ∃ ti, u.inst0 = ti := ⟨_, rfl⟩
  rw [eti]
  obtain ⟨A, eA, hbA, hsA, hcA, hhA⟩ := box_new w #[.int .i64 0, .string ⟨#[]⟩, .int .i64 0, .string ⟨#[]⟩, .slice none 0 0, .slice none 0 0, .slice none 0 0] 26
  have c0 : A.cell? ⟨b, o, none⟩ = some (.int .i64 t.op) := (hbA.cell (p := ⟨b, o, none⟩) hbw).trans (hrg 0 _ rfl)
  have hWA : A.heap[r]? = some (CV sv cp) := (hbA.block r hrw).trans hW
  have HG := hide hrg
  have HI := hide (And.intro hS (And.intro hW (And.intro hbA (And.intro hhA (And.intro hsA (And.intro eti (And.intro hr (And.intro hcp hwt))))))))
  have HN := hide hN
  have hbA1 : b < A.heap.size := by omega
  have HWA := hide hWA
  have hrA : r < A.heap.size := by omega
  clear hrg hRL hV hP hS hW hr ei ec hN eti hbA hhA hsA hcA hcp hwt hSub hWA
  go_enter Tryd.func77, Tryd.ntmps77
  go_wp2_with fail
  refine (view_any b o t.op A c0 hbA1).mono ?_
  rintro e w1 ⟨rfl, hb1⟩
  have r01 : w1.cell? ⟨r, 0, none⟩ = some sv := (blk ((hb1.block r hrA).trans (unhide HWA))).2.1 0 _ rfl
  have HB1 := hide hb1
  clear hb1 c0
  go_wp2_with fail
  obtain ⟨hS, hW, hbA, hhA, hsA, eti, hr, hcp, hwt⟩ := unhide HI
  have hb01 : Below w.heap.size w w1 := hbA.trans ((unhide HB1).mono (by omega))
  refine (of_any (hS.below hb01 (Nat.le_refl _)) (by have := hb01.size; omega) (by have := hb01.size; omega) ((hb01.cell (p := ⟨b, o + 1, none⟩) hbw).trans ((unhide HG) 1 _ rfl))).mono ?_
  rintro e w2 ⟨hb2, h2⟩
  rw [hr] at h2
  rcases h2 with ⟨h, _⟩ | ⟨u', q, bt, ot, hu', rfl, hq, hTu⟩
  · cases h
  injection hu' with hu'
  subst hu'
  have hb02 : Below w.heap.size w w2 := hb01.trans (hb2.mono hb01.size)
  have hW2 := (hb02.block r hrw).trans hW
  have hq0 : w2.cell? ⟨q, 0, none⟩ = some (.pointer (some ⟨bt, ot, none⟩)) := (blk hq).2.1 0 _ rfl
  have hz2 : w2.heap[w.heap.size]? = some (.cells #[.int .i64 0, .string ⟨#[]⟩, .int .i64 0, .string ⟨#[]⟩, .slice none 0 0, .slice none 0 0, .slice none 0 0] 26) := by
    rw [hb2.block _ (by have := (unhide HB1).size; omega), (unhide HB1).block _ (by omega)]
    exact hhA
  have hS2 := hS.below hb02 (Nat.le_refl _)
  have eno := icp_no hTu (fun _ => 0)
  have HAs := hide (as_any (cp := cp) (u := un) (unhide HN) hTu hS2 hW2 hBr (by rw [eno]; exact hcp) (by omega) hwt)
  rw [eno, eti] at HAs
  have H2 := hide (And.intro hb02 hz2)
  clear hS hW hbA hhA hsA eti hr hcp hwt hb01 hb2 hb02 hW2 hz2 hS2 eno HB1 HI hq hTu
  go_wp2_with fail
  refine (unhide HAs).mono ?_
  rintro e w3 ⟨v, rfl, hI3, hW3, hS3, hB3⟩
  obtain ⟨hb02, hz2⟩ := unhide H2
  have hqw : w.heap.size ≠ r := by omega
  have hz3 := hB3.blk hz2 hqw
  have hV := hI3
  obtain ⟨h1', h2', aL, aV, aP, cL, cV, cP, rfl, hL, hV', hP'⟩ := hI3
  simp only [tcells, List.toArray] at hV ⊢
  have HV := hide hV
  obtain ⟨nL, enL⟩ : ∃ n, ti.l.length = n := ⟨_, rfl⟩
  obtain ⟨nV, enV⟩ : ∃ n, ti.vars.length = n := ⟨_, rfl⟩
  obtain ⟨nP, enP⟩ : ∃ n, ti.pat.length = n := ⟨_, rfl⟩
  rw [enL, enV, enP] at HV ⊢
  have q0 : w3.cell? ⟨w.heap.size, 0, none⟩ = some (.int .i64 0) := (blk hz3).2.1 0 _ rfl
  have qf0 := (blk hz3).2.2 0
  have q1 : w3.cell? ⟨w.heap.size, 1, none⟩ = some (.string ⟨#[]⟩) := (blk hz3).2.1 1 _ rfl
  have qf1 := (blk hz3).2.2 1
  have q2 : w3.cell? ⟨w.heap.size, 2, none⟩ = some (.int .i64 0) := (blk hz3).2.1 2 _ rfl
  have qf2 := (blk hz3).2.2 2
  have q3 : w3.cell? ⟨w.heap.size, 3, none⟩ = some (.string ⟨#[]⟩) := (blk hz3).2.1 3 _ rfl
  have qf3 := (blk hz3).2.2 3
  have q4 : w3.cell? ⟨w.heap.size, 4, none⟩ = some (.slice none 0 0) := (blk hz3).2.1 4 _ rfl
  have qf4 := (blk hz3).2.2 4
  have q5 : w3.cell? ⟨w.heap.size, 5, none⟩ = some (.slice none 0 0) := (blk hz3).2.1 5 _ rfl
  have qf5 := (blk hz3).2.2 5
  have q6 : w3.cell? ⟨w.heap.size, 6, none⟩ = some (.slice none 0 0) := (blk hz3).2.1 6 _ rfl
  have qf6 := (blk hz3).2.2 6
  have hBw3 : But r w w3 := (But.of hb02 (Nat.le_refl _)).trans hB3
  have hls : w.heap.size < w2.heap.size := (Array.getElem?_eq_some_iff.1 hz2).1
  have HF := hide (And.intro hz3 (And.intro hW3 (And.intro hS3 (And.intro hBw3 (And.intro hls hB3.size)))))
  clear hb02 hz2 hz3 hV h1' h2' hL hV' hP' enL enV enP hBw3 hW3 hS3 hB3 hls hq0 r01
  go_wp2
  obtain ⟨hz3, hW3, hS3, hBw3, hls, hsz⟩ := unhide HF
  have hG : (put7 w3 w.heap.size 0 (.int .i64 ti.op) (.string ti.name) (.int .i64 ti.sort) (.string ti.num) (.slice aL nL cL) (.slice aV nV cV) (.slice aP nP cP)).heap[w.heap.size]? = some (.cells [.int .i64 ti.op, .string ti.name, .int .i64 ti.sort, .string ti.num, .slice aL nL cL, .slice aV nV cV, .slice aP nP cP].toArray 26) := fill7 hz3
  have hBG : But r w (put7 w3 w.heap.size 0 (.int .i64 ti.op) (.string ti.name) (.int .i64 ti.sort) (.string ti.num) (.slice aL nL cL) (.slice aV nV cV) (.slice aP nP cP)) := put7_but hBw3 (Nat.le_refl _)
  have hsG : (put7 w3 w.heap.size 0 (.int .i64 ti.op) (.string ti.name) (.int .i64 ti.sort) (.string ti.num) (.slice aL nL cL) (.slice aV nV cV) (.slice aP nP cP)).heap.size = w3.heap.size := by unfold put7; simp
  have hWG := (put7_far (w := w3) (m := 0) (a := .int .i64 ti.op) (b := .string ti.name) (c := .int .i64 ti.sort) (d := .string ti.num) (e := .slice aL nL cL) (f := .slice aV nV cV) (h := .slice aP nP cP) (show r ≠ w.heap.size by omega)).trans hW3
  have hSG := hS3.but (put7_below (m := 0) (a := .int .i64 ti.op) (b := .string ti.name) (c := .int .i64 ti.sort) (d := .string ti.num) (e := .slice aL nL cL) (f := .slice aV nV cV) (h := .slice aP nP cP) hBw) (fun q hq => put7_far hq) hz3 (by decide)
  have hIG : IsP (put7 w3 w.heap.size 0 (.int .i64 ti.op) (.string ti.name) (.int .i64 ti.sort) (.string ti.num) (.slice aL nL cL) (.slice aV nV cV) (.slice aP nP cP)) (FB w.heap.size (put7 w3 w.heap.size 0 (.int .i64 ti.op) (.string ti.name) (.int .i64 ti.sort) (.string ti.num) (.slice aL nL cL) (.slice aV nV cV) (.slice aP nP cP))) (d + 1 + dl) _ ti := (unhide HV).keep (fun k hk => hk.keep (by omega) (by omega) (put7_far (by have := hk.1; omega))) (by omega)
  exact ⟨rfl, _, res_row (cs := [.int .i64 ti.op, .string ti.name, .int .i64 ti.sort, .string ti.num, .slice aL nL cL, .slice aV nV cV, .slice aP nP cP]) rfl rfl (range_block hG) rfl rfl rfl, _, rfl, hIG, hWG, hSG, XF.ofBut hBG hBr, fun _ => hBG⟩
end Go.Proofs.YtiockiilenjjaaaDoor
