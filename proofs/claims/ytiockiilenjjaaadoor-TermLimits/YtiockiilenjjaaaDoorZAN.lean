/- What a filled term weighs: a node that stands. -/
import Derived.Test.YtiockiilenjjaaaDoorZAM
import Derived.Deep.RegionWith
set_option linter.unusedVariables false
set_option linter.unusedSimpArgs false

/- Slots: asked, hidden. -/
namespace Go.Proofs.YtiockiilenjjaaaDoor
open Go Go.RowKit
/-- What a node is replaced by. -/
def rep (sub : ByteArray → Option Tm) (hid : ByteArray → Int) (op : Int) (name : ByteArray) : Option Tm := if op = 18 then (match sub name with
    | some u => if hid name = 0 then some u else none
    | none => none) else none
def OPost (w : World) (B dl : Nat) (hid : ByteArray → Int) (name : ByteArray) (r : Option Tm) (e : Ending) (w' : World) : Prop := Below w.heap.size w w' ∧ ((r = none ∧ e = .returned (.pointer none)) ∨ ∃ u q bt ot, r = some u ∧ e = .returned (.pointer (some ⟨q, 0, none⟩)) ∧ w'.heap[q]? = some (.cells #[.pointer (some ⟨bt, ot, none⟩), .int .i64 u.size, .int .i64 u.depth, .bool u.ground, .int .i64 (hid name)] 151) ∧ TmAt w' B dl bt ot u)
set_option maxRecDepth 1000000 in
set_option maxHeartbeats 16000000 in
theorem of_any {w : World} {B dl b o : Nat} {sv : Value} {sub : ByteArray → Option Tm} {hid : ByteArray → Int} {op : Int} {name : ByteArray} (hS : SLv w B sv dl sub hid) (hB : B ≤ w.heap.size) (hb : b < w.heap.size) (c1 : w.cell? ⟨b, o + 1, none⟩ = some (.string name)) :
    Calls Tryd.prog 93 #[sv, .iface (kindOf op) (.agg #[.pointer (some ⟨b, o, none⟩)])] w (OPost w B dl hid name (rep sub hid op name)) := by
  by_cases h18 : op = 18
  · have hkk : kindOf op = 109 := by rw [h18]; rfl
    rw [hkk]
    have ta0 := fun w => ta_yes (ty := 109) (v := .agg #[.pointer (some ⟨b, o, none⟩)]) (w := w) rfl rfl
    obtain ⟨V, eV, hbV, hsV, hcV, hhV⟩ := box_new w #[.pointer (some ⟨b, o, none⟩)] 109
    have v0 : V.cell? ⟨w.heap.size, 0, none⟩ = some (.pointer (some ⟨b, o, none⟩)) := hcV 0 _ rfl
    have v1 : V.cell? ⟨b, o + 1, none⟩ = some (.string name) := (hbV.cell (p := ⟨b, o + 1, none⟩) hb).trans c1
    rcases hS.asked name with ⟨hs, hlk⟩ | ⟨u, q, bt, ot, hs, hlk, hqB, hq, hTu⟩
    · have hlkV := hlk V hbV
      have hr : rep sub hid op name = none := by unfold rep; rw [if_pos h18, hs]
      rw [hr]
      have HB := hide hbV
      clear hkk hbV hsV hcV hhV hs hlk hr hS h18 c1
      go_enter Tryd.func93, Tryd.ntmps93
      go_wp2
      go_ret
      exact ⟨unhide HB, .inl ⟨rfl, rfl⟩⟩
    · have hlkV := hlk V hbV
      have hqV := (hbV.block q (Array.getElem?_eq_some_iff.1 hq).1).trans hq
      have q4 : V.cell? ⟨q, 4, none⟩ = some (.int .i64 (hid name)) := (blk hqV).2.1 4 _ rfl
      have HV := hide (And.intro hbV (And.intro hqV (hTu.more (hbV.mono hB) (Nat.le_refl _) (Nat.le_refl _))))
      by_cases h0 : hid name = 0
      · have hr : rep sub hid op name = some u := by unfold rep; rw [if_pos h18, hs]; simp [h0]
        rw [hr]
        rw [h0] at q4
        have e0 := hide h0
        clear hkk hbV hsV hcV hhV hs hlk hr hS h18 c1 hqV hTu hq h0 hqB
        go_enter Tryd.func93, Tryd.ntmps93
        go_wp2
        go_ret
        exact ⟨(unhide HV).1, .inr ⟨u, q, bt, ot, rfl, rfl, (unhide HV).2.1, (unhide HV).2.2⟩⟩
      · have hr : rep sub hid op name = none := by unfold rep; rw [if_pos h18, hs]; simp [h0]
        rw [hr]
        have e0 : (hid name == 0) = false := by simp [h0]
        clear hkk hbV hsV hcV hhV hs hlk hr hS h18 c1 hqV hTu hq h0 hqB
        go_enter Tryd.func93, Tryd.ntmps93
        go_wp2
        go_ret
        exact ⟨(unhide HV).1, .inl ⟨rfl, rfl⟩⟩
  · have hk1 : kindOf op ≠ 109 := kindOf_var h18
    have hr : rep sub hid op name = none := by unfold rep; rw [if_neg h18]
    rw [hr]
    generalize kindOf op = kk at *
    have ta0 := fun w => ta_no (ty := 109) (v := .agg #[.pointer (some ⟨b, o, none⟩)]) (z := .agg #[.pointer none]) (w := w) hk1 rfl rfl (by go_simp)
    clear h18 hr hS
    go_enter Tryd.func93, Tryd.ntmps93
    go_wp2
    go_ret
    exact ⟨(Below.refl _ w).alloc (Nat.le_refl _) _, .inl ⟨rfl, rfl⟩⟩
/-- How often names are hidden behind some binders more, or fewer. -/
def hidV (s : Int) (l : List (ByteArray × Int)) (hid : ByteArray → Int) : ByteArray → Int := fun k => hid k + s * (cnt k l : Int)
theorem hidV_snoc (s : Int) (l : List (ByteArray × Int)) (v : ByteArray × Int) (hid : ByteArray → Int) : hidV s (l ++ [v]) hid = fun j => if j = v.1 then hidV s l hid v.1 + s else hidV s l hid j := by
  funext j
  unfold hidV
  rw [cnt_snoc]
  by_cases h : j = v.1
  · subst h
    simp only [if_true]
    rw [Int.natCast_add, Int.mul_add]
    simp
    omega
  · simp [h]
theorem hidV_back (l : List (ByteArray × Int)) (hid : ByteArray → Int) : hidV (-1) l (hidV 1 l hid) = hid := by
  funext k
  unfold hidV
  omega
theorem hidV_none {sub : ByteArray → Option Tm} {w : World} {B dl : Nat} {sv : Value} {hid hid' : ByteArray → Int} (h : SLv w B sv dl sub hid) (he : ∀ k, sub k ≠ none → hid k = hid' k) : SLv w B sv dl sub hid' := by
  refine h.imp id ?_
  rintro ⟨rs, e, hB, es, h1, h2, h3⟩
  refine ⟨rs, e, hB, es, h1, fun k => (h2 k).imp id ?_, h3⟩
  rintro ⟨u, q, bt, ot, e1, e2, e3, e4, e5⟩
  exact ⟨u, q, bt, ot, e1, e2, e3, by rw [← he k (by rw [e1]; simp)]; exact e4, e5⟩
set_option maxRecDepth 1000000 in
set_option maxHeartbeats 16000000 in
theorem hide_any {w : World} {B dl n c : Nat} {a : Option Addr} {sv : Value} {sub : ByteArray → Option Tm} {hid : ByteArray → Int} {x : List (ByteArray × Int)} {s : Int} (hS : SLv w B sv dl sub hid) (hx : Row B a n c 2 (BR w x)) (hn : n = x.length) (hB : B ≤ w.heap.size) (hs : s = 1 ∨ s = -1) (hh : ∀ k, -500000 ≤ hid k ∧ hid k ≤ 500000) (hl : x.length ≤ 400000) :
    Calls Tryd.prog 94 #[sv, .slice a n c, .int .i64 s] w fun e w' => e = .returned (.tuple #[]) ∧ SLv w' B sv dl sub (hidV s x hid) ∧ (∀ r, XF B r w w') ∧ (sv = .map none → Below w.heap.size w w') := by
  have HX := hide hx
  have HN := hide hn
  have hmax : n ≤ 281474976710656 := by have := hx.1; have := hx.2.1; omega
  have HS := hide hS
  have HH := hide (And.intro hh hl)
  have hsb : -1 ≤ s ∧ s ≤ 1 := by omega
  have HSb := hide hs
  clear hx hn hS hh hl hs
  go_enter Tryd.func94, Tryd.ntmps94
  go_wp2
  go_loopw [11] (fun iv wr => ∃ i : Nat, i ≤ n ∧ iv = .int .i64 (i : Int) ∧ SLv wr B sv dl sub (hidV s (x.take i) hid) ∧ (∀ r, XF B r w wr) ∧ (sv = .map none → Below w.heap.size w wr)) (fun iv _ => (n - (intOf iv).toNat))
  case atStart => exact ⟨0, Nat.zero_le _, rfl, hidV_none (unhide HS) (fun k _ => by simp [hidV, cnt]), fun r => XF.refl B r w, fun _ => Below.refl _ w⟩
  case round =>
    obtain ⟨i, hi, rfl, hSi, hXi, hNi⟩ := hrel
    by_cases hlt : i < n
    · have h1 : i < x.length := by have := unhide HN; omega
      have hd1 : decide ((i : Int) < (n : Int)) = true := by simp; omega
      have hIi : (i : Int) < (n : Int) := by omega
      have hcap : (i : Int) < 281474976710656 := by omega
      obtain ⟨bv, ov, rfl, hbvB, hj⟩ := (unhide HX).2.2 (by omega)
      obtain ⟨rg, hfit⟩ := hj i (by omega) _ (List.getElem?_eq_getElem h1)
      have hbel : Below B w wr := (hXi 0).below hB
      have hsn : x.take (i + 1) = x.take i ++ [x[i]] := take_more h1
      have hrange : -900000 ≤ hidV s (x.take i) hid x[i].1 ∧ hidV s (x.take i) hid x[i].1 ≤ 900000 := by
        obtain ⟨hh, hl⟩ := unhide HH
        have h2 := hh x[i].1
        have h3 := cnt_le x[i].1 (x.take i)
        rw [List.length_take] at h3
        unfold hidV
        rcases unhide HSb with rfl | rfl <;> omega
      generalize hu : x[i] = u at *
      obtain ⟨u1, u2⟩ := u
      have p0 : wr.cell? ⟨bv, ov + i * 2, none⟩ = some (.string u1) := (hbel.cell (p := ⟨bv, ov + i * 2, none⟩) hbvB).trans (rg 0 _ rfl)
      have p1 : wr.cell? ⟨bv, ov + i * 2 + 1, none⟩ = some (.int .i64 u2) := (hbel.cell (p := ⟨bv, ov + i * 2 + 1, none⟩) hbvB).trans (rg 1 _ rfl)
      have hbvr : bv < wr.heap.size := by have := (hXi 0).size; omega
      obtain ⟨V, eV, hbV, hsV, hcV, hhV⟩ := box_new wr #[.string u1, .int .i64 u2] 45
      have v0 : V.cell? ⟨wr.heap.size, 0, none⟩ = some (.string u1) := hcV 0 _ rfl
      have hSV := hSi.below hbV (Nat.le_refl _)
      have hXV : ∀ r, XF B r w V := fun r => (hXi r).trans (XF.of hbV (Nat.le_refl _))
      have hBV : B ≤ V.heap.size := by have := (hXi 0).size; omega
      have hNV : sv = .map none → Below w.heap.size w V := fun e => (hNi e).trans (hbV.mono (hNi e).size)
      rcases hSV.asked u1 with ⟨hs0, hlk⟩ | ⟨t, q, bt, ot, hs0, hlk, hqB, hq, hTu⟩
      · have hlkV := hlk V (Below.refl _ V)
        have hfin := hidV_none (hid' := hidV s (x.take (i + 1)) hid) hSV (fun k hk => by
          rw [hsn, hidV_snoc]
          have : k ≠ u1 := fun e => by subst e; exact hk hs0
          simp [this])
        have HF := hide (And.intro hfin (And.intro hXV hNV))
        clear hNV hNi hj rg hfit hbel hsn hrange hu hbV hsV hcV hhV hSV hXV hs0 hlk hSi hXi hfin
        go_wp2
        exact ⟨⟨i + 1, by omega, rfl, unhide HF⟩, by simp only [intOf]; omega⟩
      · have hlkV := hlk V (Below.refl _ V)
        obtain ⟨rs, rfl, hSL⟩ : ∃ rs, sv = .map (some rs) ∧ SL V B rs dl sub (hidV s (x.take i) hid) := by
          rcases hSV with ⟨rfl, h⟩ | h
          · rw [h u1] at hs0; cases hs0
          · exact h
        obtain ⟨hS9, hX9⟩ := hSL.hide hBV hs0 hq hlkV hqB (hidV s (x.take i) hid u1 + s)
        have q4 : V.cell? ⟨q, 4, none⟩ = some (.int .i64 (hidV s (x.take i) hid u1)) := (blk hq).2.1 4 _ rfl
        have qf := (blk hq).2.2 4
        have hfin : SLv (V.setCell ⟨q, 4, none⟩ (.int .i64 (hidV s (x.take i) hid u1 + s))) B (.map (some rs)) dl sub (hidV s (x.take (i + 1)) hid) := .inr ⟨rs, rfl, by rw [hsn, hidV_snoc]; exact hS9⟩
        have HF := hide (And.intro hfin (And.intro (fun r => (hXV r).trans (hX9 r)) (show Value.map (some rs) = .map none → Below w.heap.size w (V.setCell ⟨q, 4, none⟩ (.int .i64 (hidV s (x.take i) hid u1 + s))) from fun e => by cases e)))
        clear hNV hNi hj rg hfit hbel hsn hu hbV hsV hcV hhV hSV hXV hs0 hlk hSi hXi hfin hSL hS9 hX9 hq hTu hqB
        generalize hidV s (x.take i) hid u1 = hv at *
        go_wp2
        exact ⟨⟨i + 1, by omega, rfl, unhide HF⟩, by simp only [intOf]; omega⟩
    · have hin : i = n := by omega
      have hd1 : decide ((i : Int) < (n : Int)) = false := by simp; omega
      rw [List.take_of_length_le (by have := unhide HN; omega)] at hSi
      have HF := hide (And.intro hSi (And.intro hXi hNi))
      clear hSi hXi hNi hin
      go_wp2
      go_end0
      exact ⟨rfl, unhide HF⟩
end Go.Proofs.YtiockiilenjjaaaDoor

/- The slots of some variables. -/
namespace Go.Proofs.YtiockiilenjjaaaDoor
open Go Go.RowKit
/-- What stands for a name: of several of one name the first one counts. -/
def subV : List (ByteArray × Int) → List Tm → ByteArray → Option Tm
  | v :: vs, t :: ts, k => if k = v.1 then some t else subV vs ts k
  | _, _, _ => none
theorem subV_snoc (v : ByteArray × Int) (t : Tm) (k : ByteArray) : ∀ (vs : List (ByteArray × Int)) (ts : List Tm), vs.length = ts.length → subV (vs ++ [v]) (ts ++ [t]) k = match subV vs ts k with
    | some u => some u
    | none => if k = v.1 then some t else none
  | [], [], _ => rfl
  | a :: vs, b :: ts, h => by
    show (if k = a.1 then some b else subV (vs ++ [v]) (ts ++ [t]) k) = match (if k = a.1 then some b else subV vs ts k) with
      | some u => some u
      | none => if k = v.1 then some t else none
    by_cases hk : k = a.1
    · simp [hk]
    · simp only [if_neg hk]
      exact subV_snoc v t k vs ts (by simpa using h)
def slotC (bt ot : Nat) (u : Tm) : Array Value := #[.pointer (some ⟨bt, ot, none⟩), .int .i64 u.size, .int .i64 u.depth, .bool u.ground, .int .i64 0]
theorem SL.new (w : World) {B : Nat} (hB : B ≤ w.heap.size) (dl : Nat) : SL (w.alloc (.map #[] 0)) B w.heap.size dl (fun _ => none) (fun _ => 0) :=
  ⟨hB, [], NM.new w, fun _ => .inl ⟨rfl, rfl⟩, fun _ _ _ h => by cases h⟩
theorem SL.lt {w : World} {B rs dl : Nat} {sub : ByteArray → Option Tm} {hid : ByteArray → Int} (h : SL w B rs dl sub hid) : rs < w.heap.size := by
  obtain ⟨_, es, h1, _⟩ := h
  exact h1.lt
set_option maxRecDepth 100000 in
/-- One more slot. -/
theorem SL.add {A A' : World} {B rs dl q bt ot : Nat} {sub : ByteArray → Option Tm} {k : ByteArray} {u : Tm} (h : SL A B rs dl sub (fun _ => 0)) (hB : B ≤ A.heap.size) (hs : sub k = none) (hb : Below A.heap.size A A') (hq : A.heap.size ≤ q) (hc : A'.heap[q]? = some (.cells (slotC bt ot u) 151)) (hT : TmAt A B dl bt ot u) :
    ∃ W9, (Instr.mapUpdate 89 (.map (some rs)) (.string k) (.pointer (some ⟨q, 0, none⟩))).run Tryd.prog A' = .ok () W9 ∧ PutAt rs A' W9 ∧ SL W9 B rs dl (fun j => match sub j with
      | some u => some u
      | none => if j = k then some u else none) (fun _ => 0) := by
  have hlt := h.lt
  have hS' := h.below hb (Nat.le_refl _)
  obtain ⟨hBr, es, h1, h2, h3⟩ := h
  have hN := h1.below hb h1.lt
  obtain ⟨W9, hrun, hput, hN9⟩ := nm_update (P := Tryd.prog) (k := k) (v := .pointer (some ⟨q, 0, none⟩)) umS ukS hN
  have hbel : Below B A W9 := (hb.mono hB).trans ⟨hput.os, hput.tape, hput.output, by rw [hput.size]; exact Nat.le_refl _, fun j hj => hput.block j (by omega)⟩
  have hlk : look k es = none := by
    rcases h2 k with ⟨_, e⟩ | ⟨u', _, _, _, e, _⟩
    · exact e
    · rw [hs] at e; cases e
  have hcell : ∀ (q' : Nat) (cs : Array Value) (ty : TypeId), A'.heap[q']? = some (.cells cs ty) → W9.heap[q']? = some (.cells cs ty) := fun q' cs ty e => by
    rw [hput.block q' (fun e' => by
      obtain ⟨a, c, k1, _⟩ := hN
      rw [e', k1] at e
      cases e)]
    exact e
  have hold : ∀ (k' : ByteArray) (q' : Nat), look k' es = some (.pointer (some ⟨q', 0, none⟩)) → q' < A.heap.size := fun k' q' e => by
    rcases h2 k' with ⟨_, e2⟩ | ⟨u', q2, bt', ot', e1, e2, e3, e4, e5⟩
    · rw [e2] at e; cases e
    · rw [e2] at e
      injection e with e
      injection e with e
      injection e with e
      injection e with e
      subst e
      exact (Array.getElem?_eq_some_iff.1 e4).1
  refine ⟨W9, hrun, hput, hBr, _, hN9, fun j => ?_, fun k1 k2 q' e1 e2 => ?_⟩
  · simp only [look_put]
    by_cases hj : j = k
    · subst hj
      refine .inr ⟨u, q, bt, ot, by rw [hs]; simp, by simp, by omega, ?_, hT.more hbel (Nat.le_refl _) (Nat.le_refl _)⟩
      exact hcell q _ _ hc
    · rcases h2 j with ⟨e1, e2⟩ | ⟨u', q', bt', ot', e1, e2, e3, e4, e5⟩
      · exact .inl ⟨by rw [e1]; simp [hj], by rw [if_neg hj]; exact e2⟩
      · refine .inr ⟨u', q', bt', ot', by rw [e1], by rw [if_neg hj]; exact e2, e3, hcell q' _ _ ?_, e5.more hbel (Nat.le_refl _) (Nat.le_refl _)⟩
        exact (hb.block q' (Array.getElem?_eq_some_iff.1 e4).1).trans e4
  · rw [look_put] at e1 e2
    by_cases g1 : k1 = k <;> by_cases g2 : k2 = k
    · rw [g1, g2]
    · rw [if_pos g1] at e1
      rw [if_neg g2] at e2
      have := hold _ _ e2
      injection e1 with e1
      injection e1 with e1
      injection e1 with e1
      injection e1 with e1
      omega
    · rw [if_neg g1] at e1
      rw [if_pos g2] at e2
      have := hold _ _ e1
      injection e2 with e2
      injection e2 with e2
      injection e2 with e2
      injection e2 with e2
      omega
    · rw [if_neg g1] at e1
      rw [if_neg g2] at e2
      exact h3 k1 k2 q' e1 e2
set_option maxRecDepth 1000000 in
set_option maxHeartbeats 16000000 in
theorem newSlots_any {w : World} {B dl n c m cm : Nat} {a am : Option Addr} {x : List (ByteArray × Int)} {l : List Tm} (hx : Row B a n c 2 (BR w x)) (hn : n = x.length) (hl : Row B am m cm 7 (fun b o j => ∀ u, l[j]? = some u → TmAt w B dl b o u)) (hm : m = l.length) (hlen : x.length = l.length) (hB : B ≤ w.heap.size) (hsz : ∀ u ∈ l, u.size ≤ 65536 ∧ u.depth ≤ 65537) :
    Calls Tryd.prog 48 #[.slice a n c, .slice am m cm] w fun e w' => ∃ rs, e = .returned (.map (some rs)) ∧ w.heap.size ≤ rs ∧ SL w' B rs dl (subV x l) (fun _ => 0) ∧ Below w.heap.size w w' := by
  have HX := hide hx
  have HL := hide hl
  have HN := hide (And.intro hn (And.intro hm hlen))
  have hmax : n ≤ 281474976710656 := by have := hx.1; have := hx.2.1; omega
  have km1 : (Instr.makeMap 89 (some (.int .i64 (n : Int)))).run Tryd.prog w = .ok (.map (some w.heap.size)) (w.alloc (.map #[] 0)) := rfl
  have H0 := hide (And.intro (SL.new w hB dl) ((Below.refl w.heap.size w).alloc (Nat.le_refl _) (.map #[] 0)))
  have HZ := hide hsz
  clear hx hn hl hm hlen hsz
  go_enter Tryd.func48, Tryd.ntmps48
  go_wp2
  clear km1
  obtain ⟨W0, eW0⟩ : ∃ W0, (w.alloc (.map #[] 0)) = W0 := ⟨_, rfl⟩
  rw [eW0] at H0 ⊢
  clear eW0
  go_loopw [13] (fun iv wr => ∃ i : Nat, i ≤ n ∧ iv = .int .i64 (i : Int) ∧ SL wr B w.heap.size dl (subV (x.take i) (l.take i)) (fun _ => 0) ∧ Below w.heap.size w wr) (fun iv _ => (n - (intOf iv).toNat))
  case atStart => exact ⟨0, Nat.zero_le _, rfl, unhide H0⟩
  case round =>
    obtain ⟨i, hi, rfl, hSi, hbi⟩ := hrel
    by_cases hlt : i < n
    · obtain ⟨en, em, elen⟩ := unhide HN
      have h1 : i < x.length := by omega
      have h2 : i < l.length := by omega
      have hmi : i < m := by omega
      have hd1 : decide ((i : Int) < (n : Int)) = true := by simp; omega
      have hXi : (i : Int) < (n : Int) := by omega
      have hXm : (i : Int) < (m : Int) := by omega
      have hcap : (i : Int) < 281474976710656 := by omega
      obtain ⟨b, off, rfl, hbB, hj⟩ := (unhide HX).2.2 (by omega)
      obtain ⟨rg, hfit⟩ := hj i (by omega) _ (List.getElem?_eq_getElem h1)
      obtain ⟨bl, ol, rfl, hblB, hjl⟩ := (unhide HL).2.2 (by omega)
      have hTl := hjl i (by omega) _ (List.getElem?_eq_getElem h2)
      have hsn : ∀ k, subV (x.take (i + 1)) (l.take (i + 1)) k = match subV (x.take i) (l.take i) k with
          | some u => some u
          | none => if k = x[i].1 then some l[i] else none := fun k => by
        rw [take_more h1, take_more h2]
        exact subV_snoc _ _ k _ _ (by simp; omega)
      have hZi := unhide HZ l[i] (List.getElem_mem h2)
      generalize hu : x[i] = u at *
      generalize ht : l[i] = t at *
      obtain ⟨u1, u2⟩ := u
      have hbw : b < w.heap.size := by omega
      have p0 : wr.cell? ⟨b, off + i * 2, none⟩ = some (.string u1) := (hbi.cell (p := ⟨b, off + i * 2, none⟩) hbw).trans (rg 0 _ rfl)
      have p1 : wr.cell? ⟨b, off + i * 2 + 1, none⟩ = some (.int .i64 u2) := (hbi.cell (p := ⟨b, off + i * 2 + 1, none⟩) hbw).trans (rg 1 _ rfl)
      have hbwr : b < wr.heap.size := Nat.lt_of_lt_of_le hbw hbi.size
      obtain ⟨V, eV, hbV, hsV, hcV, hhV⟩ := box_new wr #[.string u1, .int .i64 u2] 45
      have hSV := hSi.below hbV (Nat.le_refl _)
      have hb0V : Below w.heap.size w V := hbi.trans (hbV.mono hbi.size)
      have hqlt : wr.heap.size < V.heap.size := (blk hhV).1
      have hTV := hTl.more (hb0V.mono hB) (Nat.le_refl _) (Nat.le_refl _)
      have v0 : V.cell? ⟨wr.heap.size, 0, none⟩ = some (.string u1) := hcV 0 _ rfl
      have hBV : B ≤ V.heap.size := by have := hb0V.size; omega
      have hSVv : SLv V B (.map (some w.heap.size)) dl (subV (x.take i) (l.take i)) (fun _ => 0) := .inr ⟨_, rfl, hSV⟩
      rcases hSVv.asked u1 with ⟨hs0, hlk⟩ | ⟨t', q', bt', ot', hs0, hlk, _, _, _⟩
      · have hlkV := hlk V (Below.refl _ V)
        have HSC : Hid (∀ w', Below V.heap.size V w' → w'.cell? ⟨wr.heap.size, 0, none⟩ = some (.string u1)) := fun w' h => (h.cell (p := ⟨wr.heap.size, 0, none⟩) hqlt).trans v0
        have HMe : Hid (∀ w', Below V.heap.size V w' → Calls Tryd.prog 39 #[.pointer (some ⟨bl, ol + i * 7, none⟩)] w' (VPost (.agg #[.int .i64 t.size, .int .i64 t.depth, .bool t.ground]) w')) := fun w' h => measure_any (hTV.more (h.mono hBV) (Nat.le_refl _) (Nat.le_refl _)) (by have := h.size; omega) hZi.1 hZi.2
        have HAft : Hid (∀ M : World, Below V.heap.size V M → ∃ W9, (Instr.mapUpdate 89 (.map (some w.heap.size)) (.string u1) (.pointer (some ⟨M.heap.size, 0, none⟩))).run Tryd.prog (M.alloc (.cells #[.pointer (some ⟨bl, ol + i * 7, none⟩), .int .i64 t.size, .int .i64 t.depth, .bool t.ground, .int .i64 0] 151)) = .ok () W9 ∧ W9.cell? ⟨wr.heap.size, 0, none⟩ = some (.string u1) ∧ SL W9 B w.heap.size dl (subV (x.take (i + 1)) (l.take (i + 1))) (fun _ => 0) ∧ Below w.heap.size w W9) := fun M hM => by
          have hSM := hSV.below hM (Nat.le_refl _)
          have hA := (Below.refl M.heap.size M).alloc (Nat.le_refl _) (.cells #[.pointer (some ⟨bl, ol + i * 7, none⟩), .int .i64 t.size, .int .i64 t.depth, .bool t.ground, .int .i64 0] 151)
          obtain ⟨W9, k1, k2, k3⟩ := hSM.add (k := u1) (u := t) (by have := hM.size; omega) hs0 hA (Nat.le_refl _) (new_block M _ _) (hTV.more (hM.mono hBV) (Nat.le_refl _) (Nat.le_refl _))
          have hbA : Below V.heap.size V (M.alloc (.cells #[.pointer (some ⟨bl, ol + i * 7, none⟩), .int .i64 t.size, .int .i64 t.depth, .bool t.ground, .int .i64 0] 151)) := hM.trans (hA.mono hM.size)
          have hne : wr.heap.size ≠ w.heap.size := fun e => by
            obtain ⟨_, es, hes, _⟩ := hSV
            obtain ⟨a, c, k1, _⟩ := hes
            rw [e, k1] at hhV
            cases hhV
          refine ⟨W9, k1, ?_, ?_, k2.below (hb0V.trans (hbA.mono hb0V.size)) (Nat.le_refl _)⟩
          · rw [World.cell?_of_block (a := ⟨wr.heap.size, 0, none⟩) (k2.block wr.heap.size hne)]
            exact unhide HSC _ hbA
          · rw [show subV (x.take (i + 1)) (l.take (i + 1)) = _ from funext hsn]
            exact k3
        clear hj rg hfit hjl hTl hsn hZi hu ht hSi hbi hbV hsV hcV hhV hSV hb0V hqlt hTV hSVv hs0 hlk en em elen HX HL HZ
        go_wp2
        clear eV
        go_region_held3 (fun w' => w'.cell? ⟨wr.heap.size, 0, none⟩ = some (.string u1)) (first | assumption | exact (unhide HS9) | exact unhide HSC _ (keep0 _) | exact unhide HSC _ hT1 | exact unhide HSC _ (hT1.alloc hT1.size _)) ((go_at_call 39; refine (unhide HMe _ (keep0 _)).mono ?_; rintro e v1 ⟨rfl, hv1⟩; have hT1 : Below V.heap.size V v1 := (keep0 V).trans hv1; obtain ⟨W9, hrun, hS9, h10⟩ := unhide HAft v1 hT1; have HS9 := hide hS9; have H10 := hide h10; clear hv1 hS9 h10))
        all_goals
          clear hrun
          go_wp2
          exact ⟨⟨i + 1, by omega, rfl, unhide H10⟩, by simp only [intOf]; omega⟩
      · have hlkV := hlk V (Below.refl _ V)
        have hsame : subV (x.take (i + 1)) (l.take (i + 1)) = subV (x.take i) (l.take i) := funext fun k => by
          rw [hsn]
          cases hk : subV (x.take i) (l.take i) k with
          | some _ => rfl
          | none =>
            have : k ≠ u1 := fun e => by subst e; rw [hk] at hs0; cases hs0
            simp [this]
        rw [← hsame] at hSV
        have HF := hide (And.intro hSV hb0V)
        clear hj rg hfit hjl hTl hsn hZi hu ht hSi hbi hbV hsV hcV hhV hSV hb0V hqlt hTV hSVv hs0 hlk en em elen HX HL HZ hsame
        go_wp2
        exact ⟨⟨i + 1, by omega, rfl, unhide HF⟩, by simp only [intOf]; omega⟩
    · have hin : i = n := by omega
      have hd1 : decide ((i : Int) < (n : Int)) = false := by simp; omega
      obtain ⟨en, em, elen⟩ := unhide HN
      rw [List.take_of_length_le (by omega), List.take_of_length_le (by omega)] at hSi
      have HF := hide (And.intro hSi hbi)
      clear hSi hbi hin en em elen
      go_wp2
      go_ret
      exact ⟨w.heap.size, rfl, Nat.le_refl _, unhide HF⟩
end Go.Proofs.YtiockiilenjjaaaDoor

/- What a filled term weighs. -/
namespace Go.Proofs.YtiockiilenjjaaaDoor
open Go Go.RowKit
/-- How often names are hidden within a node. -/
def within (op : Int) (vars : List (ByteArray × Int)) (hid : ByteArray → Int) : ByteArray → Int := if op = 19 then hidV 1 vars hid else hid
def Tm.isz (sub : ByteArray → Option Tm) : Tm → (ByteArray → Int) → Nat
  | ⟨op, name, _, _, l, vars, _⟩, hid => match rep sub hid op name with
    | some u => u.size
    | none => 1 + (l.map fun u => Tm.isz sub u (within op vars hid)).sum
def Tm.idp (sub : ByteArray → Option Tm) : Tm → (ByteArray → Int) → Nat
  | ⟨op, name, _, _, l, vars, _⟩, hid => match rep sub hid op name with
    | some u => u.depth
    | none => maxOf (l.map fun u => Tm.idp sub u (within op vars hid)) + 1
def iszL (sub : ByteArray → Option Tm) (l : List Tm) (hid : ByteArray → Int) : Nat := (l.map fun u => u.isz sub hid).sum
def idpL (sub : ByteArray → Option Tm) (l : List Tm) (hid : ByteArray → Int) : Nat := maxOf (l.map fun u => u.idp sub hid)
theorem isz_some {sub : ByteArray → Option Tm} {t u : Tm} {hid : ByteArray → Int} (h : rep sub hid t.op t.name = some u) : t.isz sub hid = u.size ∧ t.idp sub hid = u.depth := by
  cases t
  rw [Tm.isz, Tm.idp]
  simp only at h
  rw [h]
  exact ⟨rfl, rfl⟩
theorem isz_none {sub : ByteArray → Option Tm} {t : Tm} {hid : ByteArray → Int} (h : rep sub hid t.op t.name = none) : t.isz sub hid = 1 + iszL sub t.l (within t.op t.vars hid) ∧ t.idp sub hid = idpL sub t.l (within t.op t.vars hid) + 1 := by
  cases t
  rw [Tm.isz, Tm.idp]
  simp only at h
  rw [h]
  exact ⟨rfl, rfl⟩
theorem iszL_more {sub : ByteArray → Option Tm} {l : List Tm} {hid : ByteArray → Int} {i : Nat} (h : i < l.length) : iszL sub (l.take (i + 1)) hid = iszL sub (l.take i) hid + l[i].isz sub hid ∧ idpL sub (l.take (i + 1)) hid = max (idpL sub (l.take i) hid) (l[i].idp sub hid) := by
  refine ⟨?_, ?_⟩
  · unfold iszL
    rw [take_more h, List.map_append, List.sum_append]
    simp
  · unfold idpL maxOf
    rw [take_more h, List.map_append, List.foldl_append]
    rfl
theorem iszL_take (sub : ByteArray → Option Tm) (l : List Tm) (hid : ByteArray → Int) (i : Nat) : iszL sub (l.take i) hid ≤ iszL sub l hid := by
  unfold iszL
  rw [List.map_take]
  exact sum_take_le _ i
/-- What the weigher then holds: the figures, or a size that is too great. -/
def WR (s0 d0 L T D s1 d1 : Nat) : Prop := d1 ≤ 2000000 ∧ ((s0 + T ≤ 50000 ∧ s1 = s0 + T ∧ d1 = max d0 (L + D - 1)) ∨ (50000 < s0 + T ∧ 50000 < s1 ∧ s1 ≤ 200000))
def WV (sv : Value) (s d : Nat) : Obj := .cells #[sv, .int .i64 s, .int .i64 d] 145
def WPo (B r dl : Nat) (sv : Value) (sub : ByteArray → Option Tm) (hid : ByteArray → Int) (s0 d0 L T D : Nat) (w : World) (e : Ending) (w' : World) : Prop := e = .returned (.tuple #[]) ∧ ∃ s1 d1, w'.heap[r]? = some (WV sv s1 d1) ∧ WR s0 d0 L T D s1 d1 ∧ SLv w' B sv dl sub hid ∧ XF B r w w'
def SubOk (sub : ByteArray → Option Tm) : Prop := ∀ k u, sub k = some u → u.size ≤ 65536 ∧ u.depth ≤ 65537
def WTermC (sub : ByteArray → Option Tm) (dl : Nat) (sv : Value) (d : Nat) : Prop := ∀ (B r : Nat) (w : World) (b o : Nat) (t : Tm) (hid : ByteArray → Int) (s0 d0 L : Nat), TmAt w B d b o t → SLv w B sv dl sub hid → w.heap[r]? = some (WV sv s0 d0) → B ≤ r → s0 ≤ 50000 → d0 ≤ 2000000 → 1 ≤ L → L + d ≤ 1000000 → (∀ k, 0 ≤ hid k ∧ hid k + t.wt ≤ 400000) →
    Calls Tryd.prog 76 #[.pointer (some ⟨r, 0, none⟩), .pointer (some ⟨b, o, none⟩), .int .i64 L] w (WPo B r dl sv sub hid s0 d0 L (t.isz sub hid) (t.idp sub hid) w)
theorem rep_sub {sub : ByteArray → Option Tm} {hid : ByteArray → Int} {op : Int} {name : ByteArray} {u : Tm} (h : rep sub hid op name = some u) : sub name = some u := by
  unfold rep at h
  split at h
  · split at h
    · split at h
      · rename_i e _
        rw [e]; exact h
      · cases h
    · cases h
  · cases h
theorem XF.set {B r o : Nat} {w w4 : World} {v : Value} (h : XF B r w w4) (hB : B ≤ r) : XF B r w (w4.setCell ⟨r, o, none⟩ v) := by
  refine ⟨h.os, h.tape, h.output, by simpa using h.size, fun k hk hj => ?_⟩
  rw [Below.heap_setCell w4 ⟨r, o, none⟩ v k (by show k ≠ r; omega)]
  exact h.block k hk hj
theorem SLv.set {B r o dl : Nat} {w : World} {sv v : Value} {sub : ByteArray → Option Tm} {hid : ByteArray → Int} {cs : Array Value} {ty : TypeId} (h : SLv w B sv dl sub hid) (hB : B ≤ r) (hr : w.heap[r]? = some (.cells cs ty)) (ht : ty ≠ 151) : SLv (w.setCell ⟨r, o, none⟩ v) B sv dl sub hid := by
  have hbel : Below B w (w.setCell ⟨r, o, none⟩ v) := (Below.refl B w).setCell (p := ⟨r, o, none⟩) hB _
  refine h.imp id ?_
  rintro ⟨rs, e, hBr, es, h1, h2, h3⟩
  refine ⟨rs, e, hBr, es, h1.same (Below.heap_setCell w ⟨r, o, none⟩ v rs (fun e' => ?_)), fun k => (h2 k).imp id ?_, h3⟩
  · obtain ⟨a, c, k1, _⟩ := h1
    have e2 : rs = r := e'
    rw [e2, hr] at k1
    cases k1
  · rintro ⟨u, q, bt, ot, e1, e2, e3, e4, e5⟩
    refine ⟨u, q, bt, ot, e1, e2, e3, ?_, e5.more hbel (Nat.le_refl _) (Nat.le_refl _)⟩
    rw [Below.heap_setCell w ⟨r, o, none⟩ v q (fun e' => ?_)]
    · exact e4
    · have e2 : q = r := e'
      rw [e2, hr] at e4
      injection e4 with e4
      injection e4 with _ e4
      exact ht e4
set_option maxRecDepth 1000000 in
set_option maxHeartbeats 16000000 in
theorem wterm_some {sub : ByteArray → Option Tm} {dl d : Nat} {sv : Value} (hSub : SubOk sub) {B r : Nat} {w : World} {b o : Nat} {t u : Tm} {hid : ByteArray → Int} {s0 d0 L : Nat} (hT : TmAt w B (d + 1) b o t) (hS : SLv w B sv dl sub hid) (hW : w.heap[r]? = some (WV sv s0 d0)) (hBr : B ≤ r) (hs0 : s0 ≤ 50000) (hd0 : d0 ≤ 2000000) (hL1 : 1 ≤ L) (hL : L + d ≤ 1000000) (hr : rep sub hid t.op t.name = some u) :
    Calls Tryd.prog 76 #[.pointer (some ⟨r, 0, none⟩), .pointer (some ⟨b, o, none⟩), .int .i64 L] w (WPo B r dl sv sub hid s0 d0 L (t.isz sub hid) (t.idp sub hid) w) := by
  obtain ⟨ez, ed⟩ := isz_some hr
  rw [ez, ed]
  obtain ⟨hz, hdp⟩ := hSub _ _ (rep_sub hr)
  have hrw := (Array.getElem?_eq_some_iff.1 hW).1
  have hBw : B ≤ w.heap.size := by omega
  obtain ⟨hb, _, _, aL, aV, aP, cL, cV, cP, hrg, hRL, hV, hP, _⟩ := hT
  have hbw : b < w.heap.size := by omega
  have c0 : w.cell? ⟨b, o, none⟩ = some (.int .i64 t.op) := hrg 0 _ rfl
  have r0 : w.cell? ⟨r, 0, none⟩ = some sv := (blk hW).2.1 0 _ rfl
  have HG := hide hrg
  have HI := hide (And.intro hS hW)
  have HR := hide hr
  clear hrg hRL hV hP hS hW hr ez ed
  go_enter Tryd.func76, Tryd.ntmps76
  go_wp2_with fail
  refine (view_any b o t.op w c0 hbw).mono ?_
  rintro e w1 ⟨rfl, hb1⟩
  have r01 : w1.cell? ⟨r, 0, none⟩ = some sv := (hb1.cell (p := ⟨r, 0, none⟩) hrw).trans r0
  have HB1 := hide hb1
  clear hb1 c0 r0
  go_wp2_with fail
  refine (of_any ((unhide HI).1.below (unhide HB1) (Nat.le_refl _)) (by have := (unhide HB1).size; omega) (by have := (unhide HB1).size; omega) (((unhide HB1).cell (p := ⟨b, o + 1, none⟩) hbw).trans ((unhide HG) 1 _ rfl))).mono ?_
  rintro e w2 ⟨hb2, h2⟩
  rw [unhide HR] at h2
  rcases h2 with ⟨h, _⟩ | ⟨u', q, bt, ot, hu, rfl, hq, _⟩
  · cases h
  injection hu with hu
  subst hu
  have hb02 : Below w.heap.size w w2 := (unhide HB1).trans (hb2.mono (unhide HB1).size)
  have hW2 := (hb02.block r hrw).trans (unhide HI).2
  have x0 : w2.cell? ⟨r, 0, none⟩ = some sv := (blk hW2).2.1 0 _ rfl
  have x1 : w2.cell? ⟨r, 1, none⟩ = some (.int .i64 (s0 : Int)) := (blk hW2).2.1 1 _ rfl
  have x2 : w2.cell? ⟨r, 2, none⟩ = some (.int .i64 (d0 : Int)) := (blk hW2).2.1 2 _ rfl
  have xf1 := (blk hW2).2.2 1
  have xf2 := (blk hW2).2.2 2
  have q1 : w2.cell? ⟨q, 1, none⟩ = some (.int .i64 (u.size : Int)) := (blk hq).2.1 1 _ rfl
  have q2 : w2.cell? ⟨q, 2, none⟩ = some (.int .i64 (u.depth : Int)) := (blk hq).2.1 2 _ rfl
  have hqr : q ≠ r := fun e => by
    rw [e, hW2] at hq
    injection hq with hq
    injection hq with _ hq
    revert hq
    decide
  have HB2 := hide (And.intro hb02 hW2)
  clear hb2 hb02 hW2 r01 HB1 hq
  generalize u.size = us at *
  generalize u.depth = ud at *
  go_wp2
  go_region_with ((go_at_call 78; refine (capped_eq s0 us _ (by omega)).mono ?_; rintro e v1 ⟨rfl, rfl⟩))
  all_goals
    obtain ⟨V, eV⟩ : ∃ V, (w2.setCell ⟨r, 1, none⟩ (.int .i64 ((s0 : Int) + (us : Int)))).drew = V := ⟨_, rfl⟩
    rw [eV]
    have hXV : XF B r w V := by
      rw [← eV]
      exact ((XF.of (unhide HB2).1 (Nat.le_refl _)).set hBr).trans (XF.of (keep0 _) (Nat.le_refl _))
    have hWV : V.heap[r]? = some (WV sv (s0 + us) d0) := by
      rw [← eV]
      show (w2.setCell ⟨r, 1, none⟩ (.int .i64 ((s0 : Int) + (us : Int)))).heap[r]? = _
      rw [set_block (unhide HB2).2]
      rfl
    have hSV : SLv V B sv dl sub hid := by
      rw [← eV]
      exact (((unhide HI).1.below (unhide HB2).1 (Nat.le_refl _)).set hBr (unhide HB2).2 (by decide)).below (keep0 _) (Nat.le_refl _)
    have y2 : V.cell? ⟨r, 2, none⟩ = some (.int .i64 (d0 : Int)) := (blk hWV).2.1 2 _ rfl
    have yf2 := (blk hWV).2.2 2
    have z2 : V.cell? ⟨q, 2, none⟩ = some (.int .i64 (ud : Int)) := by
      rw [← eV]
      exact (World.cell?_of_block (w := w2) (a := ⟨q, 2, none⟩) (Below.heap_setCell w2 ⟨r, 1, none⟩ _ q hqr)).trans q2
    have HV := hide (And.intro hXV (And.intro hWV hSV))
    clear x0 x1 x2 xf1 xf2 q1 q2 eV hXV hWV hSV HB2
    go_wp2
    go_region
    all_goals
      go_wp2
      first | go_end0 | go_ret
      obtain ⟨hXV, hWV, hSV⟩ := unhide HV
      have em : max (d0 : Int) ((L : Int) - 1 + (ud : Int)) = ((max d0 (L - 1 + ud) : Nat) : Int) := by omega
      rw [em]
      refine ⟨rfl, s0 + us, max d0 (L - 1 + ud), ?_, ⟨by omega, ?_⟩, (hSV.set hBr hWV (by decide)).below (keep0 _) (Nat.le_refl _), (hXV.set hBr).trans (XF.of (keep0 _) (Nat.le_refl _))⟩
      · show (V.setCell ⟨r, 2, none⟩ _).heap[r]? = _
        rw [set_block hWV]
        rfl
      · by_cases h5 : s0 + us ≤ 50000
        · exact .inl ⟨h5, rfl, by omega⟩
        · exact .inr ⟨by omega, by omega, by omega⟩
end Go.Proofs.YtiockiilenjjaaaDoor

namespace Go.Proofs.YtiockiilenjjaaaDoor
open Go Go.RowKit
theorem WR.step {a d L T D s1 d1 T' D' s2 d2 : Nat} (h : WR a d L T D s1 d1) (hs : s1 ≤ 50000) (k : WR s1 d1 L T' D' s2 d2) : WR a d L (T + T') (max D D') s2 d2 := by
  obtain ⟨h0, ⟨h1, h2, h3⟩ | ⟨h1, h2, h3⟩⟩ := h
  · obtain ⟨k0, ⟨k1, k2, k3⟩ | ⟨k1, k2, k3⟩⟩ := k
    · exact ⟨k0, .inl ⟨by omega, by omega, by omega⟩⟩
    · exact ⟨k0, .inr ⟨by omega, by omega, by omega⟩⟩
  · omega
theorem WR.stop {a d L T D s1 d1 T' D' : Nat} (h : WR a d L T D s1 d1) (hs : 50000 < s1) (hT : T ≤ T') : WR a d L T' D' s1 d1 := by
  obtain ⟨h0, ⟨h1, h2, h3⟩ | ⟨h1, h2, h3⟩⟩ := h
  · omega
  · exact ⟨h0, .inr ⟨by omega, by omega, by omega⟩⟩
theorem WR.up {s0 d0 L T D s1 d1 : Nat} (h : WR (s0 + 1) (max d0 L) (L + 1) T D s1 d1) : WR s0 d0 L (1 + T) (D + 1) s1 d1 := by
  obtain ⟨h0, ⟨h1, h2, h3⟩ | ⟨h1, h2, h3⟩⟩ := h
  · exact ⟨h0, .inl ⟨by omega, by omega, by omega⟩⟩
  · exact ⟨h0, .inr ⟨by omega, by omega, by omega⟩⟩
/-- A TAll gone into, or left. -/
theorem hide_in {A w : World} {B r q dl cV sz dp : Nat} {aV : Option Addr} {sv : Value} {sub : ByteArray → Option Tm} {hid : ByteArray → Int} {x : List (ByteArray × Int)} {cs : Array Value} {s : Int} (hW : A.heap[r]? = some (WV sv sz dp)) (hS : SLv A B sv dl sub hid) (hX : XF B r w A) (hq : A.heap[q]? = some (.cells cs 112)) (hx : Row B aV x.length cV 2 (BR w x)) (hBw : B ≤ w.heap.size) (hs : s = 1 ∨ s = -1) (hh : ∀ k, -500000 ≤ hid k ∧ hid k ≤ 500000) (hl : x.length ≤ 400000) (W : World) (hb : Below A.heap.size A W) :
    Calls Tryd.prog 94 #[sv, .slice aV x.length cV, .int .i64 s] W fun e w' => e = .returned (.tuple #[]) ∧ w'.heap[r]? = some (WV sv sz dp) ∧ SLv w' B sv dl sub (hidV s x hid) ∧ XF B r w w' ∧ w'.heap[q]? = some (.cells cs 112) := by
  have hXW : XF B r w W := hX.trans (XF.of hb (Nat.le_refl _))
  have hbel := hXW.below hBw
  refine (hide_any (hS.below hb (Nat.le_refl _)) (hx.mono (Nat.le_refl _) fun b o j hb2 h u hu => ⟨rangeAt_below (h u hu).1 hb2 hbel, (h u hu).2⟩) rfl (by have := hXW.size; omega) hs hh hl).mono ?_
  rintro e w' ⟨rfl, h1, h2, _⟩
  have hqW := (hb.block q (Array.getElem?_eq_some_iff.1 hq).1).trans hq
  have hrW := (hb.block r (Array.getElem?_eq_some_iff.1 hW).1).trans hW
  exact ⟨rfl, (h2 (r + 1)).blk hrW (by omega) (by decide), h1, hXW.trans (h2 r), (h2 (q + 1)).blk hqW (by omega) (by decide)⟩
set_option maxRecDepth 1000000 in
set_option maxHeartbeats 16000000 in
theorem wterm_none {sub : ByteArray → Option Tm} {dl d : Nat} {sv : Value} (ih : WTermC sub dl sv d) {B r : Nat} {w : World} {b o : Nat} {t : Tm} {hid : ByteArray → Int} {s0 d0 L : Nat} (hT : TmAt w B (d + 1) b o t) (hS : SLv w B sv dl sub hid) (hW : w.heap[r]? = some (WV sv s0 d0)) (hBr : B ≤ r) (hs0 : s0 ≤ 50000) (hd0 : d0 ≤ 2000000) (hL1 : 1 ≤ L) (hL : L + (d + 1) ≤ 1000000) (hh : ∀ k, 0 ≤ hid k ∧ hid k + t.wt ≤ 400000) (hr : rep sub hid t.op t.name = none) :
    Calls Tryd.prog 76 #[.pointer (some ⟨r, 0, none⟩), .pointer (some ⟨b, o, none⟩), .int .i64 L] w (WPo B r dl sv sub hid s0 d0 L (t.isz sub hid) (t.idp sub hid) w) := by
  obtain ⟨ez, ed⟩ := isz_none hr
  rw [ez, ed]
  obtain ⟨hid', ehid⟩ : ∃ h, within t.op t.vars hid = h := ⟨_, rfl⟩
  rw [ehid]
  have HE := hide ehid
  have hrw := (Array.getElem?_eq_some_iff.1 hW).1
  have hBw : B ≤ w.heap.size := by omega
  obtain ⟨hb, _, _, aL, aV, aP, cL, cV, cP, hrg, hRL, hV, hP, _⟩ := hT
  have hbw : b < w.heap.size := by omega
  have c0 : w.cell? ⟨b, o, none⟩ = some (.int .i64 t.op) := hrg 0 _ rfl
  have r0 : w.cell? ⟨r, 0, none⟩ = some sv := (blk hW).2.1 0 _ rfl
  have hnm : t.l.length ≤ 281474976710656 := by have := hRL.1; have := hRL.2.1; omega
  have hvm : t.vars.length ≤ 281474976710656 := by have := hV.1; have := hV.2.1; omega
  obtain ⟨n, hn⟩ : ∃ n, t.l.length = n := ⟨_, rfl⟩
  obtain ⟨nv, hnv⟩ : ∃ n, t.vars.length = n := ⟨_, rfl⟩
  have HN := hide hn
  have HNV := hide hnv
  rw [hn] at hnm
  rw [hnv] at hvm
  have HG := hide hrg
  have HRow := hide hRL
  have HVar := hide hV
  have HI := hide (And.intro hS hW)
  have HR := hide hr
  have HIH := hide ih
  have hww : ∀ k, 0 ≤ hid k ∧ hid k + (t.vars.length + lwt t.l) ≤ 400000 := fun k => (hh k).imp id (fun h => by
    rw [t.wt_eq] at h
    unfold lwt
    omega)
  have HW := hide hww
  clear hrg hRL hV hP hS hW hr ez ed ehid hn hnv ih hh hww
  go_enter Tryd.func76, Tryd.ntmps76
  go_wp2_with fail
  refine (view_any b o t.op w c0 hbw).mono ?_
  rintro e w1 ⟨rfl, hb1⟩
  have r01 : w1.cell? ⟨r, 0, none⟩ = some sv := (hb1.cell (p := ⟨r, 0, none⟩) hrw).trans r0
  have HB1 := hide hb1
  clear hb1 c0 r0
  go_wp2_with fail
  refine (of_any ((unhide HI).1.below (unhide HB1) (Nat.le_refl _)) (by have := (unhide HB1).size; omega) (by have := (unhide HB1).size; omega) (((unhide HB1).cell (p := ⟨b, o + 1, none⟩) hbw).trans ((unhide HG) 1 _ rfl))).mono ?_
  rintro e w2 ⟨hb2, h2⟩
  rw [unhide HR] at h2
  have he : e = .returned (.pointer none) := by
    rcases h2 with ⟨_, h⟩ | ⟨_, _, _, _, h, _⟩
    · exact h
    · cases h
  subst he
  clear h2
  have hb02 : Below w.heap.size w w2 := (unhide HB1).trans (hb2.mono (unhide HB1).size)
  have hW2 := (hb02.block r hrw).trans (unhide HI).2
  have x1 : w2.cell? ⟨r, 1, none⟩ = some (.int .i64 (s0 : Int)) := (blk hW2).2.1 1 _ rfl
  have x2 : w2.cell? ⟨r, 2, none⟩ = some (.int .i64 (d0 : Int)) := (blk hW2).2.1 2 _ rfl
  have xf1 := (blk hW2).2.2 1
  have xf2 := (blk hW2).2.2 2
  have hrs : r < w2.heap.size := (blk hW2).1
  have hS2 := (unhide HI).1.below hb02 (Nat.le_refl _)
  have em : max (d0 : Int) (L : Int) = ((max d0 L : Nat) : Int) := by omega
  have HA : Hid (∀ cs : Array Value, ∃ A, (((w2.setCell ⟨r, 1, none⟩ (.int .i64 ((s0 : Int) + 1))).setCell ⟨r, 2, none⟩ (.int .i64 (max (d0 : Int) (L : Int)))).alloc (.cells cs 112)) = A ∧ A.heap[r]? = some (WV sv (s0 + 1) (max d0 L)) ∧ SLv A B sv dl sub hid ∧ XF B r w A ∧ A.heap[w2.heap.size]? = some (.cells cs 112)) := fun cs => by
    refine ⟨_, rfl, ?_⟩
    have k1 := set_block hW2 (o := 1) (.int .i64 ((s0 : Int) + 1))
    have k2 := set_block k1 (o := 2) (.int .i64 (max (d0 : Int) (L : Int)))
    have s1 := hS2.set (o := 1) (v := .int .i64 ((s0 : Int) + 1)) hBr hW2 (by decide)
    have s2 := s1.set (o := 2) (v := .int .i64 (max (d0 : Int) (L : Int))) hBr k1 (by decide)
    have hX := (((XF.of hb02 (Nat.le_refl _)).set (o := 1) (v := .int .i64 ((s0 : Int) + 1)) hBr).set (o := 2) (v := .int .i64 (max (d0 : Int) (L : Int))) hBr)
    have hal := fun W : World => (Below.refl W.heap.size W).alloc (Nat.le_refl _) (.cells cs 112)
    refine ⟨?_, s2.below (hal _) (Nat.le_refl _), hX.trans (XF.of (hal _) (Nat.le_refl _)), ?_⟩
    · rw [keep_alloc k2, em]
      rfl
    · have h := new_block ((w2.setCell ⟨r, 1, none⟩ (.int .i64 ((s0 : Int) + 1))).setCell ⟨r, 2, none⟩ (.int .i64 (max (d0 : Int) (L : Int)))) cs 112
      simpa using h
  have hqr : w2.heap.size ≠ r := by omega
  have HZ := hide em
  clear hb2 hb02 hW2 r01 HB1 hS2 em
  by_cases h19 : t.op = 19
  · have hkk : kindOf t.op = 112 := by rw [h19]; rfl
    rw [hkk]
    have ta0 := fun w => ta_yes (ty := 112) (v := .agg #[.pointer (some ⟨b, o, none⟩)]) (w := w) rfl rfl
    have ehid : hid' = hidV 1 t.vars hid := by rw [← unhide HE]; unfold within; rw [if_pos h19]
    have hcn : ∀ k, (cnt k t.vars : Int) ≤ t.vars.length := fun k => by have := cnt_le k t.vars; omega
    have HH : Hid (∀ k, 0 ≤ hid' k ∧ hid' k + lwt t.l ≤ 400000) := fun k => by
      have h1 := unhide HW k
      have h2 := hcn k
      rw [ehid]
      unfold hidV
      omega
    have hvl : t.vars.length ≤ 400000 := by have := unhide HW t.name; omega
    have HB0 : Hid (∀ k, -500000 ≤ hid k ∧ hid k ≤ 500000) := fun k => by have := unhide HW k; omega
    have HB1 : Hid (∀ k, -500000 ≤ hid' k ∧ hid' k ≤ 500000) := fun k => by have := unhide HH k; omega
    have HEB := hide (show hidV (-1) t.vars hid' = hid by rw [ehid]; exact hidV_back t.vars hid)
    have HEH := hide ehid
    clear hkk ehid hcn h19
    obtain ⟨A, eA, hA⟩ := unhide HA #[.pointer (some ⟨b, o, none⟩)]
    have HWA := hide hA
    clear hA
    go_wp2
    clear eA x1 x2 xf1 xf2 ta0
    have HC1 : Hid (∀ W', Below A.heap.size A W' → Calls Tryd.prog 94 #[sv, .slice aV nv cV, .int .i64 1] W' fun e w' => e = .returned (.tuple #[]) ∧ w'.heap[r]? = some (WV sv (s0 + 1) (max d0 L)) ∧ SLv w' B sv dl sub hid' ∧ XF B r w w' ∧ w'.heap[w2.heap.size]? = some (.cells #[.pointer (some ⟨b, o, none⟩)] 112)) := fun W' h => by
      obtain ⟨k1, k2, k3, k4⟩ := unhide HWA
      rw [unhide HEH, ← unhide HNV]
      exact hide_in k1 k2 k3 k4 (unhide HVar) hBw (.inl rfl) (unhide HB0) hvl W' h
    have HSC : Hid (∀ w', Below A.heap.size A w' → (w'.cell? ⟨r, 0, none⟩ = some sv ∧ w'.cell? ⟨w2.heap.size, 0, none⟩ = some (.pointer (some ⟨b, o, none⟩)) ∧ w'.cell? ⟨b, o + 5, none⟩ = some (.slice aV nv cV))) := fun w' h => by
      obtain ⟨k1, k2, k3, k4⟩ := unhide HWA
      have hrA := (h.block r (Array.getElem?_eq_some_iff.1 k1).1).trans k1
      have hqA := (h.block _ (Array.getElem?_eq_some_iff.1 k4).1).trans k4
      refine ⟨(blk hrA).2.1 0 _ rfl, (blk hqA).2.1 0 _ rfl, ?_⟩
      rw [← unhide HNV]
      exact (((k3.trans (XF.of h (Nat.le_refl _))).below hBw).cell (p := ⟨b, o + 5, none⟩) hb).trans ((unhide HG) 5 _ rfl)
    have HSD : Hid (∀ v1 : World, (∃ sz dp, v1.heap[r]? = some (WV sv sz dp)) → XF B r w v1 → v1.heap[w2.heap.size]? = some (.cells #[.pointer (some ⟨b, o, none⟩)] 112) → (v1.cell? ⟨r, 0, none⟩ = some sv ∧ v1.cell? ⟨w2.heap.size, 0, none⟩ = some (.pointer (some ⟨b, o, none⟩)) ∧ v1.cell? ⟨b, o + 5, none⟩ = some (.slice aV nv cV))) := fun v1 ⟨sz, dp, k1⟩ k3 k4 => by
      refine ⟨(blk k1).2.1 0 _ rfl, (blk k4).2.1 0 _ rfl, ?_⟩
      rw [← unhide HNV]
      exact ((k3.below hBw).cell (p := ⟨b, o + 5, none⟩) hb).trans ((unhide HG) 5 _ rfl)
    obtain ⟨m0, m1, m2⟩ := unhide HSC _ (Below.refl _ _)
    go_region_held3 (fun w' => w'.cell? ⟨r, 0, none⟩ = some sv ∧ w'.cell? ⟨w2.heap.size, 0, none⟩ = some (.pointer (some ⟨b, o, none⟩)) ∧ w'.cell? ⟨b, o + 5, none⟩ = some (.slice aV nv cV)) (first | assumption | exact (unhide HS9) | exact unhide HSC _ (keep0 _)) ((go_at_call 94; refine (unhide HC1 _ (keep0 _)).mono ?_; rintro e v1 ⟨rfl, h1⟩; have HS9 := hide (unhide HSD v1 ⟨_, _, h1.1⟩ h1.2.2.1 h1.2.2.2); have H1 := hide h1; clear h1))
    clear m0 m1 m2
    go_wp2
    have HW0 := H1
    obtain ⟨cs, ecs⟩ : ∃ cs : Array Value, cs = #[.pointer (some ⟨b, o, none⟩)] := ⟨_, rfl⟩
    have HCS := hide ecs
    rw [← ecs] at HW0
    clear ecs HSC HSD HS9 H1 HC1
    go_loopw [10] (fun iv wr => ∃ i si di : Nat, i ≤ n ∧ iv = .int .i64 (i : Int) ∧ wr.heap[r]? = some (WV sv si di) ∧ WR (s0 + 1) (max d0 L) (L + 1) (iszL sub (t.l.take i) hid') (idpL sub (t.l.take i) hid') si di ∧ SLv wr B sv dl sub hid' ∧ XF B r w wr ∧ wr.heap[w2.heap.size]? = some (.cells cs 112)) (fun iv _ => (n - (intOf iv).toNat))
    case atStart =>
      obtain ⟨h1, h2, h3, h4⟩ := unhide HW0
      refine ⟨0, s0 + 1, max d0 L, Nat.zero_le _, rfl, h1, ⟨by omega, ?_⟩, h2, h3, h4⟩
      by_cases h5 : s0 + 1 ≤ 50000
      · exact .inl ⟨by simp only [iszL, List.take_zero, List.map_nil, List.sum_nil]; omega, by simp only [iszL, List.take_zero, List.map_nil, List.sum_nil]; omega, by simp only [idpL, maxOf, List.take_zero, List.map_nil, List.foldl_nil]; omega⟩
      · exact .inr ⟨by omega, by omega, by omega⟩
    case round =>
      obtain ⟨i, si, di, hi, rfl, hWi, hRi, hSi, hXi, hqi⟩ := hrel
      have c4 : wr.cell? ⟨b, o + 4, none⟩ = some (.slice aL n cL) := by
        rw [← unhide HN]
        exact ((hXi.below hBw).cell (p := ⟨b, o + 4, none⟩) hb).trans ((unhide HG) 4 _ rfl)
      have s1 : wr.cell? ⟨r, 1, none⟩ = some (.int .i64 (si : Int)) := (blk hWi).2.1 1 _ rfl
      have hsi : si ≤ 200000 := by obtain ⟨_, h | h⟩ := hRi <;> omega
      have hdi : di ≤ 2000000 := hRi.1
      by_cases hlt : i < n
      · have h1 : i < t.l.length := by have := unhide HN; omega
        have hd1 : decide ((i : Int) < (n : Int)) = true := by simp; omega
        have hIi : (i : Int) < (n : Int) := by omega
        have hcap : (i : Int) < 281474976710656 := by omega
        by_cases hst : si ≤ 50000
        · have hd2 : decide ((si : Int) ≤ 50000) = true := by simp; omega
          obtain ⟨bl, ol, rfl, hblB, hj⟩ := (unhide HRow).2.2 (by have := unhide HN; omega)
          have hTi := hj i h1 _ (List.getElem?_eq_getElem h1)
          have hTr := hTi.more (hXi.below hBw) (Nat.le_refl _) (Nat.le_refl _)
          have hmore := iszL_more (sub := sub) (hid := hid') h1
          have hwi : ∀ k, 0 ≤ hid' k ∧ hid' k + t.l[i].wt ≤ 400000 := fun k => (unhide HH k).imp id (fun h => by
            have h3 : t.l[i].wt ≤ lwt t.l := by
              have := lwt_more h1
              have := lwt_take t.l (i + 1)
              omega
            omega)
          have HC := hide (unhide HIH B r wr bl (ol + i * 7) t.l[i] hid' si di (L + 1) hTr hSi hWi hBr hst hdi (by omega) (by omega) hwi)
          have HP := hide (And.intro hRi (And.intro hXi (And.intro hqi hmore)))
          clear hTi hTr hmore hwi hj hWi hRi hSi hXi hqi
          go_wp2_with fail
          rw [show ((L : Int) + 1) = ((L + 1 : Nat) : Int) by omega]
          refine (unhide HC).mono ?_
          rintro e w7 ⟨rfl, s7, d7, hW7, hR7, hS7, hX7⟩
          obtain ⟨hRi, hXi, hqi, hmore⟩ := unhide HP
          have hR8 := hRi.step hst hR7
          rw [← hmore.1, ← hmore.2] at hR8
          have H7 := hide (And.intro hW7 (And.intro hR8 (And.intro hS7 (And.intro (hXi.trans hX7) (hX7.blk hqi hqr (by decide))))))
          clear hW7 hR7 hS7 hX7 hRi hXi hqi hmore hR8 c4 s1
          go_wp2
          exact ⟨⟨i + 1, s7, d7, by omega, rfl, unhide H7⟩, by simp only [intOf]; omega⟩
        · have hd2 : decide ((si : Int) ≤ 50000) = false := by simp; omega
          have hfin : WR (s0 + 1) (max d0 L) (L + 1) (iszL sub t.l hid') (idpL sub t.l hid') si di := hRi.stop (by omega) (iszL_take _ _ _ _)
          have HF := hide (And.intro hWi (And.intro hfin (And.intro hSi (And.intro hXi hqi))))
          clear hWi hRi hSi hXi hqi hfin
          go_wp2
          obtain ⟨j1, j2, j3, j4, j5⟩ := unhide HF
          rw [unhide HCS] at j5
          have HWA := hide (And.intro j1 (And.intro j3 (And.intro j4 j5)))
          have HC2 : Hid (∀ W', Below wr.heap.size wr W' → Calls Tryd.prog 94 #[sv, .slice aV nv cV, .int .i64 (-1)] W' fun e w' => e = .returned (.tuple #[]) ∧ w'.heap[r]? = some (WV sv si di) ∧ SLv w' B sv dl sub hid ∧ XF B r w w' ∧ w'.heap[w2.heap.size]? = some (.cells #[.pointer (some ⟨b, o, none⟩)] 112)) := fun W' h => by
            obtain ⟨k1, k2, k3, k4⟩ := unhide HWA
            rw [← unhide HEB, ← unhide HNV]
            exact hide_in k1 k2 k3 k4 (unhide HVar) hBw (.inr rfl) (unhide HB1) hvl W' h
          have HJ := hide j2
          clear j1 j2 j3 j4 j5 c4 s1
          have HSC : Hid (∀ w', Below wr.heap.size wr w' → (w'.cell? ⟨r, 0, none⟩ = some sv ∧ w'.cell? ⟨w2.heap.size, 0, none⟩ = some (.pointer (some ⟨b, o, none⟩)) ∧ w'.cell? ⟨b, o + 5, none⟩ = some (.slice aV nv cV))) := fun w' h => by
            obtain ⟨k1, k2, k3, k4⟩ := unhide HWA
            have hrA := (h.block r (Array.getElem?_eq_some_iff.1 k1).1).trans k1
            have hqA := (h.block _ (Array.getElem?_eq_some_iff.1 k4).1).trans k4
            refine ⟨(blk hrA).2.1 0 _ rfl, (blk hqA).2.1 0 _ rfl, ?_⟩
            rw [← unhide HNV]
            exact (((k3.trans (XF.of h (Nat.le_refl _))).below hBw).cell (p := ⟨b, o + 5, none⟩) hb).trans ((unhide HG) 5 _ rfl)
          have HSD : Hid (∀ v1 : World, (∃ sz dp, v1.heap[r]? = some (WV sv sz dp)) → XF B r w v1 → v1.heap[w2.heap.size]? = some (.cells #[.pointer (some ⟨b, o, none⟩)] 112) → (v1.cell? ⟨r, 0, none⟩ = some sv ∧ v1.cell? ⟨w2.heap.size, 0, none⟩ = some (.pointer (some ⟨b, o, none⟩)) ∧ v1.cell? ⟨b, o + 5, none⟩ = some (.slice aV nv cV))) := fun v1 ⟨sz, dp, k1⟩ k3 k4 => by
            refine ⟨(blk k1).2.1 0 _ rfl, (blk k4).2.1 0 _ rfl, ?_⟩
            rw [← unhide HNV]
            exact ((k3.below hBw).cell (p := ⟨b, o + 5, none⟩) hb).trans ((unhide HG) 5 _ rfl)
          obtain ⟨m0, m1, m2⟩ := unhide HSC _ (Below.refl _ _)
          go_region_held3 (fun w' => w'.cell? ⟨r, 0, none⟩ = some sv ∧ w'.cell? ⟨w2.heap.size, 0, none⟩ = some (.pointer (some ⟨b, o, none⟩)) ∧ w'.cell? ⟨b, o + 5, none⟩ = some (.slice aV nv cV)) (first | assumption | exact (unhide HS9) | exact unhide HSC _ (keep0 _)) ((go_at_call 94; refine (unhide HC2 _ (keep0 _)).mono ?_; rintro e v1 ⟨rfl, h1⟩; have HS9 := hide (unhide HSD v1 ⟨_, _, h1.1⟩ h1.2.2.1 h1.2.2.2); have H1 := hide h1; clear h1))
          go_wp2
          go_end0
          obtain ⟨g1, g2, g3, g4⟩ := unhide H1
          exact ⟨rfl, si, di, g1, (unhide HJ).up, g2, g3⟩
      · have hin : i = n := by omega
        have hd1 : decide ((i : Int) < (n : Int)) = false := by simp; omega
        rw [List.take_of_length_le (by have := unhide HN; omega)] at hRi
        have HF := hide (And.intro hWi (And.intro hRi (And.intro hSi (And.intro hXi hqi))))
        clear hWi hRi hSi hXi hqi hin
        go_wp2
        obtain ⟨j1, j2, j3, j4, j5⟩ := unhide HF
        rw [unhide HCS] at j5
        have HWA := hide (And.intro j1 (And.intro j3 (And.intro j4 j5)))
        have HC2 : Hid (∀ W', Below wr.heap.size wr W' → Calls Tryd.prog 94 #[sv, .slice aV nv cV, .int .i64 (-1)] W' fun e w' => e = .returned (.tuple #[]) ∧ w'.heap[r]? = some (WV sv si di) ∧ SLv w' B sv dl sub hid ∧ XF B r w w' ∧ w'.heap[w2.heap.size]? = some (.cells #[.pointer (some ⟨b, o, none⟩)] 112)) := fun W' h => by
          obtain ⟨k1, k2, k3, k4⟩ := unhide HWA
          rw [← unhide HEB, ← unhide HNV]
          exact hide_in k1 k2 k3 k4 (unhide HVar) hBw (.inr rfl) (unhide HB1) hvl W' h
        have HJ := hide j2
        clear j1 j2 j3 j4 j5 c4 s1
        have HSC : Hid (∀ w', Below wr.heap.size wr w' → (w'.cell? ⟨r, 0, none⟩ = some sv ∧ w'.cell? ⟨w2.heap.size, 0, none⟩ = some (.pointer (some ⟨b, o, none⟩)) ∧ w'.cell? ⟨b, o + 5, none⟩ = some (.slice aV nv cV))) := fun w' h => by
          obtain ⟨k1, k2, k3, k4⟩ := unhide HWA
          have hrA := (h.block r (Array.getElem?_eq_some_iff.1 k1).1).trans k1
          have hqA := (h.block _ (Array.getElem?_eq_some_iff.1 k4).1).trans k4
          refine ⟨(blk hrA).2.1 0 _ rfl, (blk hqA).2.1 0 _ rfl, ?_⟩
          rw [← unhide HNV]
          exact (((k3.trans (XF.of h (Nat.le_refl _))).below hBw).cell (p := ⟨b, o + 5, none⟩) hb).trans ((unhide HG) 5 _ rfl)
        have HSD : Hid (∀ v1 : World, (∃ sz dp, v1.heap[r]? = some (WV sv sz dp)) → XF B r w v1 → v1.heap[w2.heap.size]? = some (.cells #[.pointer (some ⟨b, o, none⟩)] 112) → (v1.cell? ⟨r, 0, none⟩ = some sv ∧ v1.cell? ⟨w2.heap.size, 0, none⟩ = some (.pointer (some ⟨b, o, none⟩)) ∧ v1.cell? ⟨b, o + 5, none⟩ = some (.slice aV nv cV))) := fun v1 ⟨sz, dp, k1⟩ k3 k4 => by
          refine ⟨(blk k1).2.1 0 _ rfl, (blk k4).2.1 0 _ rfl, ?_⟩
          rw [← unhide HNV]
          exact ((k3.below hBw).cell (p := ⟨b, o + 5, none⟩) hb).trans ((unhide HG) 5 _ rfl)
        obtain ⟨m0, m1, m2⟩ := unhide HSC _ (Below.refl _ _)
        go_region_held3 (fun w' => w'.cell? ⟨r, 0, none⟩ = some sv ∧ w'.cell? ⟨w2.heap.size, 0, none⟩ = some (.pointer (some ⟨b, o, none⟩)) ∧ w'.cell? ⟨b, o + 5, none⟩ = some (.slice aV nv cV)) (first | assumption | exact (unhide HS9) | exact unhide HSC _ (keep0 _)) ((go_at_call 94; refine (unhide HC2 _ (keep0 _)).mono ?_; rintro e v1 ⟨rfl, h1⟩; have HS9 := hide (unhide HSD v1 ⟨_, _, h1.1⟩ h1.2.2.1 h1.2.2.2); have H1 := hide h1; clear h1))
        go_wp2
        go_end0
        obtain ⟨g1, g2, g3, g4⟩ := unhide H1
        exact ⟨rfl, si, di, g1, (unhide HJ).up, g2, g3⟩
  obtain rfl : hid' = hid := by rw [← unhide HE]; unfold within; rw [if_neg h19]
  have hk2 : kindOf t.op ≠ 112 := kindOf_all h19
  generalize kindOf t.op = kk at *
  have ta0 := fun w => ta_no (ty := 112) (v := .agg #[.pointer (some ⟨b, o, none⟩)]) (z := .agg #[.pointer none]) (w := w) hk2 rfl rfl (by go_simp)
  have HH : Hid (∀ k, 0 ≤ hid' k ∧ hid' k + lwt t.l ≤ 400000) := fun k => (unhide HW k).imp id (fun h => by omega)
  clear h19
  go_wp2
  obtain ⟨cs, ecs⟩ : ∃ cs : Array Value, cs = #[.pointer none] := ⟨_, rfl⟩
  rw [← ecs]
  clear ecs
  obtain ⟨A, eA, hA⟩ := unhide HA cs
  rw [eA]
  have HW0 := hide hA
  clear eA hA x1 x2 xf1 xf2 ta0
  go_loopw [10] (fun iv wr => ∃ i si di : Nat, i ≤ n ∧ iv = .int .i64 (i : Int) ∧ wr.heap[r]? = some (WV sv si di) ∧ WR (s0 + 1) (max d0 L) (L + 1) (iszL sub (t.l.take i) hid') (idpL sub (t.l.take i) hid') si di ∧ SLv wr B sv dl sub hid' ∧ XF B r w wr ∧ wr.heap[w2.heap.size]? = some (.cells cs 112)) (fun iv _ => (n - (intOf iv).toNat))
  case atStart =>
    obtain ⟨h1, h2, h3, h4⟩ := unhide HW0
    refine ⟨0, s0 + 1, max d0 L, Nat.zero_le _, rfl, h1, ⟨by omega, ?_⟩, h2, h3, h4⟩
    by_cases h5 : s0 + 1 ≤ 50000
    · exact .inl ⟨by simp only [iszL, List.take_zero, List.map_nil, List.sum_nil]; omega, by simp only [iszL, List.take_zero, List.map_nil, List.sum_nil]; omega, by simp only [idpL, maxOf, List.take_zero, List.map_nil, List.foldl_nil]; omega⟩
    · exact .inr ⟨by omega, by omega, by omega⟩
  case round =>
    obtain ⟨i, si, di, hi, rfl, hWi, hRi, hSi, hXi, hqi⟩ := hrel
    have c4 : wr.cell? ⟨b, o + 4, none⟩ = some (.slice aL n cL) := by
      rw [← unhide HN]
      exact ((hXi.below hBw).cell (p := ⟨b, o + 4, none⟩) hb).trans ((unhide HG) 4 _ rfl)
    have s1 : wr.cell? ⟨r, 1, none⟩ = some (.int .i64 (si : Int)) := (blk hWi).2.1 1 _ rfl
    have hsi : si ≤ 200000 := by obtain ⟨_, h | h⟩ := hRi <;> omega
    have hdi : di ≤ 2000000 := hRi.1
    by_cases hlt : i < n
    · have h1 : i < t.l.length := by have := unhide HN; omega
      have hd1 : decide ((i : Int) < (n : Int)) = true := by simp; omega
      have hIi : (i : Int) < (n : Int) := by omega
      have hcap : (i : Int) < 281474976710656 := by omega
      by_cases hst : si ≤ 50000
      · have hd2 : decide ((si : Int) ≤ 50000) = true := by simp; omega
        obtain ⟨bl, ol, rfl, hblB, hj⟩ := (unhide HRow).2.2 (by have := unhide HN; omega)
        have hTi := hj i h1 _ (List.getElem?_eq_getElem h1)
        have hTr := hTi.more (hXi.below hBw) (Nat.le_refl _) (Nat.le_refl _)
        have hmore := iszL_more (sub := sub) (hid := hid') h1
        have hwi : ∀ k, 0 ≤ hid' k ∧ hid' k + t.l[i].wt ≤ 400000 := fun k => (unhide HH k).imp id (fun h => by
          have h3 : t.l[i].wt ≤ lwt t.l := by
            have := lwt_more h1
            have := lwt_take t.l (i + 1)
            omega
          omega)
        have HC := hide (unhide HIH B r wr bl (ol + i * 7) t.l[i] hid' si di (L + 1) hTr hSi hWi hBr hst hdi (by omega) (by omega) hwi)
        have HP := hide (And.intro hRi (And.intro hXi (And.intro hqi hmore)))
        clear hTi hTr hmore hwi hj hWi hRi hSi hXi hqi
        go_wp2_with fail
        rw [show ((L : Int) + 1) = ((L + 1 : Nat) : Int) by omega]
        refine (unhide HC).mono ?_
        rintro e w7 ⟨rfl, s7, d7, hW7, hR7, hS7, hX7⟩
        obtain ⟨hRi, hXi, hqi, hmore⟩ := unhide HP
        have hR8 := hRi.step hst hR7
        rw [← hmore.1, ← hmore.2] at hR8
        have H7 := hide (And.intro hW7 (And.intro hR8 (And.intro hS7 (And.intro (hXi.trans hX7) (hX7.blk hqi hqr (by decide))))))
        clear hW7 hR7 hS7 hX7 hRi hXi hqi hmore hR8 c4 s1
        go_wp2
        exact ⟨⟨i + 1, s7, d7, by omega, rfl, unhide H7⟩, by simp only [intOf]; omega⟩
      · have hd2 : decide ((si : Int) ≤ 50000) = false := by simp; omega
        have hfin : WR (s0 + 1) (max d0 L) (L + 1) (iszL sub t.l hid') (idpL sub t.l hid') si di := hRi.stop (by omega) (iszL_take _ _ _ _)
        have HF := hide (And.intro hWi (And.intro hfin (And.intro hSi (And.intro hXi hqi))))
        clear hWi hRi hSi hXi hqi hfin
        go_wp2
        go_end0
        obtain ⟨hWi, hfin, hSi, hXi, hqi⟩ := unhide HF
        exact ⟨rfl, si, di, hWi, hfin.up, hSi, hXi⟩
    · have hin : i = n := by omega
      have hd1 : decide ((i : Int) < (n : Int)) = false := by simp; omega
      rw [List.take_of_length_le (by have := unhide HN; omega)] at hRi
      have HF := hide (And.intro hWi (And.intro hRi (And.intro hSi (And.intro hXi hqi))))
      clear hWi hRi hSi hXi hqi hin
      go_wp2
      go_end0
      obtain ⟨hWi, hfin, hSi, hXi, hqi⟩ := unhide HF
      exact ⟨rfl, si, di, hWi, hfin.up, hSi, hXi⟩
theorem weigh_any {sub : ByteArray → Option Tm} (dl : Nat) (sv : Value) (hSub : SubOk sub) : ∀ d, WTermC sub dl sv d
  | 0 => fun _ _ _ _ _ _ _ _ _ _ h => h.elim
  | d + 1 => fun B r w b o t hid s0 d0 L hT hS hW hBr hs0 hd0 hL1 hL hh => by
    cases hr : rep sub hid t.op t.name with
    | some u => exact wterm_some hSub hT hS hW hBr hs0 hd0 hL1 (by omega) hr
    | none => exact wterm_none (weigh_any dl sv hSub d) hT hS hW hBr hs0 hd0 hL1 hL hh hr
end Go.Proofs.YtiockiilenjjaaaDoor
