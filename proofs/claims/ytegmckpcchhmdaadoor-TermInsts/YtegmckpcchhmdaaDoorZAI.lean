/- Names, bound and let go: plain facts. -/
import Derived.Test.YtegmckpcchhmdaaDoorZAH
set_option linter.unusedVariables false
set_option linter.unusedSimpArgs false

/- Patterns, checked. -/
namespace Go.Proofs.YtegmckpcchhmdaaDoor
open Go Go.RowKit
/-- As CF, the map m aside. -/
structure CM (m rb : Nat) (w w' : World) : Prop where
  os : w'.os = w.os
  tape : w'.tape = w.tape
  output : w'.output = w.output
  size : w.heap.size ≤ w'.heap.size
  block : ∀ k, k < w.heap.size → k ≠ rb → k ≠ m → ¬ OB w rb k → w'.heap[k]? = w.heap[k]?
  own : ∀ g, OB w' rb g → OB w rb g ∨ w.heap.size ≤ g
theorem CM.refl (m rb : Nat) (w : World) : CM m rb w w := ⟨rfl, rfl, rfl, Nat.le_refl _, fun _ _ _ _ _ => rfl, fun _ h => .inl h⟩
theorem CM.trans {m rb : Nat} {a b c : World} (h : CM m rb a b) (k : CM m rb b c) : CM m rb a c :=
  ⟨k.os.trans h.os, k.tape.trans h.tape, k.output.trans h.output, Nat.le_trans h.size k.size, fun j hj hr hm ho => by
    refine (k.block j (Nat.lt_of_lt_of_le hj h.size) hr hm fun o => ?_).trans (h.block j hj hr hm ho)
    rcases h.own j o with o | o
    · exact ho o
    · omega, fun g o => by
    rcases k.own g o with o | o
    · exact h.own g o
    · exact .inr (Nat.le_trans h.size o)⟩
theorem CM.of {m rb : Nat} {w w' : World} (h : CF rb w w') : CM m rb w w' := ⟨h.os, h.tape, h.output, h.size, fun k hk h1 _ h2 => h.block k hk h1 h2, h.own⟩
theorem CM.but {m rb : Nat} {w w' : World} (h : But m w w') (hne : rb ≠ m) (hrb : rb < w.heap.size) : CM m rb w w' :=
  ⟨h.os, h.tape, h.output, h.size, fun k hk _ hm _ => h.block k hk hm, fun _ o => .inl (o.same (h.block rb hrb hne))⟩
theorem CM.blk {m rb q : Nat} {w w' : World} {x : Obj} (h : CM m rb w w') (hx : w.heap[q]? = some x) (hq : q ≠ rb) (hm : q ≠ m) (ho : ¬ OB w rb q) : w'.heap[q]? = some x := by
  rw [h.block q (Array.getElem?_eq_some_iff.1 hx).1 hq hm ho]
  exact hx
section
variable {w : World} {B r rf rb : Nat} {sig : List Fn} {env : ByteArray → List Int}
theorem KS.map_free (h : KS w B r rf rb sig env) {m : Nat} {es : List (ByteArray × Value)} (hm : NM w m es) : ¬ OB w rb m := fun o => by
  obtain ⟨_, _, cur, hc⟩ := h.owned o
  obtain ⟨a, c, h1, _⟩ := hm
  rw [h1] at hc
  cases hc
theorem KS.map_r (h : KS w B r rf rb sig env) {m : Nat} {es : List (ByteArray × Value)} (hm : NM w m es) : r ≠ m := fun e => by
  obtain ⟨a, c, h1, _⟩ := hm
  have := h.blk
  rw [e, h1] at this
  cases this
/-- What changes another map leaves a checker alone. -/
theorem KS.but {w' : World} {m : Nat} (h : KS w B r rf rb sig env) (hb : But m w w') (hB : B ≤ m) (h1 : r ≠ m) (h2 : rf ≠ m) (h3 : rb ≠ m) (h4 : ¬ OB w rb m) : KS w' B r rf rb sig env := by
  have g1 := h.r_lt
  have g2 := h.rf_lt
  have g3 := h.rb_lt
  have g4 := h.hrf
  refine ⟨h.hr, h.hrf, h.hrb, h.ne, by rw [hb.block r g1 h1]; exact h.blk, h.fm.same (hb.below hB (by omega)) (hb.block rf g2 h2), ?_⟩
  have hO := fun g (o : OB w rb g) => (h.owned o).2.1
  obtain ⟨es, e1, e2, e3⟩ := h.bm
  refine ⟨es, e1.same (hb.block rb g3 h3), fun k => (e2 k).imp id ?_, e3⟩
  rintro ⟨v, f1, f2, f3⟩
  refine ⟨v, f1, ⟨f2.1, f2.2.imp id ?_⟩, f3⟩
  rintro ⟨g, cap, cur, rfl, k1, k2, k3⟩
  have ho : OB w rb g := ⟨es, k, _, e1, f1, rfl⟩
  exact ⟨g, cap, cur, rfl, k1, by rw [hb.block g (hO g ho) (fun e => h4 (by rw [← e]; exact ho))]; exact k2, k3⟩
theorem KS.cm_below (h : KS w B r rf rb sig env) {w' : World} {m : Nat} (hc : CM m rb w w') (hm : B ≤ m) : Below B w w' := by
  have hs := h.rb_lt
  have hb := h.hrb
  exact ⟨hc.os, hc.tape, hc.output, hc.size, fun k hk => hc.block k (by omega) (by omega) (by omega) fun o => by have := (h.owned o).1; omega⟩
end
def KPo (p : Int × Int) (B r rf rb : Nat) (sig : List Fn) (env : ByteArray → List Int) (w : World) (e : Ending) (w' : World) : Prop := e = .returned (pairV p) ∧ KS w' B r rf rb sig env ∧ CF rb w w'
def KTermC (rt : ByteArray → Bool) (sig : List Fn) (d : Nat) : Prop := ∀ (B r rf rb : Nat) (env : ByteArray → List Int) (w : World) (b o : Nat) (t : Tm), TmAt w B d b o t → OkT (PC rt) d t → RL w → KS w B r rf rb sig env → (∀ k, (env k).length + t.wt ≤ 1000000) →
    Calls Tryd.prog 28 #[.pointer (some ⟨r, 0, none⟩), .pointer (some ⟨b, o, none⟩)] w (KPo (t.chk rt sig env) B r rf rb sig env w)
def Tm.patE (rt : ByteArray → Bool) (sig : List Fn) (env : ByteArray → List Int) (p : Tm) : Int := Go.Proofs.YtegmckpcchhmdaaDoor.patE (limE p) p.op p.bare (p.chk rt sig env).2
def QPost (err : Int) (m : Nat) (names vn : List ByteArray) (B r rf rb : Nat) (sig : List Fn) (env : ByteArray → List Int) (w : World) (e : Ending) (w' : World) : Prop := e = .returned (.int .i64 err) ∧ KS w' B r rf rb sig env ∧ (∃ ns, NM w' m (seenL ns) ∧ (err = 0 → ns = names ++ vn)) ∧ CM m rb w w'
theorem OkT.sizes {P : ByteArray → Prop} {d : Nat} {t : Tm} (h : OkT P d t) : t.size ≤ 65536 ∧ t.depth ≤ 65537 := by
  cases d with
  | zero => exact h.elim
  | succ d => exact ⟨h.2.2.2.1, h.2.2.2.2.1⟩
theorem limE_cases (t : Tm) : limE t = 0 ∨ (limE t != 0) = true := by
  by_cases h : limE t = 0
  · exact .inl h
  · exact .inr (by simp [h])
set_option maxRecDepth 1000000 in
set_option maxHeartbeats 16000000 in
theorem pattern_any {rt : ByteArray → Bool} {sig : List Fn} {d : Nat} (ih : KTermC rt sig d) {B r rf rb m : Nat} {env : ByteArray → List Int} {w : World} {b o : Nat} {p : Tm} {names : List ByteArray} (hT : TmAt w B d b o p) (hO : OkT (PC rt) d p) (hR : RL w) (hK : KS w B r rf rb sig env) (hE : ∀ k, (env k).length + p.wt ≤ 1000000) (hM : NM w m (seenL names)) (hm : B ≤ m) (hmf : rf ≠ m) (hmb : rb ≠ m) :
    Calls Tryd.prog 72 #[.pointer (some ⟨r, 0, none⟩), .pointer (some ⟨b, o, none⟩), .map (some m)] w (QPost (p.patE rt sig env) m names p.vn B r rf rb sig env w) := by
  have hBw : B ≤ w.heap.size := by have := hK.r_lt; have := hK.hr; omega
  have hrb := hK.rb_lt
  have hmw := hM.lt
  have HLim := hide (limits_any hT hBw hO.sizes.1 hO.sizes.2)
  obtain ⟨bb, hb0, c0⟩ : ∃ _ : True, b < B ∧ w.cell? ⟨b, o, none⟩ = some (.int .i64 p.op) := by
    cases d with
    | zero => exact hT.elim
    | succ d =>
      obtain ⟨hb, _, _, aL, aV, aP, cL, cV, cP, hrg, _⟩ := hT
      exact ⟨trivial, hb, hrg 0 _ rfl⟩
  have hB0 : 0 < B := by omega
  have HI := hide (And.intro hT (And.intro hO (And.intro hR (And.intro hK (And.intro hE hM)))))
  have HIH := hide ih
  have hE1 : p.patE rt sig env = Go.Proofs.YtegmckpcchhmdaaDoor.patE (limE p) p.op p.bare (p.chk rt sig env).2 := rfl
  have HE1 := hide hE1
  clear hT hO hR hK hE hM ih bb hE1
  generalize hpe : p.patE rt sig env = pe at *
  rcases limE_cases p with hl | hl
  · have HL := hide hl
    rw [hl] at HLim
    clear hl
    go_enter Tryd.func72, Tryd.ntmps72
    go_wp2_with fail
    refine (unhide HLim).mono ?_
    rintro e w1 ⟨rfl, hb1⟩
    have c01 : w1.cell? ⟨b, o, none⟩ = some (.int .i64 p.op) := (hb1.cell (p := ⟨b, o, none⟩) (by show b < _; omega)).trans c0
    have HB1 := hide hb1
    clear hb1 c0
    go_wp2_with fail
    refine (view_any b o p.op w1 c01 (by have := (unhide HB1).size; omega)).mono ?_
    rintro e w2 ⟨rfl, hb2⟩
    have hb02 : Below w.heap.size w w2 := (unhide HB1).trans (hb2.mono (unhide HB1).size)
    have HB2 := hide hb02
    clear hb2 hb02 c01 HB1
    by_cases h17 : p.op = 17
    · have hkk : kindOf p.op = 134 := by rw [h17]; rfl
      rw [hkk]
      have H17 := hide h17
      clear h17 hkk
      have ta0 := fun w => ta_yes (ty := 134) (v := .agg #[.pointer (some ⟨b, o, none⟩)]) (w := w) rfl rfl
      obtain ⟨V, eV, hbV, hsV, hcV, hhV⟩ := box_new w2 #[.pointer (some ⟨b, o, none⟩)] 134
      obtain ⟨hT, hO, hR, hK, hE, hM⟩ := unhide HI
      have hbwV : Below w.heap.size w V := (unhide HB2).trans (hbV.mono (unhide HB2).size)
      have HPat := hide (pat_any d B m V b o p names (hT.more (hbwV.mono hBw) (Nat.le_refl _) (Nat.le_refl _)) (hM.below hbwV hmw) hm (hR.below hbwV (by omega)))
      have HBV := hide hbwV
      clear hT hO hR hK hE hM hbwV hbV hsV hcV hhV
      cases hq : p.bare with
      | false =>
        have HQ := hide hq
        rw [hq] at HPat
        clear hq
        go_wp2_with fail
        refine (unhide HPat).mono ?_
        rintro e w3 ⟨rfl, h3, h4⟩
        have H3 := hide (And.intro h3 h4)
        clear h3 h4
        go_wp2
        go_ret
        obtain ⟨hT, hO, hR, hK, hE, hM⟩ := unhide HI
        obtain ⟨⟨ns, hns, _⟩, hbut⟩ := unhide H3
        have hbw3 : But m w w3 := (But.of (unhide HBV) (Nat.le_refl _)).trans hbut
        have hpe30 : pe = 30 := by rw [unhide HE1, Go.Proofs.YtegmckpcchhmdaaDoor.patE, unhide HL, unhide HQ]; simp
        exact ⟨by rw [hpe30]; rfl, hK.but hbw3 hm (hK.map_r hM) hmf hmb (hK.map_free hM), ⟨ns, hns, fun h => by rw [hpe30] at h; cases h⟩, CM.but hbw3 hmb hrb⟩
      | true =>
        have HQ := hide hq
        rw [hq] at HPat
        clear hq
        go_wp2_with fail
        refine (unhide HPat).mono ?_
        rintro e w3 ⟨rfl, h3, h4⟩
        obtain ⟨hT, hO, hR, hK, hE, hM⟩ := unhide HI
        have hbw3 : But m w w3 := (But.of (unhide HBV) (Nat.le_refl _)).trans h4
        have hK3 := hK.but hbw3 hm (hK.map_r hM) hmf hmb (hK.map_free hM)
        have hbel3 : Below B w w3 := hbw3.below hm hBw
        have HCall := hide (unhide HIH B r rf rb env w3 b o p (hT.more hbel3 (Nat.le_refl _) (Nat.le_refl _)) hO (hR.below hbel3 hB0) hK3 hE)
        have H3 := hide (And.intro h3 (And.intro hbw3 hK3))
        clear h3 h4 hbw3 hK3 hbel3 hT hO hR hK hE hM
        obtain ⟨x, y, hxy⟩ : ∃ x y, p.chk rt sig env = (x, y) := ⟨_, _, rfl⟩
        rw [hxy] at HCall
        have HXY := hide hxy
        clear hxy
        go_wp2_with fail
        refine (unhide HCall).mono ?_
        rintro e w4 ⟨rfl, h5, h6⟩
        have H5 := hide (And.intro h5 h6)
        clear h5 h6
        unfold pairV
        go_wp2
        go_ret
        obtain ⟨⟨ns, hns, hnse⟩, hbw3, hK3⟩ := unhide H3
        obtain ⟨hK4, hCF⟩ := unhide H5
        have hpey : pe = y := by rw [unhide HE1, Go.Proofs.YtegmckpcchhmdaaDoor.patE, unhide HL, unhide HQ, unhide HXY, unhide H17]; simp
        refine ⟨by rw [hpey]; rfl, hK4, ⟨ns, ?_, fun _ => hnse (by first | rfl | trivial)⟩, (CM.but hbw3 hmb hrb).trans (CM.of hCF)⟩
        exact hns.same (hCF.block m hns.lt (fun e => hmb e.symm) (hK3.map_free hns))
    · have hkk : kindOf p.op ≠ 134 := by
        rcases op_kind (op := p.op) with ⟨h, e⟩ | ⟨h, e⟩ | ⟨h, e⟩ | ⟨h, e⟩ | ⟨h, e⟩ | ⟨h, e⟩ | ⟨h, e⟩ <;> first | exact absurd h h17 | (rw [e]; decide)
      have H17 := hide h17
      clear h17
      generalize kindOf p.op = kk at *
      have ta0 := fun w => ta_no (ty := 134) (v := .agg #[.pointer (some ⟨b, o, none⟩)]) (z := .agg #[.pointer none]) (w := w) hkk rfl rfl (by go_simp)
      go_wp2
      go_ret
      obtain ⟨hT, hO, hR, hK, hE, hM⟩ := unhide HI
      have hbb : Below w.heap.size w (w2.alloc (.cells #[.pointer none] 134)) := (unhide HB2).alloc (unhide HB2).size _
      have hpe30 : pe = 30 := by rw [unhide HE1, Go.Proofs.YtegmckpcchhmdaaDoor.patE, unhide HL]; simp [unhide H17]
      exact ⟨by rw [hpe30]; rfl, hK.below hbb (Nat.le_refl _), ⟨names, hM.below hbb hmw, fun h => by rw [hpe30] at h; cases h⟩, CM.of (CF.of hbb (Nat.le_refl _) hrb)⟩
  · have HL := hide hl
    generalize hle : limE p = le at *
    have HLe := hide hle
    clear hle
    go_enter Tryd.func72, Tryd.ntmps72
    go_wp2_with fail
    refine (unhide HLim).mono ?_
    rintro e w1 ⟨rfl, hb1⟩
    have HB1 := hide hb1
    clear hb1
    go_wp2
    go_ret
    obtain ⟨hT, hO, hR, hK, hE, hM⟩ := unhide HI
    have hle0 : le ≠ 0 := by simpa using unhide HL
    have hpel : pe = le := by rw [unhide HE1, Go.Proofs.YtegmckpcchhmdaaDoor.patE, if_pos hle0]
    exact ⟨by rw [hpel]; rfl, hK.below (unhide HB1) (Nat.le_refl _), ⟨names, hM.below (unhide HB1) hmw, fun h => absurd (hpel ▸ h) hle0⟩, CM.of (CF.of (unhide HB1) (Nat.le_refl _) hrb)⟩
end Go.Proofs.YtegmckpcchhmdaaDoor

/- Under binders: the body, the patterns, the names in them. -/
namespace Go.Proofs.YtegmckpcchhmdaaDoor
open Go Go.RowKit
theorem CF.cm {m rb : Nat} {w0 w1 w2 : World} (h : CF rb w0 w1) (k : CM m rb w1 w2) (hm : w0.heap.size ≤ m) : CF rb w0 w2 :=
  ⟨k.os.trans h.os, k.tape.trans h.tape, k.output.trans h.output, Nat.le_trans h.size k.size, fun j hj hr ho => by
    refine (k.block j (Nat.lt_of_lt_of_le hj h.size) hr (by omega) fun o => ?_).trans (h.block j hj hr ho)
    rcases h.own j o with o | o
    · exact ho o
    · omega, fun g o => by
    rcases k.own g o with o | o
    · exact h.own g o
    · exact .inr (Nat.le_trans h.size o)⟩
def Tm.under (rt : ByteArray → Bool) (sig : List Fn) (env : ByteArray → List Int) (t : Tm) : Int := underE (headF (t.l.map (Tm.chk rt sig)) env) (t.pat.map (Tm.patE rt sig env)) t.vars ((t.pat.map Tm.vn).flatten)
theorem firstE_snoc (l : List Int) (e : Int) : firstE (l ++ [e]) = if firstE l ≠ 0 then firstE l else e := by
  induction l with
  | nil =>
    show (if e ≠ 0 then e else firstE []) = _
    by_cases h : e = 0
    · simp [h, firstE]
    · simp [h, firstE]
  | cons a l ih =>
    show (if a ≠ 0 then a else firstE (l ++ [e])) = if (if a ≠ 0 then a else firstE l) ≠ 0 then (if a ≠ 0 then a else firstE l) else e
    by_cases h : a = 0
    · simp only [h, ne_eq, not_true_eq_false, if_false]
      rw [ih]
    · simp [h]
theorem firstE_at {l : List Int} {i : Nat} (h : i < l.length) (h0 : firstE (l.take i) = 0) (he : l[i] ≠ 0) : firstE l = l[i] := by
  induction l generalizing i with
  | nil => simp at h
  | cons a l ih =>
    cases i with
    | zero =>
      have he' : a ≠ 0 := he
      show (if a ≠ 0 then a else firstE l) = a
      rw [if_pos he']
    | succ i =>
      have h0' : (if a ≠ 0 then a else firstE (l.take i)) = 0 := h0
      by_cases ha : a = 0
      · subst ha
        rw [if_neg (by simp)] at h0'
        have h2 : i < l.length := by simpa using h
        show (if (0 : Int) ≠ 0 then 0 else firstE l) = l[i]'h2
        rw [if_neg (by simp)]
        exact ih h2 h0' he
      · rw [if_pos ha] at h0'
        exact absurd h0' ha
theorem type_free {w : World} {B r rf rb : Nat} {sig : List Fn} {env : ByteArray → List Int} (h : KS w B r rf rb sig env) {q : Nat} {cs : Array Value} {ty : TypeId} (hq : w.heap[q]? = some (.cells cs ty)) (ht : ty ≠ 3) : ¬ OB w rb q := fun o => by
  obtain ⟨_, _, cur, hc⟩ := h.owned o
  rw [hq] at hc
  injection hc with hc
  injection hc with _ hc
  exact ht hc
theorem cells_ne {w : World} {B r rf rb : Nat} {sig : List Fn} {env : ByteArray → List Int} (h : KS w B r rf rb sig env) {q : Nat} {cs : Array Value} {ty : TypeId} (hq : w.heap[q]? = some (.cells cs ty)) : q ≠ rb := fun e => by
  obtain ⟨es, ⟨a, c, h1, _⟩, _⟩ := h.bm
  rw [e, h1] at hq
  cases hq
theorem nm_ne {w : World} {q m : Nat} {es : List (ByteArray × Value)} {cs : Array Value} {ty : TypeId} (h : NM w m es) (hq : w.heap[q]? = some (.cells cs ty)) : q ≠ m := fun e => by
  obtain ⟨a, c, h1, _⟩ := h
  rw [e, h1] at hq
  cases hq
theorem seenL_val (k : ByteArray) (l : List ByteArray) : look k (seenL l) = if memB k l = true then some (.agg #[]) else none := by
  refine snoc_ind (p := fun l => look k (seenL l) = if memB k l = true then some (.agg #[]) else none) rfl (fun l a ih => ?_) l
  rw [seenL_snoc, look_put, memB_snoc, ih]
  by_cases h : k = a
  · simp [h]
  · have : ¬ a = k := fun e => h e.symm
    rw [if_neg h]
    simp [this]
theorem seen_asked {w : World} {m : Nat} {l : List ByteArray} (h : NM w m (seenL l)) (k : ByteArray) : (Instr.lookup 175 (.map (some m)) (.string k) true).run Tryd.prog w = .ok (.tuple #[.agg #[], .bool (memB k l)]) w := by
  have hl := (nm_lookup (k := k) umU ukS (zero_unit w) h).1
  rw [seenL_val] at hl
  cases hm : memB k l with
  | true => rw [hm, if_pos rfl] at hl; exact hl
  | false => rw [hm, if_neg (by decide)] at hl; exact hl
def UPost (err : Int) (B r rf rb : Nat) (sig : List Fn) (env : ByteArray → List Int) (w : World) (e : Ending) (w' : World) : Prop := e = .returned (.int .i64 err) ∧ KS w' B r rf rb sig env ∧ CF rb w w'
set_option maxRecDepth 1000000 in
set_option maxHeartbeats 16000000 in
theorem under_any {rt : ByteArray → Bool} {sig : List Fn} {d : Nat} (ih : KTermC rt sig d) {B r rf rb : Nat} {env : ByteArray → List Int} {w : World} {b o : Nat} {t : Tm} (hT : TmAt w B (d + 1) b o t) (hO : OkT (PC rt) (d + 1) t) (hR : RL w) (hK : KS w B r rf rb sig env) (hE : ∀ k, (env k).length + (lwt t.l + lwt t.pat) ≤ 1000000) (h1 : t.l.length = 1) :
    Calls Tryd.prog 59 #[.pointer (some ⟨r, 0, none⟩), .agg #[.pointer (some ⟨b, o, none⟩)]] w (UPost (t.under rt sig env) B r rf rb sig env w) := by
  have hBw : B ≤ w.heap.size := by have := hK.r_lt; have := hK.hr; omega
  have hrb := hK.rb_lt
  obtain ⟨_, _, hO3, _, _, hOl, hOp⟩ := hO
  obtain ⟨hb, _, _, aL, aV, aP, cL, cV, cP, hrg, hL, hV, hP, _⟩ := hT
  have hbw : b < w.heap.size := by omega
  have hB0 : 0 < B := by omega
  obtain ⟨u, hu⟩ : ∃ u, t.l = [u] := by
    match hl : t.l, h1 with
    | [u], _ => exact ⟨u, rfl⟩
  obtain ⟨bl, ol, hbl⟩ : ∃ bl ol, aL = some ⟨bl, ol, none⟩ ∧ TmAt w B d bl ol u := by
    obtain ⟨bl, ol, e, _, hj⟩ := hL.2.2 (by omega)
    have := hj 0 (by omega) u (by rw [hu]; rfl)
    simp only [Nat.zero_mul, Nat.add_zero] at this
    exact ⟨bl, ol, e, this⟩
  obtain ⟨rfl, hTu⟩ := hbl
  have hOu : OkT (PC rt) d u := hOl u (by rw [hu]; exact List.mem_singleton.2 rfl)
  have hlu : lwt t.l = u.wt := by rw [hu]; simp [lwt]
  have hUn : t.under rt sig env = underE (u.chk rt sig env) (t.pat.map (Tm.patE rt sig env)) t.vars ((t.pat.map Tm.vn).flatten) := by unfold Tm.under; rw [hu]; rfl
  obtain ⟨V, eV, hbV, hsV, hcV, hhV⟩ := box_new w #[.pointer (some ⟨b, o, none⟩)] 82
  have hKV := hK.below hbV (Nat.le_refl _)
  have v0 : V.cell? ⟨w.heap.size, 0, none⟩ = some (.pointer (some ⟨b, o, none⟩)) := hcV 0 _ rfl
  have v4 : V.cell? ⟨b, o + 4, none⟩ = some (.slice (some ⟨bl, ol, none⟩) t.l.length cL) := (hbV.cell (p := ⟨b, o + 4, none⟩) hbw).trans (hrg 4 _ rfl)
  rw [h1] at v4
  have HC1 := hide (ih B r rf rb env V bl ol u (hTu.more (hbV.mono hBw) (Nat.le_refl _) (Nat.le_refl _)) hOu (hR.below hbV (by omega)) hKV (fun k => by have := hE k; omega))
  have HG := hide hrg
  have HI := hide (And.intro hV (And.intro hP (And.intro hR (And.intro hO3 (And.intro hOp hE)))))
  have HIH := hide ih
  have HU := hide hUn
  have HK := hide hK
  have HV := hide (And.intro hbV (And.intro hhV (And.intro hsV hKV)))
  have hpm : t.pat.length ≤ 281474976710656 := by have := hP.1; have := hP.2.1; omega
  have hvm : t.vars.length ≤ 281474976710656 := by have := hV.1; have := hV.2.1; omega
  clear hK hE ih hO3 hOl hOp hrg hL hV hP hR hTu hOu hlu hu hUn hbV hsV hcV hhV hKV h1
  obtain ⟨x, y, hxy⟩ : ∃ x y, u.chk rt sig env = (x, y) := ⟨_, _, rfl⟩
  rw [hxy] at HC1 HU
  clear hxy
  generalize hue : t.under rt sig env = ue at *
  go_enter Tryd.func59, Tryd.ntmps59
  go_wp2_with fail
  refine (unhide HC1).mono ?_
  rintro e w2 ⟨rfl, hK2, hC2⟩
  unfold pairV
  obtain ⟨hbV, hhV, hsV, hKV⟩ := unhide HV
  have hq2 := hC2.blk hhV (cells_ne hKV hhV) (type_free hKV hhV (by decide))
  have hC02 : CF rb w w2 := (CF.of hbV (Nat.le_refl _) hrb).trans hC2
  have H2 := hide (And.intro hK2 (And.intro hC02 hq2))
  clear hK2 hC2 hbV hhV hsV hKV hq2 hC02 v0 v4 HC1 HV eV
  by_cases hy : y = 0
  · subst hy
    by_cases hx : x = 2
    · subst hx
      have km : (Instr.makeMap 175 none).run Tryd.prog w2 = .ok (.map (some w2.heap.size)) (w2.alloc (.map #[] 0)) := rfl
      obtain ⟨np, hnp⟩ : ∃ n, t.pat.length = n := ⟨_, rfl⟩
      obtain ⟨nv, hnv⟩ : ∃ n, t.vars.length = n := ⟨_, rfl⟩
      have HNN := hide (And.intro hnp hnv)
      rw [hnp] at hpm
      rw [hnv] at hvm
      clear hnp hnv
      obtain ⟨W, eW, hbW, hsW, hNW⟩ : ∃ W, w2.alloc (.map #[] 0) = W ∧ Below w2.heap.size w2 W ∧ W.heap.size = w2.heap.size + 1 ∧ NM W w2.heap.size (seenL []) := ⟨_, rfl, (Below.refl _ w2).alloc (Nat.le_refl _) _, by simp, NM.new w2⟩
      rw [eW] at km
      obtain ⟨hK2, hC02, hq2⟩ := unhide H2
      have hq2lt := (Array.getElem?_eq_some_iff.1 hq2).1
      have hKW := hK2.below hbW (Nat.le_refl _)
      have hC0W : CF rb w W := hC02.trans (CF.of hbW (Nat.le_refl _) hK2.rb_lt)
      have hqW := (hbW.block w.heap.size hq2lt).trans hq2
      have hbelW : Below B w W := ((unhide HK).cf_below hC02).trans (hbW.mono (by have := hC02.size; omega))
      have hmB : B ≤ w2.heap.size := by have := hC02.size; omega
      have hmf : rf ≠ w2.heap.size := by have := hK2.rf_lt; omega
      have hmb : rb ≠ w2.heap.size := by have := hK2.rb_lt; omega
      have hmw : w.heap.size ≤ w2.heap.size := hC02.size
      have HWW := hide (And.intro hKW (And.intro hC0W (And.intro hqW (And.intro hbelW hNW))))
      have q0 : W.cell? ⟨w.heap.size, 0, none⟩ = some (.pointer (some ⟨b, o, none⟩)) := (blk hqW).2.1 0 _ rfl
      have d6 : W.cell? ⟨b, o + 6, none⟩ = some (.slice aP np cP) := by
        rw [← (unhide HNN).1]
        exact (hbelW.cell (p := ⟨b, o + 6, none⟩) hb).trans ((unhide HG) 6 _ rfl)
      clear hK2 hC02 hq2 hq2lt hKW hC0W hqW hbelW hNW hbW eW
      generalize w2.heap.size = m at *
      have HSW := hide hsW
      clear hsW
      go_wp2
      go_loopw [41] (fun iv wr => ∃ i : Nat, i ≤ np ∧ iv = .int .i64 (i : Int) ∧ firstE ((t.pat.take i).map (Tm.patE rt sig env)) = 0 ∧ NM wr m (seenL ((t.pat.take i).map Tm.vn).flatten) ∧ KS wr B r rf rb sig env ∧ CM m rb W wr ∧ wr.heap[w.heap.size]? = some (.cells #[.pointer (some ⟨b, o, none⟩)] 82)) (fun iv _ => (np - (intOf iv).toNat))
      case atStart =>
        obtain ⟨hKW, hC0W, hqW, hbelW, hNW⟩ := unhide HWW
        exact ⟨0, Nat.zero_le _, rfl, rfl, hNW, hKW, CM.refl _ _ _, hqW⟩
      case round =>
        obtain ⟨i, hi, rfl, hfe, hNi, hKi, hCi, hqi⟩ := hrel
        obtain ⟨hKW, hC0W, hqW, hbelW, hNW⟩ := unhide HWW
        have hbeli : Below B w wr := hbelW.trans (hKW.cm_below hCi hmB)
        have q0i : wr.cell? ⟨w.heap.size, 0, none⟩ = some (.pointer (some ⟨b, o, none⟩)) := (blk hqi).2.1 0 _ rfl
        clear q0 d6
        by_cases hlt : i < np
        · have h1 : i < t.pat.length := by have := (unhide HNN).1; omega
          have hd1 : decide ((i : Int) < (np : Int)) = true := by simp; omega
          have hXi : (i : Int) < (np : Int) := by omega
          have hcap : (i : Int) < 281474976710656 := by omega
          have c6i : wr.cell? ⟨b, o + 6, none⟩ = some (.slice aP np cP) := by
            rw [← (unhide HNN).1]
            exact (hbeli.cell (p := ⟨b, o + 6, none⟩) hb).trans ((unhide HG) 6 _ rfl)
          obtain ⟨hV, hP, hR, hO3, hOp, hE⟩ := unhide HI
          obtain ⟨bp, op, rfl, hbpB, hj⟩ := hP.2.2 (by omega)
          have hA := (hj i h1 _ (List.getElem?_eq_getElem h1)).more hbeli (Nat.le_refl _) (Nat.le_refl _)
          have hEi : ∀ k, (env k).length + t.pat[i].wt ≤ 1000000 := fun k => by
            have h2 := hE k
            have h3 : t.pat[i].wt ≤ lwt t.pat := by
              have := lwt_more h1
              have := lwt_take t.pat (i + 1)
              omega
            omega
          have HCall := hide (pattern_any (unhide HIH) (names := ((t.pat.take i).map Tm.vn).flatten) hA (hOp _ (List.getElem_mem h1)) (hR.below hbeli hB0) hKi hEi hNi hmB hmf hmb)
          have hsn : (t.pat.take (i + 1)).map (Tm.patE rt sig env) = (t.pat.take i).map (Tm.patE rt sig env) ++ [t.pat[i].patE rt sig env] := by rw [take_more h1, List.map_append]; rfl
          have hvn : ((t.pat.take (i + 1)).map Tm.vn).flatten = ((t.pat.take i).map Tm.vn).flatten ++ t.pat[i].vn := by rw [take_more h1, List.map_append, List.flatten_append]; simp
          have hat : t.pat[i].patE rt sig env ≠ 0 → firstE (t.pat.map (Tm.patE rt sig env)) = t.pat[i].patE rt sig env := fun h => by
            have := firstE_at (l := t.pat.map (Tm.patE rt sig env)) (i := i) (by simpa using h1) (by rw [← List.map_take]; exact hfe) (by simpa using h)
            simpa using this
          have HP := hide (And.intro hfe (And.intro hsn (And.intro hvn (And.intro hat (And.intro hKi (And.intro hCi (And.intro hqi hNi)))))))
          have hpq : Hid (t.pat[i].patE rt sig env = t.pat[i].patE rt sig env) := rfl
          clear hKW hC0W hqW hbelW hNW hbeli hV hP hR hO3 hOp hE hj hA hEi hsn hvn hat hfe hNi hKi hCi hqi
          generalize hpe : t.pat[i].patE rt sig env = pe at *
          clear hpq hpe
          by_cases hp0 : pe = 0
          · subst hp0
            go_wp2_with fail
            refine (unhide HCall).mono ?_
            rintro e w4 ⟨rfl, h4, h5, h6⟩
            have H4 := hide (And.intro h4 (And.intro h5 h6))
            clear h4 h5 h6
            go_wp2
            obtain ⟨hfe, hsn, hvn, hat, hKi, hCi, hqi, hNi⟩ := unhide HP
            obtain ⟨hK4, ⟨ns, hns, hnse⟩, hC4⟩ := unhide H4
            refine ⟨⟨i + 1, by omega, rfl, ?_, ?_, hK4, hCi.trans hC4, hC4.blk hqi (cells_ne hKi hqi) (nm_ne hNi hqi) (type_free hKi hqi (by decide))⟩, by simp only [intOf]; omega⟩
            · rw [hsn, firstE_snoc, hfe]; simp
            · rw [hvn, ← hnse (by first | rfl | trivial)]; exact hns
          · have ep : (pe != 0) = true := by simp [hp0]
            have HP0 := hide hp0
            clear hp0
            go_wp2_with fail
            refine (unhide HCall).mono ?_
            rintro e w4 ⟨rfl, h4, h5, h6⟩
            have H4 := hide (And.intro h4 (And.intro h5 h6))
            clear h4 h5 h6
            go_wp2
            go_ret
            obtain ⟨hfe, hsn, hvn, hat, hKi, hCi, hqi, hNi⟩ := unhide HP
            obtain ⟨hK4, _, hC4⟩ := unhide H4
            obtain ⟨hKW, hC0W, hqW, hbelW, hNW⟩ := unhide HWW
            refine ⟨?_, hK4, hC0W.cm (hCi.trans hC4) hmw⟩
            rw [unhide HU]
            unfold underE
            rw [if_neg (by simp), if_neg (by simp), hat (unhide HP0), if_pos (unhide HP0)]
            rfl
        · have hin : i = np := by omega
          have hd1 : decide ((i : Int) < (np : Int)) = false := by simp; omega
          have htake : t.pat.take i = t.pat := List.take_of_length_le (by have := (unhide HNN).1; omega)
          rw [htake] at hfe hNi
          have d5 : wr.cell? ⟨b, o + 5, none⟩ = some (.slice aV nv cV) := by
            rw [← (unhide HNN).2]
            exact (hbeli.cell (p := ⟨b, o + 5, none⟩) hb).trans ((unhide HG) 5 _ rfl)
          have hmlt := hNi.lt
          have HF := hide (And.intro hfe (And.intro hNi (And.intro hKi (And.intro (hC0W.cm hCi hmw) hbeli))))
          clear htake hfe hNi hKi hCi hqi hin hKW hC0W hqW hbelW hNW hbeli
          obtain ⟨W5, e5⟩ : ∃ W5, W5 = wr := ⟨_, rfl⟩
          subst e5
          go_wp2
          go_loopw [66] (fun jv ws => ∃ j : Nat, j ≤ nv ∧ jv = .int .i64 (j : Int) ∧ ((t.vars.take j).all fun v => memB v.1 ((t.pat.map Tm.vn).flatten)) = true ∧ Below W5.heap.size W5 ws) (fun jv _ => (nv - (intOf jv).toNat))
          case atStart => exact ⟨0, Nat.zero_le _, rfl, rfl, Below.refl _ _⟩
          case round =>
            obtain ⟨j, hj, rfl, hall, hbs⟩ := hrel
            clear q0i d5
            obtain ⟨hfe, hN5, hK5, hC05, hbel5⟩ := unhide HF
            have hBW5 : B ≤ W5.heap.size := by have := hK5.hr; have := hK5.r_lt; omega
            by_cases hlt2 : j < nv
            · have h1 : j < t.vars.length := by have := (unhide HNN).2; omega
              have hd2 : decide ((j : Int) < (nv : Int)) = true := by simp; omega
              have hXj : (j : Int) < (nv : Int) := by omega
              have hcapj : (j : Int) < 281474976710656 := by omega
              obtain ⟨hV, hP, hR, hO3, hOp, hE⟩ := unhide HI
              obtain ⟨bv, ov, rfl, hbvB, hjv⟩ := hV.2.2 (by omega)
              obtain ⟨rg, hfit⟩ := hjv j h1 _ (List.getElem?_eq_getElem h1)
              have hbels : Below B w wr := hbel5.trans (hbs.mono hBW5)
              have htk : ((t.vars.take (j + 1)).all fun v => memB v.1 ((t.pat.map Tm.vn).flatten)) = (((t.vars.take j).all fun v => memB v.1 ((t.pat.map Tm.vn).flatten)) && memB t.vars[j].1 ((t.pat.map Tm.vn).flatten)) := by rw [take_more h1, List.all_append]; simp
              have hno : memB t.vars[j].1 ((t.pat.map Tm.vn).flatten) = false → (t.vars.all fun v => memB v.1 ((t.pat.map Tm.vn).flatten)) = false := fun h => by rw [List.all_eq_false]; exact ⟨_, List.getElem_mem h1, by rw [h]; decide⟩
              generalize hu : t.vars[j] = u at *
              obtain ⟨u1, u2⟩ := u
              have p0 : wr.cell? ⟨bv, ov + j * 2, none⟩ = some (.string u1) := (hbels.cell (p := ⟨bv, ov + j * 2, none⟩) hbvB).trans (rg 0 _ rfl)
              have p1 : wr.cell? ⟨bv, ov + j * 2 + 1, none⟩ = some (.int .i64 u2) := (hbels.cell (p := ⟨bv, ov + j * 2 + 1, none⟩) hbvB).trans (rg 1 _ rfl)
              have hbvr : bv < wr.heap.size := by have := hbs.size; omega
              obtain ⟨V, eV, hbV, hsV, hcV, hhV⟩ := box_new wr #[.string u1, .int .i64 u2] 36
              have v0 : V.cell? ⟨wr.heap.size, 0, none⟩ = some (.string u1) := hcV 0 _ rfl
              have hbV5 : Below W5.heap.size W5 V := hbs.trans (hbV.mono hbs.size)
              have hlk := seen_asked (hN5.below hbV5 hN5.lt) u1
              have HJ := hide (And.intro hall (And.intro htk (And.intro hno hbV5)))
              clear hfe hN5 hK5 hC05 hbel5 hV hP hR hO3 hOp hE hjv rg hfit hbels htk hno hu hbV hsV hcV hhV hbV5 hall hbs
              cases hmm : memB u1 ((t.pat.map Tm.vn).flatten) with
              | true =>
                rw [hmm] at hlk
                have HMM := hide hmm
                clear hmm
                go_wp2
                obtain ⟨hall, htk, hno, hbV5⟩ := unhide HJ
                exact ⟨⟨j + 1, by omega, rfl, by rw [htk, hall, unhide HMM]; rfl, hbV5.alloc hbV5.size _⟩, by simp only [intOf]; omega⟩
              | false =>
                rw [hmm] at hlk
                have HMM := hide hmm
                clear hmm
                go_wp2
                go_ret
                obtain ⟨hall, htk, hno, hbV5⟩ := unhide HJ
                obtain ⟨hfe, hN5, hK5, hC05, hbel5⟩ := unhide HF
                have hbb : Below W5.heap.size W5 (V.alloc (.cells #[] 177)) := hbV5.alloc hbV5.size _
                refine ⟨?_, hK5.below hbb (Nat.le_refl _), hC05.trans (CF.of hbb (Nat.le_refl _) hK5.rb_lt)⟩
                rw [unhide HU]
                unfold underE
                rw [if_neg (by simp), if_neg (by simp), hfe, if_neg (by simp), hno (unhide HMM)]
                rfl
            · have hjn : j = nv := by omega
              have hd2 : decide ((j : Int) < (nv : Int)) = false := by simp; omega
              rw [List.take_of_length_le (by have := (unhide HNN).2; omega)] at hall
              have HJ := hide (And.intro hall hbs)
              clear hfe hN5 hK5 hC05 hbel5 hall hbs hjn
              go_wp2
              go_ret
              obtain ⟨hall, hbs⟩ := unhide HJ
              obtain ⟨hfe, hN5, hK5, hC05, hbel5⟩ := unhide HF
              refine ⟨?_, hK5.below hbs (Nat.le_refl _), hC05.trans (CF.of hbs (Nat.le_refl _) hK5.rb_lt)⟩
              rw [unhide HU]
              unfold underE
              rw [if_neg (by simp), if_neg (by simp), hfe, if_neg (by simp), hall]
              rfl
    · have ex : (x != 2) = true := by simp [hx]
      have HX := hide hx
      clear hx
      go_wp2
      go_ret
      obtain ⟨hK2, hC02, _⟩ := unhide H2
      refine ⟨?_, hK2, hC02⟩
      rw [unhide HU]
      unfold underE
      rw [if_neg (by simp), if_pos (unhide HX)]
      rfl
  · have ey : (y != 0) = true := by simp [hy]
    have HY := hide hy
    clear hy
    go_wp2
    go_ret
    obtain ⟨hK2, hC02, _⟩ := unhide H2
    refine ⟨?_, hK2, hC02⟩
    rw [unhide HU]
    unfold underE
    rw [if_pos (unhide HY)]
    rfl
end Go.Proofs.YtegmckpcchhmdaaDoor

/- Names, bound and let go. -/
namespace Go.Proofs.YtegmckpcchhmdaaDoor
open Go Go.RowKit
def bind1 (k : ByteArray) (s : Int) (env : ByteArray → List Int) : ByteArray → List Int := fun j => if j = k then env j ++ [s] else env j
def drop1 (k : ByteArray) (env : ByteArray → List Int) : ByteArray → List Int := fun j => if j = k then (env j).dropLast else env j
section
variable {A w1 W' : World} {B r rf rb : Nat} {sig : List Fn} {env : ByteArray → List Int} {es : List (ByteArray × Value)} {k : ByteArray} {v : Value}
/-- What was looked up is a row of the map's own. -/
theorem KS.row (hK : KS A B r rf rb sig env) (hes : NM A rb es) (hv : v = (look k es).getD (.slice none 0 0)) : A.ownsRow B 3 1 v (env k).length ((env k).map (Value.int .i64)) := by
  obtain ⟨es', h1, h2, _⟩ := hK.bm
  obtain rfl := nm_det hes h1
  rcases h2 k with ⟨e1, e2⟩ | ⟨v', e1, e2, _⟩
  · rw [e1] at hv
    subst hv
    rw [e2]
    exact ⟨rfl, .inl ⟨rfl, rfl⟩⟩
  · rw [e1] at hv
    subst hv
    exact e2
theorem look_own (hes : NM A rb es) (hv : v = (look k es).getD (.slice none 0 0)) {g : Nat} (hg : v.ownBlock = some g) : look k es = some v ∧ OB A rb g := by
  cases hl : look k es with
  | none => rw [hl] at hv; subst hv; cases hg
  | some v' =>
    rw [hl] at hv
    have e : v = v' := hv
    subst e
    exact ⟨rfl, es, k, v, hes, hl, hg⟩
theorem KS.bound (hK : KS A B r rf rb sig env) (hes : NM A rb es) (hv : v = (look k es).getD (.slice none 0 0)) {s : Int} (hs : fits s) {g n cap : Nat} (hn : n = (env k).length) (hown : w1.ownsRow B 3 1 (.slice (some ⟨g, 0, none⟩) (n + 1) cap) (n + 1) ((env k).map (Value.int .i64) ++ [.int .i64 s])) (hgrow : A.grownBy w1 v.ownBlock) (hat : v.ownBlock = some g ∨ g = A.heap.size)
    (hNM : NM W' rb (put k (.slice (some ⟨g, 0, none⟩) (n + 1) cap) es)) (hput : PutAt rb w1 W') : KS W' B r rf rb sig (bind1 k s env) ∧ CF rb A W' := by
  have hrow := hK.row hes hv
  have hfree : ∀ q, ¬ OB A rb q → some q ≠ v.ownBlock := fun q ho e => ho (look_own hes hv e.symm).2
  have hrbo : some rb ≠ v.ownBlock := fun e => by
    obtain ⟨_, _, cur, hc⟩ := hK.owned (look_own hes hv e.symm).2
    obtain ⟨a, c, h1, _⟩ := hes
    rw [h1] at hc
    cases hc
  have hblk : ∀ q, q < A.heap.size → q ≠ rb → ¬ OB A rb q → W'.heap[q]? = A.heap[q]? := fun q hq hr ho => (hput.block q hr).trans (hgrow.block q hq (hfree q ho))
  have hsz : A.heap.size ≤ W'.heap.size := by rw [hput.size]; exact hgrow.size
  have hw1rb : w1.heap[rb]? = A.heap[rb]? := hgrow.block rb hK.rb_lt hrbo
  have hgrb : g ≠ rb := fun e => by
    rcases hown.2 with ⟨h, _⟩ | ⟨g', cap', cur, h, _, hg', _⟩
    · cases h
    · injection h with h1 _ _
      injection h1 with h1
      injection h1 with h1
      subst h1
      obtain ⟨a, c, h2, _⟩ := hes
      rw [e, hw1rb, h2] at hg'
      cases hg'
  obtain ⟨es', e1, e2, e3⟩ := hK.bm
  obtain rfl := nm_det hes e1
  have hold : ∀ g', OB A rb g' → g' < A.heap.size := fun g' o => (hK.owned o).2.1
  have hnew : ∀ j v', j ≠ k → look j es = some v' → ∀ g', v'.ownBlock = some g' → g' ≠ g := fun j v' hjk hl g' hg' e => by
    subst e
    rcases hat with h | h
    · have := (look_own hes hv h).1
      exact hjk (e3 j k v' v g' hl this hg' h)
    · have := hold g' ⟨es, j, v', hes, hl, hg'⟩
      omega
  have hCF : CF rb A W' := by
    refine ⟨hput.os.trans hgrow.os, hput.tape.trans hgrow.tape, hput.output.trans hgrow.output, hsz, hblk, fun g' o => ?_⟩
    obtain ⟨es2, j, v', f1, f2, f3⟩ := o
    obtain rfl := nm_det hNM f1
    rw [look_put] at f2
    by_cases hj : j = k
    · rw [if_pos hj] at f2
      injection f2 with f2
      subst f2
      have hgg : g' = g := by
        have : (some g : Option Nat) = some g' := f3
        injection this with this
        exact this.symm
      subst hgg
      rcases hat with h | h
      · exact .inl (look_own hes hv h).2
      · exact .inr (by omega)
    · rw [if_neg hj] at f2
      exact .inl ⟨es, j, v', hes, f2, f3⟩
  refine ⟨⟨hK.hr, hK.hrf, hK.hrb, hK.ne, ?_, ?_, ?_⟩, hCF⟩
  · rw [hblk r hK.r_lt hK.r_ne hK.r_free]; exact hK.blk
  · exact hK.fm.same (hK.cf_below hCF) (hblk rf hK.rf_lt hK.ne hK.rf_free)
  · refine ⟨_, hNM, fun j => ?_, fun j j' v1 v2 g' h1 h2 h3 h4 => ?_⟩
    · rw [look_put]
      by_cases hj : j = k
      · refine .inr ⟨_, by rw [if_pos hj], ?_, ?_⟩
        · unfold bind1
          rw [if_pos hj, hj]
          rw [show (env k ++ [s]).length = n + 1 by simp [hn], show (env k ++ [s]).map (Value.int .i64) = (env k).map (Value.int .i64) ++ [.int .i64 s] by simp]
          refine ⟨hown.1, hown.2.imp id ?_⟩
          rintro ⟨g', cap', cur, h, h5, h6, h7⟩
          refine ⟨g', cap', cur, h, h5, ?_, h7⟩
          injection h with h1 _ _
          injection h1 with h1
          injection h1 with h1
          subst h1
          rw [hput.block g hgrb]
          exact h6
        · intro x hx
          unfold bind1 at hx
          rw [if_pos hj] at hx
          rcases List.mem_append.1 hx with hx | hx
          · rcases e2 j with ⟨_, e5⟩ | ⟨_, _, _, e5⟩
            · rw [e5] at hx; cases hx
            · exact e5 x hx
          · rw [List.mem_singleton.1 hx]; exact hs
      · rw [if_neg hj]
        unfold bind1
        rw [if_neg hj]
        refine (e2 j).imp id ?_
        rintro ⟨v', f1, f2, f3⟩
        refine ⟨v', f1, ⟨f2.1, f2.2.imp id ?_⟩, f3⟩
        rintro ⟨g', cap', cur, rfl, h5, h6, h7⟩
        refine ⟨g', cap', cur, rfl, h5, ?_, h7⟩
        have ho : OB A rb g' := ⟨es, j, _, hes, f1, rfl⟩
        have hne : g' ≠ rb := fun e => by
          obtain ⟨a, c, h2, _⟩ := hes
          rw [e, h2] at h6
          cases h6
        rw [hput.block g' hne, hgrow.block g' (hold g' ho) (fun e => by
          have h8 := look_own hes hv e.symm
          exact hj (e3 j k _ v g' f1 h8.1 rfl e.symm))]
        exact h6
    · rw [look_put] at h1 h2
      by_cases hj : j = k
      · by_cases hj' : j' = k
        · rw [hj, hj']
        · rw [if_pos hj] at h1
          rw [if_neg hj'] at h2
          injection h1 with h1
          subst h1
          have hgg : g' = g := by
            have : (some g : Option Nat) = some g' := h3
            injection this with this
            exact this.symm
          exact absurd hgg (hnew j' v2 hj' h2 g' h4)
      · rw [if_neg hj] at h1
        by_cases hj' : j' = k
        · rw [if_pos hj'] at h2
          injection h2 with h2
          subst h2
          have hgg : g' = g := by
            have : (some g : Option Nat) = some g' := h4
            injection this with this
            exact this.symm
          exact absurd hgg (hnew j v1 hj h1 g' h3)
        · rw [if_neg hj'] at h2
          exact e3 j j' v1 v2 g' h1 h2 h3 h4
theorem KS.unbound (hK : KS A B r rf rb sig env) (hes : NM A rb es) {g n cap : Nat} (hl : look k es = some (.slice (some ⟨g, 0, none⟩) (n + 1) cap)) (hn : (env k).length = n + 1)
    (hNM : NM W' rb (put k (.slice (some ⟨g, 0, none⟩) n cap) es)) (hput : PutAt rb A W') : KS W' B r rf rb sig (drop1 k env) ∧ CF rb A W' := by
  have hblk : ∀ q, q ≠ rb → W'.heap[q]? = A.heap[q]? := fun q hq => hput.block q hq
  obtain ⟨es', e1, e2, e3⟩ := hK.bm
  obtain rfl := nm_det hes e1
  have hCF : CF rb A W' := by
    refine ⟨hput.os, hput.tape, hput.output, by rw [hput.size]; exact Nat.le_refl _, fun q _ hr _ => hblk q hr, fun g' o => ?_⟩
    obtain ⟨es2, j, v', f1, f2, f3⟩ := o
    obtain rfl := nm_det hNM f1
    rw [look_put] at f2
    by_cases hj : j = k
    · rw [if_pos hj] at f2
      injection f2 with f2
      subst f2
      exact .inl ⟨es, k, _, hes, hl, f3⟩
    · rw [if_neg hj] at f2
      exact .inl ⟨es, j, v', hes, f2, f3⟩
  have hnrb : ∀ g' cur, A.heap[g']? = some (.cells cur 3 (0, 0)) → g' ≠ rb := fun g' cur h e => by
    obtain ⟨a, c, h2, _⟩ := hes
    rw [e, h2] at h
    cases h
  refine ⟨⟨hK.hr, hK.hrf, hK.hrb, hK.ne, ?_, ?_, ?_⟩, hCF⟩
  · rw [hblk r hK.r_ne]; exact hK.blk
  · exact hK.fm.same (hK.cf_below hCF) (hblk rf hK.ne)
  · refine ⟨_, hNM, fun j => ?_, fun j j' v1 v2 g' h1 h2 h3 h4 => ?_⟩
    · rw [look_put]
      unfold drop1
      by_cases hj : j = k
      · refine .inr ⟨_, by rw [if_pos hj], ?_, ?_⟩
        · rw [if_pos hj, hj]
          rcases e2 k with ⟨f1, _⟩ | ⟨v', f1, f2, _⟩
          · rw [hl] at f1; cases f1
          · rw [hl] at f1
            injection f1 with f1
            subst f1
            rw [show ((env k).dropLast).length = n by rw [List.length_dropLast, hn]; rfl]
            refine ⟨by rw [List.length_map, List.length_dropLast, hn]; omega, .inr ?_⟩
            rcases f2.2 with ⟨h, _⟩ | ⟨g', cap', cur, h, h5, h6, h7, h8, h9, h10⟩
            · cases h
            · injection h with h1 _ h2
              injection h1 with h1
              injection h1 with h1
              subst h1 h2
              refine ⟨g, cap, cur, rfl, h5, by rw [hblk g (hnrb g cur h6)]; exact h6, by omega, h8, h9, ?_⟩
              rw [hn] at h10
              rw [List.map_dropLast, ← h10, List.dropLast_eq_take, List.length_take, List.take_take]
              congr 1
              have := cur.size
              rw [Array.length_toList, h9]
              omega
        · intro x hx
          rw [if_pos hj] at hx
          rcases e2 j with ⟨_, e5⟩ | ⟨_, _, _, e5⟩
          · rw [e5] at hx; cases hx
          · exact e5 x ((List.dropLast_sublist _).subset hx)
      · rw [if_neg hj, if_neg hj]
        refine (e2 j).imp id ?_
        rintro ⟨v', f1, f2, f3⟩
        refine ⟨v', f1, ⟨f2.1, f2.2.imp id ?_⟩, f3⟩
        rintro ⟨g', cap', cur, rfl, h5, h6, h7⟩
        exact ⟨g', cap', cur, rfl, h5, by rw [hblk g' (hnrb g' cur h6)]; exact h6, h7⟩
    · rw [look_put] at h1 h2
      have hto : ∀ j v', (if j = k then some (Value.slice (some ⟨g, 0, none⟩) n cap) else look j es) = some v' → v'.ownBlock = some g' → ∃ v'', look j es = some v'' ∧ v''.ownBlock = some g' := fun j v' h h' => by
        by_cases hj : j = k
        · rw [if_pos hj] at h
          injection h with h
          subst h
          exact ⟨.slice (some ⟨g, 0, none⟩) (n + 1) cap, by rw [hj]; exact hl, h'⟩
        · rw [if_neg hj] at h
          exact ⟨v', h, h'⟩
      obtain ⟨a1, b1, c1⟩ := hto j v1 h1 h3
      obtain ⟨a2, b2, c2⟩ := hto j' v2 h2 h4
      exact e3 j j' a1 a2 g' b1 b2 c1 c2
end
end Go.Proofs.YtegmckpcchhmdaaDoor

namespace Go.Proofs.YtegmckpcchhmdaaDoor
open Go Go.RowKit
def cnt (k : ByteArray) : List (ByteArray × Int) → Nat
  | [] => 0
  | v :: l => (if k = v.1 then 1 else 0) + cnt k l
theorem cnt_snoc (k : ByteArray) (l : List (ByteArray × Int)) (v : ByteArray × Int) : cnt k (l ++ [v]) = cnt k l + if k = v.1 then 1 else 0 := by
  induction l with
  | nil => simp [cnt]
  | cons a l ih => simp only [List.cons_append, cnt, ih]; omega
theorem bindV_snoc (l : List (ByteArray × Int)) (v : ByteArray × Int) (env : ByteArray → List Int) : bindV (l ++ [v]) env = bind1 v.1 v.2 (bindV l env) := by
  induction l generalizing env with
  | nil => rfl
  | cons a l ih => simp only [List.cons_append, bindV, ih]
theorem bindV_len (k : ByteArray) (l : List (ByteArray × Int)) (env : ByteArray → List Int) : (bindV l env k).length = (env k).length + cnt k l ∧ (bindV l env k).take (env k).length = env k := by
  induction l generalizing env with
  | nil => exact ⟨rfl, by simp [bindV]⟩
  | cons a l ih =>
    have h := ih (fun j => if j = a.1 then env j ++ [a.2] else env j)
    simp only [bindV, cnt]
    by_cases hk : k = a.1
    · simp only [hk] at h ⊢
      simp only [if_true] at h ⊢
      refine ⟨by rw [h.1]; simp; omega, ?_⟩
      have h2 := congrArg (List.take (env a.1).length) h.2
      rw [List.take_take, List.take_left'] at h2
      · rw [Nat.min_eq_left (by simp)] at h2
        exact h2
      · rfl
    · simp only [if_neg hk] at h ⊢
      exact ⟨by rw [h.1]; omega, h.2⟩
def unb (l : List (ByteArray × Int)) (e : ByteArray → List Int) : ByteArray → List Int := l.foldl (fun e v => drop1 v.1 e) e
theorem unb_snoc (l : List (ByteArray × Int)) (v : ByteArray × Int) (e : ByteArray → List Int) : unb (l ++ [v]) e = drop1 v.1 (unb l e) := by simp [unb]
theorem unb_at (k : ByteArray) (l : List (ByteArray × Int)) (e : ByteArray → List Int) : unb l e k = (e k).take ((e k).length - cnt k l) := by
  refine snoc_ind (p := fun l => unb l e k = (e k).take ((e k).length - cnt k l)) (by simp [unb, cnt]) (fun l v ih => ?_) l
  rw [unb_snoc, cnt_snoc]
  unfold drop1
  by_cases hk : k = v.1
  · rw [if_pos hk, if_pos hk, ih, List.dropLast_eq_take, List.length_take, List.take_take]
    congr 1
    omega
  · rw [if_neg hk, if_neg hk, ih, Nat.add_zero]
theorem cnt_take_le (k : ByteArray) (l : List (ByteArray × Int)) (i : Nat) : cnt k (l.take i) ≤ cnt k l := by
  induction l generalizing i with
  | nil => simp [cnt]
  | cons a l ih =>
    cases i with
    | zero => simp [cnt]
    | succ i => simp only [List.take_succ_cons, cnt]; have := ih i; omega
theorem unb_bindV (l : List (ByteArray × Int)) (env : ByteArray → List Int) : unb l (bindV l env) = env := by
  funext k
  rw [unb_at, (bindV_len k l env).1, Nat.add_sub_cancel]
  exact (bindV_len k l env).2
/-- When a name is let go, it is bound. -/
theorem unb_pos {l : List (ByteArray × Int)} {i : Nat} (h : i < l.length) (env : ByteArray → List Int) : ∃ n, (unb (l.take i) (bindV l env) l[i].1).length = n + 1 := by
  have h1 := unb_at l[i].1 (l.take i) (bindV l env)
  have h2 := (bindV_len l[i].1 l env).1
  have h3 := cnt_take_le l[i].1 l (i + 1)
  rw [take_more h, cnt_snoc, if_pos rfl] at h3
  refine ⟨(unb (l.take i) (bindV l env) l[i].1).length - 1, ?_⟩
  rw [h1, List.length_take]
  omega
theorem unb_le (k : ByteArray) (l : List (ByteArray × Int)) (e : ByteArray → List Int) : (unb l e k).length ≤ (e k).length := by
  rw [unb_at, List.length_take]
  omega
theorem cnt_le (k : ByteArray) (l : List (ByteArray × Int)) : cnt k l ≤ l.length := by
  induction l with
  | nil => exact Nat.le_refl _
  | cons a l ih =>
    simp only [cnt, List.length_cons]
    split <;> omega
end Go.Proofs.YtegmckpcchhmdaaDoor
