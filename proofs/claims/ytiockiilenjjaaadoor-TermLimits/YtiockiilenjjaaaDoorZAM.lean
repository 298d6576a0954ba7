/- Slots: what stands for a name. -/
import Derived.Test.YtiockiilenjjaaaDoorZAL
import Derived.Laws.MakeOwn
import Derived.Laws.OwnMore
set_option linter.unusedVariables false
set_option linter.unusedSimpArgs false

/- The check of a term: plain facts; a slice that is filled. -/
namespace Go.Proofs.YtiockiilenjjaaaDoor
open Go Go.RowKit
theorem Tm.chk_eq (rt : ByteArray → Bool) (sig : List Fn) (t : Tm) (env : ByteArray → List Int) : t.chk rt sig env =
    if shapeE rt sig t.op t.name t.num t.l.length (headOp t.l) t.vars t.pat.length ≠ 0 then (0, shapeE rt sig t.op t.name t.num t.l.length (headOp t.l) t.vars t.pat.length)
    else if t.op = 18 then varE t.name t.sort env
    else if t.op = 19 then allP (t.under rt sig (bindV t.vars env))
    else if (chkL (t.l.map (Tm.chk rt sig)) env).2 ≠ 0 then (0, (chkL (t.l.map (Tm.chk rt sig)) env).2)
    else match sortOfT sig t.op t.name (chkL (t.l.map (Tm.chk rt sig)) env).1 with
      | some s => (s, 0)
      | none => (0, 31) := by
  have hp : ∀ (l : List Tm) (e : ByteArray → List Int), patEs (l.map fun p => ((limE p, p.op, p.bare), Tm.chk rt sig p)) e = l.map (Tm.patE rt sig e) := fun l e => by
    unfold patEs
    rw [List.map_map]
    rfl
  cases t
  rw [Tm.chk]
  simp only [hp]
  rfl
theorem chkL_snoc (fs : List ((ByteArray → List Int) → Int × Int)) (f : (ByteArray → List Int) → Int × Int) (env : ByteArray → List Int) (h : (chkL fs env).2 = 0) : chkL (fs ++ [f]) env = if (f env).2 ≠ 0 then ((chkL fs env).1, (f env).2) else ((chkL fs env).1 ++ [(f env).1], 0) := by
  induction fs with
  | nil =>
    show (if (f env).2 ≠ 0 then ([], (f env).2) else ((f env).1 :: (chkL [] env).1, (chkL [] env).2)) = _
    rfl
  | cons g fs ih =>
    show (if (g env).2 ≠ 0 then ([], (g env).2) else ((g env).1 :: (chkL (fs ++ [f]) env).1, (chkL (fs ++ [f]) env).2)) = _
    have h' : (if (g env).2 ≠ 0 then (([] : List Int), (g env).2) else ((g env).1 :: (chkL fs env).1, (chkL fs env).2)).2 = 0 := h
    by_cases hg : (g env).2 = 0
    · rw [if_neg (by simp [hg])] at h' ⊢
      rw [ih h']
      have e : chkL (g :: fs) env = ((g env).1 :: (chkL fs env).1, (chkL fs env).2) := by
        show (if (g env).2 ≠ 0 then ([], (g env).2) else ((g env).1 :: (chkL fs env).1, (chkL fs env).2)) = _
        rw [if_neg (by simp [hg])]
      rw [e]
      by_cases hf : (f env).2 = 0
      · simp [hf]
      · simp [hf]
    · rw [if_pos hg] at h'
      exact absurd h' hg
theorem chkL_at {fs : List ((ByteArray → List Int) → Int × Int)} {env : ByteArray → List Int} {i : Nat} (h : i < fs.length) (h0 : (chkL (fs.take i) env).2 = 0) (he : (fs[i] env).2 ≠ 0) : (chkL fs env).2 = (fs[i] env).2 := by
  induction fs generalizing i with
  | nil => simp at h
  | cons g fs ih =>
    show (if (g env).2 ≠ 0 then (([] : List Int), (g env).2) else ((g env).1 :: (chkL fs env).1, (chkL fs env).2)).2 = _
    cases i with
    | zero =>
      have he' : (g env).2 ≠ 0 := he
      rw [if_pos he']
      rfl
    | succ i =>
      have h0' : (if (g env).2 ≠ 0 then (([] : List Int), (g env).2) else ((g env).1 :: (chkL (fs.take i) env).1, (chkL (fs.take i) env).2)).2 = 0 := h0
      by_cases hg : (g env).2 = 0
      · rw [if_neg (by simp [hg])] at h0' ⊢
        have h2 : i < fs.length := by simpa using h
        show (chkL fs env).2 = (fs[i] env).2
        exact ih h2 h0' he
      · rw [if_pos hg] at h0'
        exact absurd h0' hg
theorem chkL_len {fs : List ((ByteArray → List Int) → Int × Int)} {env : ByteArray → List Int} (h : (chkL fs env).2 = 0) : (chkL fs env).1.length = fs.length := by
  induction fs with
  | nil => rfl
  | cons g fs ih =>
    have h' : (if (g env).2 ≠ 0 then (([] : List Int), (g env).2) else ((g env).1 :: (chkL fs env).1, (chkL fs env).2)).2 = 0 := h
    show (if (g env).2 ≠ 0 then (([] : List Int), (g env).2) else ((g env).1 :: (chkL fs env).1, (chkL fs env).2)).1.length = _
    by_cases hg : (g env).2 = 0
    · rw [if_neg (by simp [hg])] at h' ⊢
      simp [ih h']
    · rw [if_pos hg] at h'
      exact absurd h' hg
/-- A row of ints that is being filled. -/
def SB (w : World) (g n : Nat) (ss : List Int) : Prop := ∃ cur, w.heap[g]? = some (.cells cur 3) ∧ cur.size = n ∧ ss.length ≤ n ∧ cur.toList.take ss.length = ss.map (Value.int .i64)
theorem SB.put {w : World} {g n : Nat} {ss : List Int} (h : SB w g n ss) (hl : ss.length < n) (s : Int) : SB (w.setCell ⟨g, ss.length, none⟩ (.int .i64 s)) g n (ss ++ [s]) := by
  obtain ⟨cur, h1, h2, h3, h4⟩ := h
  refine ⟨_, set_block h1 _, by simpa using h2, by simp; omega, ?_⟩
  rw [Array.toList_setIfInBounds, List.length_append, List.length_singleton, List.take_succ_eq_append_getElem (by simp; omega), List.map_append, ← h4]
  congr 1
  · rw [List.take_set_of_le (Nat.le_refl _)]
  · simp
theorem SB.cell {w : World} {g n : Nat} {ss : List Int} (h : SB w g n ss) {i : Nat} (hi : i < n) : ∃ x, w.cell? ⟨g, i, none⟩ = some x ∧ w.frozen? ⟨g, i, none⟩ = false := by
  obtain ⟨cur, h1, h2, h3, h4⟩ := h
  exact ⟨_, (blk h1).2.1 i _ (Array.getElem?_eq_getElem (by omega)), (blk h1).2.2 i⟩
theorem SB.ints {w : World} {g n : Nat} {ss : List Int} (h : SB w g n ss) (hl : ss.length = n) (hm : n ≤ 65536) : Ints w (.slice (some ⟨g, 0, none⟩) n n) ss := by
  obtain ⟨cur, h1, h2, h3, h4⟩ := h
  refine ⟨_, n, by rw [hl], by omega, fun _ => ⟨g, 0, rfl, (Array.getElem?_eq_some_iff.1 h1).1, fun j x hx => ?_⟩⟩
  have hj : j < ss.length := (List.getElem?_eq_some_iff.1 hx).1
  have e5 : cur[j]? = some (.int .i64 x) := by
    have : (cur.toList.take ss.length)[j]? = some (.int .i64 x) := by rw [h4, List.getElem?_map, hx]; rfl
    rw [List.getElem?_take, if_pos hj] at this
    simpa using this
  simp only [Nat.zero_add]
  exact (blk h1).2.1 j _ e5
theorem mkInts (n : Nat) (w : World) (hn : n ≤ 65536) : (Instr.makeSlice 54 (.int .i64 (n : Int)) (.int .i64 (n : Int))).run Tryd.prog w = .ok (.slice (some ⟨w.heap.size, 0, none⟩) n n) (w.alloc (.cells (madeCells #[.int .i64 0] n) 3)) := by
  obtain ⟨i0, hi, hz0, hz1, hz2⟩ := inf_of infInt
  have hr := run_make (P := Tryd.prog) w 54 3 i0 (.int .i64 0) tInts hi hz0 .i64 .i64 n n (by omega) (Int.le_refl _) (by rw [hz2]; omega) (by omega)
  rw [hz1] at hr
  simp only [Int.toNat_natCast, Nat.mul_one] at hr
  exact hr
theorem SB.new (w : World) (n : Nat) : SB (w.alloc (.cells (madeCells #[.int .i64 0] n) 3)) w.heap.size n [] := by
  refine ⟨_, new_block w _ _, ?_, Nat.zero_le _, rfl⟩
  have : (madeCells #[Value.int .i64 0] n).toList = List.replicate n (.int .i64 0) := by rw [toList_madeCells_one]
  have h2 := congrArg List.length this
  simpa using h2
end Go.Proofs.YtiockiilenjjaaaDoor

/- The check of a term. -/
namespace Go.Proofs.YtiockiilenjjaaaDoor
open Go Go.RowKit
theorem new_free {w : World} {B r rf rb : Nat} {sig : List Fn} {env : ByteArray → List Int} (h : KS w B r rf rb sig env) {g : Nat} (hg : w.heap.size ≤ g) : ¬ OB w rb g := fun o => by
  have := (h.owned o).2.1
  omega
theorem chk_shape {rt : ByteArray → Bool} {sig : List Fn} {t : Tm} {env : ByteArray → List Int} {e : Int} (h : shapeE rt sig t.op t.name t.num t.l.length (headOp t.l) t.vars t.pat.length = e) (he : e ≠ 0) : t.chk rt sig env = (0, e) := by
  rw [Tm.chk_eq, h, if_pos he]
theorem chk_var {rt : ByteArray → Bool} {sig : List Fn} {t : Tm} {env : ByteArray → List Int} (h : shapeE rt sig t.op t.name t.num t.l.length (headOp t.l) t.vars t.pat.length = 0) (h18 : t.op = 18) : t.chk rt sig env = varE t.name t.sort env := by
  rw [Tm.chk_eq, h, if_neg (by simp), if_pos h18]
theorem chk_all {rt : ByteArray → Bool} {sig : List Fn} {t : Tm} {env : ByteArray → List Int} (h : shapeE rt sig t.op t.name t.num t.l.length (headOp t.l) t.vars t.pat.length = 0) (h19 : t.op = 19) : t.chk rt sig env = allP (t.under rt sig (bindV t.vars env)) := by
  rw [Tm.chk_eq, h, if_neg (by simp), if_neg (by omega), if_pos h19]
theorem chk_bad {rt : ByteArray → Bool} {sig : List Fn} {t : Tm} {env : ByteArray → List Int} (h : shapeE rt sig t.op t.name t.num t.l.length (headOp t.l) t.vars t.pat.length = 0) (h18 : t.op ≠ 18) (h19 : t.op ≠ 19) {e : Int} (hc : (chkL (t.l.map (Tm.chk rt sig)) env).2 = e) (he : e ≠ 0) : t.chk rt sig env = (0, e) := by
  rw [Tm.chk_eq, h, if_neg (by simp), if_neg h18, if_neg h19, hc, if_pos he]
theorem chk_good {rt : ByteArray → Bool} {sig : List Fn} {t : Tm} {env : ByteArray → List Int} (h : shapeE rt sig t.op t.name t.num t.l.length (headOp t.l) t.vars t.pat.length = 0) (h18 : t.op ≠ 18) (h19 : t.op ≠ 19) (hc : (chkL (t.l.map (Tm.chk rt sig)) env).2 = 0) : t.chk rt sig env = match sortOfT sig t.op t.name (chkL (t.l.map (Tm.chk rt sig)) env).1 with
    | some s => (s, 0)
    | none => (0, 31) := by
  rw [Tm.chk_eq, h, if_neg (by simp), if_neg h18, if_neg h19, hc, if_neg (by simp)]
  all_goals rfl
theorem all_one {rt : ByteArray → Bool} {sig : List Fn} {t : Tm} (h : shapeE rt sig t.op t.name t.num t.l.length (headOp t.l) t.vars t.pat.length = 0) (h19 : t.op = 19) : t.l.length = 1 := by
  have hs := shapeE_zero (by omega) h
  unfold shapeB at hs
  rw [if_neg (by omega), if_neg (by omega), if_neg (by omega), if_neg (by omega), if_pos h19] at hs
  simp only [Bool.and_eq_true, beq_iff_eq] at hs
  exact hs.1.1
theorem len_size (t : Tm) : t.l.length ≤ t.size := by
  rw [Tm.size_eq]
  have : ∀ l : List Tm, l.length ≤ (l.map Tm.size).sum := by
    intro l
    induction l with
    | nil => simp
    | cons u l ih =>
      simp only [List.length_cons, List.map_cons, List.sum_cons]
      have : 1 ≤ u.size := by rw [Tm.size_eq]; omega
      omega
  have := this t.l
  omega
theorem CF.set {rb g o : Nat} {w w4 : World} {v : Value} (h : CF rb w w4) (hg : w.heap.size ≤ g) (hne : g ≠ rb) : CF rb w (w4.setCell ⟨g, o, none⟩ v) := by
  refine ⟨h.os, h.tape, h.output, by simpa using h.size, fun k hk h1 h2 => ?_, fun g' o' => ?_⟩
  · rw [Below.heap_setCell w4 ⟨g, o, none⟩ v k (by show k ≠ g; omega)]
    exact h.block k hk h1 h2
  · exact h.own g' (o'.same (Below.heap_setCell w4 ⟨g, o, none⟩ v rb (fun e => hne e.symm)))
theorem kind_var {op : Int} (h : op ≠ 18) : kindOf op ≠ 109 := kindOf_var h
set_option maxRecDepth 1000000 in
set_option maxHeartbeats 16000000 in
theorem kterm_of {rt : ByteArray → Bool} {sig : List Fn} {d : Nat} (ih : KTermC rt sig d) : KTermC rt sig (d + 1) := by
  intro B r rf rb env w b o t hT hO hR hK hE
  have HIH := hide ih
  have hBw : B ≤ w.heap.size := by have := hK.r_lt; have := hK.hr; omega
  have hrb := hK.rb_lt
  have HI := hide (And.intro hT (And.intro hO (And.intro hR (And.intro hK hE))))
  have hlm : t.l.length ≤ 65536 := Nat.le_trans (len_size t) hO.2.2.2.1
  obtain ⟨hb, _, _, aL, aV, aP, cL, cV, cP, hrg, hL, hV, hP, _⟩ := hT
  have hbw : b < w.heap.size := by omega
  have hB0 : 0 < B := by omega
  have c0 : w.cell? ⟨b, o, none⟩ = some (.int .i64 t.op) := hrg 0 _ rfl
  have HG := hide hrg
  have HRow := hide hL
  clear ih hrg hL hV hP hO hR hK hE
  go_enter Tryd.func37, Tryd.ntmps37
  go_wp2_with fail
  refine (view_any b o t.op w c0 hbw).mono ?_
  rintro e w1 ⟨rfl, hb1⟩
  have hb01 := hb1
  obtain ⟨hT, hO, hR, hK, hE⟩ := unhide HI
  have hSh := shape_any (rt := rt) (hK.below hb1 (Nat.le_refl _)) (hT.more (hb1.mono hBw) (Nat.le_refl _) (Nat.le_refl _)) hO (hR.below hb1 (by omega))
  generalize hse : shapeE rt sig t.op t.name t.num t.l.length (headOp t.l) t.vars t.pat.length = se at *
  have HSe := hide hse
  have HSh := hide hSh
  have HB1 := hide hb1
  clear hT hO hR hK hE hb1 hb01 hse hSh c0
  go_wp2_with fail
  refine (unhide HSh).mono ?_
  rintro e w2 ⟨rfl, hb2⟩
  have hb02 : Below w.heap.size w w2 := (unhide HB1).trans (hb2.mono (unhide HB1).size)
  have HB2 := hide hb02
  clear hb2 hb02 HB1 HSh
  by_cases hs0 : se = 0
  · subst hs0
    by_cases h18 : t.op = 18
    · have hkk : kindOf t.op = 109 := by rw [h18]; rfl
      rw [hkk]
      have ta0 := fun w => ta_yes (ty := 109) (v := .agg #[.pointer (some ⟨b, o, none⟩)]) (w := w) rfl rfl
      obtain ⟨hT, hO, hR, hK, hE⟩ := unhide HI
      have HVar := hide (fun (W : World) (hW : Below w.heap.size w W) => variable_any (sort := t.sort) (hK.below hW (Nat.le_refl _)) (Nat.lt_of_lt_of_le hbw hW.size) ((hW.cell (p := ⟨b, o + 1, none⟩) hbw).trans ((unhide HG) 1 _ rfl)) ((hW.cell (p := ⟨b, o + 2, none⟩) hbw).trans ((unhide HG) 2 _ rfl)) (by have := hE t.name; omega))
      obtain ⟨x, y, hxy⟩ : ∃ x y, varE t.name t.sort env = (x, y) := ⟨_, _, rfl⟩
      rw [hxy] at HVar
      have HXY : Hid (t.chk rt sig env = (x, y)) := (chk_var (unhide HSe) h18).trans hxy
      clear hT hO hR hK hE hkk h18 hxy
      go_wp2_with fail
      have hBV : ∀ x, Below w.heap.size w (w2.alloc x) := fun x => (unhide HB2).alloc (unhide HB2).size x
      refine (unhide HVar _ (hBV _)).mono ?_
      rintro e w3 ⟨rfl, hb3⟩
      have HB3 := hide (show Below w.heap.size w w3 from (hBV _).trans (hb3.mono (hBV _).size))
      clear hb3 hBV
      unfold pairV
      go_wp2
      go_ret2
      obtain ⟨hT, hO, hR, hK, hE⟩ := unhide HI
      exact ⟨by rw [unhide HXY]; rfl, hK.below (unhide HB3) (Nat.le_refl _), CF.of (unhide HB3) (Nat.le_refl _) hrb⟩
    by_cases h19 : t.op = 19
    · have hkk : kindOf t.op = 112 := by rw [h19]; rfl
      rw [hkk]
      have ta0 := fun w => ta_no (k := 112) (ty := 109) (v := .agg #[.pointer (some ⟨b, o, none⟩)]) (z := .agg #[.pointer none]) (w := w) (by decide) rfl rfl (by go_simp)
      have ta1 := fun w => ta_yes (ty := 112) (v := .agg #[.pointer (some ⟨b, o, none⟩)]) (w := w) rfl rfl
      obtain ⟨hT, hO, hR, hK, hE⟩ := unhide HI
      have HUni := hide (fun (W : World) (hW : Below w.heap.size w W) => universal_any (unhide HIH) (hT.more (hW.mono hBw) (Nat.le_refl _) (Nat.le_refl _)) hO (hR.below hW (by omega)) (hK.below hW (Nat.le_refl _)) hE (all_one (unhide HSe) h19))
      obtain ⟨x, y, hxy⟩ : ∃ x y, allP (t.under rt sig (bindV t.vars env)) = (x, y) := ⟨_, _, rfl⟩
      rw [hxy] at HUni
      have HXY : Hid (t.chk rt sig env = (x, y)) := (chk_all (unhide HSe) h19).trans hxy
      clear hT hO hR hK hE hkk h18 h19 hxy
      go_wp2_with fail
      have hBV : ∀ x y, Below w.heap.size w ((w2.alloc x).alloc y) := fun x y => ((unhide HB2).alloc (unhide HB2).size x).alloc (by have := (unhide HB2).size; simp; omega) y
      refine (unhide HUni _ (hBV _ _)).mono ?_
      rintro e w3 ⟨rfl, hK3, hC3⟩
      have H3 := hide (And.intro hK3 ((CF.of (hBV _ _) (Nat.le_refl _) hrb).trans hC3))
      clear hK3 hC3 hBV
      unfold pairV
      go_wp2
      go_ret2
      exact ⟨by rw [unhide HXY]; rfl, unhide H3⟩
    · have hk1 : kindOf t.op ≠ 109 := kind_var h18
      have hk2 : kindOf t.op ≠ 112 := kindOf_all h19
      have HSort := hide (fun (W : World) (vs : Value) (ss : List Int) hK hT hR hS hl => sortOf_any (rt := rt) (w := W) (B := B) (r := r) (rf := rf) (rb := rb) (d := d + 1) (b := b) (o := o) (t := t) (sig := sig) (env := env) (vs := vs) (ss := ss) hK hT hR hS hl (unhide HSe) h18 h19)
      have HNo := hide (And.intro h18 h19)
      generalize hkk : kindOf t.op = kk at *
      have ta0 := fun w => ta_no (ty := 109) (v := .agg #[.pointer (some ⟨b, o, none⟩)]) (z := .agg #[.pointer none]) (w := w) hk1 rfl rfl (by go_simp)
      have ta1 := fun w => ta_no (ty := 112) (v := .agg #[.pointer (some ⟨b, o, none⟩)]) (z := .agg #[.pointer none]) (w := w) hk2 rfl rfl (by go_simp)
      obtain ⟨n, hn⟩ : ∃ n, t.l.length = n := ⟨_, rfl⟩
      have HN := hide hn
      rw [hn] at hlm
      have e4 : ∀ x y, ((w2.alloc x).alloc y).cell? ⟨b, o + 4, none⟩ = some (.slice aL n cL) := fun x y => by
        rw [← hn]
        exact ((((unhide HB2).alloc (unhide HB2).size x).alloc (by have := (unhide HB2).size; simp; omega) y).cell (p := ⟨b, o + 4, none⟩) hbw).trans ((unhide HG) 4 _ rfl)
      have km := fun x y => mkInts n ((w2.alloc x).alloc y) hlm
      have e4' : ∀ x y z, (((w2.alloc x).alloc y).alloc z).cell? ⟨b, o + 4, none⟩ = some (.slice aL n cL) := fun x y z => by
        rw [← hn]
        exact ((((((unhide HB2).alloc (unhide HB2).size x).alloc (by have := (unhide HB2).size; simp; omega) y)).alloc (by have := (unhide HB2).size; simp; omega) z).cell (p := ⟨b, o + 4, none⟩) hbw).trans ((unhide HG) 4 _ rfl)
      clear h18 h19 hn hk1 hk2 hkk
      go_wp2
      obtain ⟨W0, eW0, hbW0, hSB0, hsz0⟩ : ∃ W0, (((w2.alloc (.cells #[.pointer none] 109)).alloc (.cells #[.pointer none] 112)).alloc (.cells (madeCells #[.int .i64 0] n) 3)) = W0 ∧ Below w.heap.size w W0 ∧ SB W0 (w2.heap.size + 1 + 1) n [] ∧ W0.heap.size = w2.heap.size + 1 + 1 + 1 := by
        refine ⟨_, rfl, three (unhide HB2) (unhide HB2).size _ _ _, ?_, by simp⟩
        have h := fun x y => SB.new ((w2.alloc x).alloc y) n
        simp only [asize] at h
        exact h _ _
      rw [eW0]
      obtain ⟨hT, hO, hR, hK, hE⟩ := unhide HI
      have hK0 := hK.below hbW0 (Nat.le_refl _)
      have hC0 : CF rb w W0 := CF.of hbW0 (Nat.le_refl _) hrb
      have hfree0 : ¬ OB W0 rb (w2.heap.size + 1 + 1) := fun ho => by
        have h2 := ho.same (w := w2) (by rw [← eW0]; exact (three (Below.refl _ w2) (Nat.le_refl _) _ _ _).block rb (Nat.lt_of_lt_of_le hrb (unhide HB2).size))
        have h3 := ((hK.below (unhide HB2) (Nat.le_refl _)).owned h2).2.1
        omega
      have hnerb : w2.heap.size + 1 + 1 ≠ rb := by have := (unhide HB2).size; omega
      have hge : w.heap.size ≤ w2.heap.size + 1 + 1 := by have := (unhide HB2).size; omega
      have HGe := hide hge
      generalize hsb : w2.heap.size + 1 + 1 = sb at *
      have H0 := hide (And.intro hSB0 (And.intro hfree0 (And.intro hK0 hC0)))
      have HNe := hide hnerb
      have f4 : W0.cell? ⟨b, o + 4, none⟩ = some (.slice aL n cL) := by
        rw [← unhide HN]
        exact (hbW0.cell (p := ⟨b, o + 4, none⟩) hbw).trans ((unhide HG) 4 _ rfl)
      clear hT hO hR hK hE hK0 hC0 hfree0 hSB0 eW0 hbW0 hsz0 e4 e4' km hnerb hsb hge
      go_loopw [59] (fun iv wr => ∃ i : Nat, i ≤ n ∧ iv = .int .i64 (i : Int) ∧ ∃ ss, chkL ((t.l.map (Tm.chk rt sig)).take i) env = (ss, 0) ∧ ss.length = i ∧ SB wr sb n ss ∧ ¬ OB wr rb sb ∧ KS wr B r rf rb sig env ∧ CF rb w wr) (fun iv _ => (n - (intOf iv).toNat))
      case atStart =>
        obtain ⟨hSB0, hfree0, hK0, hC0⟩ := unhide H0
        exact ⟨0, Nat.zero_le _, rfl, [], rfl, rfl, hSB0, hfree0, hK0, hC0⟩
      case round =>
        obtain ⟨i, hi, rfl, ss, hch, hssl, hSBi, hfri, hKi, hCi⟩ := hrel
        clear f4
        obtain ⟨hT, hO, hR, hK, hE⟩ := unhide HI
        have hbeli : Below B w wr := hK.cf_below hCi
        by_cases hlt : i < n
        · have h1 : i < t.l.length := by have := unhide HN; omega
          have hd1 : decide ((i : Int) < (n : Int)) = true := by simp; omega
          have hXi : (i : Int) < (n : Int) := by omega
          have hcap : (i : Int) < 281474976710656 := by omega
          have c4i : wr.cell? ⟨b, o + 4, none⟩ = some (.slice aL n cL) := by
            rw [← unhide HN]
            exact (hbeli.cell (p := ⟨b, o + 4, none⟩) hb).trans ((unhide HG) 4 _ rfl)
          obtain ⟨bl, ol, rfl, hblB, hj⟩ := (unhide HRow).2.2 (by omega)
          have hA := (hj i h1 _ (List.getElem?_eq_getElem h1)).more hbeli (Nat.le_refl _) (Nat.le_refl _)
          have hEi : ∀ k, (env k).length + t.l[i].wt ≤ 1000000 := fun k => by
            have h2 := hE k
            rw [t.wt_eq] at h2
            have h3 : t.l[i].wt ≤ lwt t.l := by
              have := lwt_more h1
              have := lwt_take t.l (i + 1)
              omega
            unfold lwt at h3
            omega
          have HCall := hide (unhide HIH B r rf rb env wr bl (ol + i * 7) t.l[i] hA (hO.2.2.2.2.2.1 _ (List.getElem_mem h1)) (hR.below hbeli hB0) hKi hEi)
          have hlen1 : i < (t.l.map (Tm.chk rt sig)).length := by simpa using h1
          have hget : (t.l.map (Tm.chk rt sig))[i] = Tm.chk rt sig t.l[i] := by simp
          have hsn : (t.l.map (Tm.chk rt sig)).take (i + 1) = (t.l.map (Tm.chk rt sig)).take i ++ [Tm.chk rt sig t.l[i]] := by rw [List.take_succ_eq_append_getElem hlen1, hget]
          have hbad : (t.l[i].chk rt sig env).2 ≠ 0 → (chkL (t.l.map (Tm.chk rt sig)) env).2 = (t.l[i].chk rt sig env).2 := fun h => by
            have := chkL_at hlen1 (by rw [hch]) (by rw [hget]; exact h)
            rw [hget] at this
            exact this
          obtain ⟨x, y, hxy⟩ : ∃ x y, t.l[i].chk rt sig env = (x, y) := ⟨_, _, rfl⟩
          rw [hxy] at HCall hbad
          have HP := hide (And.intro hch (And.intro hssl (And.intro hSBi (And.intro hfri (And.intro hKi (And.intro hCi (And.intro hsn (And.intro hbad hxy))))))))
          clear hT hO hR hK hE hbeli hj hA hEi hget hsn hbad hxy hch hssl hSBi hfri hKi hCi hlen1
          by_cases hy : y = 0
          · subst hy
            go_wp2_with fail
            refine (unhide HCall).mono ?_
            rintro e w4 ⟨rfl, hK4, hC4⟩
            obtain ⟨hch, hssl, hSBi, hfri, hKi, hCi, hsn, hbad, hxy⟩ := unhide HP
            have hSB4 : SB w4 sb n ss := by
              obtain ⟨cur, k1, k2⟩ := hSBi
              exact ⟨cur, hC4.blk k1 (unhide HNe) hfri, k2⟩
            have hfr4 : ¬ OB w4 rb sb := fun ho => by
              rcases hC4.own sb ho with h | h
              · exact hfri h
              · obtain ⟨cur, k1, _⟩ := hSBi
                have := (Array.getElem?_eq_some_iff.1 k1).1
                omega
            obtain ⟨x0, hx0, hfz0⟩ := hSB4.cell hlt
            have H4 := hide (And.intro hK4 (And.intro hC4 (And.intro hSB4 hfr4)))
            clear hK4 hC4 hSB4 hfr4 hch hssl hSBi hfri hKi hCi hsn hbad hxy
            unfold pairV
            go_wp2
            obtain ⟨hch, hssl, hSBi, hfri, hKi, hCi, hsn, hbad, hxy⟩ := unhide HP
            obtain ⟨hK4, hC4, hSB4, hfr4⟩ := unhide H4
            subst hssl
            have hput := hSB4.put hlt x
            obtain ⟨cur, hcur, hcsz⟩ := hSB4
            have hbut : But sb w4 (w4.setCell ⟨sb, ss.length, none⟩ (.int .i64 x)) := (But.refl sb w4).setCell (.inl rfl) _
            have hK5 := hK4.but hbut (by have := unhide HGe; omega) (fun e => by
              have h2 := hK4.blk
              rw [e, hcur] at h2
              injection h2 with h2
              injection h2 with _ h2
              exact absurd h2 (by decide)) (fun e => by
              obtain ⟨es, ⟨a, c, h2, _⟩, _⟩ := hK4.fm
              rw [e, hcur] at h2
              cases h2) (fun e => unhide HNe e.symm) hfr4
            refine ⟨⟨ss.length + 1, by omega, rfl, ss ++ [x], ?_, by simp, hput, fun ho => hfr4 (ho.same (Below.heap_setCell w4 ⟨sb, ss.length, none⟩ _ rb (fun e => unhide HNe e.symm))), hK5, (hCi.trans hC4).set (unhide HGe) (unhide HNe)⟩, by simp only [intOf]; omega⟩
            rw [hsn, chkL_snoc _ _ _ (by rw [hch]), hxy, hch]
            simp
          · have ey : (y != 0) = true := by simp [hy]
            have HY := hide hy
            clear hy
            go_wp2_with fail
            refine (unhide HCall).mono ?_
            rintro e w4 ⟨rfl, hK4, hC4⟩
            have H4 := hide (And.intro hK4 hC4)
            clear hK4 hC4
            unfold pairV
            go_wp2
            go_ret2
            obtain ⟨hch, hssl, hSBi, hfri, hKi, hCi, hsn, hbad, hxy⟩ := unhide HP
            obtain ⟨hK4, hC4⟩ := unhide H4
            refine ⟨?_, hK4, hCi.trans hC4⟩
            rw [chk_bad (unhide HSe) (unhide HNo).1 (unhide HNo).2 (hbad (unhide HY)) (unhide HY)]
            rfl
        · have hin : i = n := by omega
          have hd1 : decide ((i : Int) < (n : Int)) = false := by simp; omega
          have htake : (t.l.map (Tm.chk rt sig)).take i = t.l.map (Tm.chk rt sig) := List.take_of_length_le (by rw [List.length_map]; have := unhide HN; omega)
          rw [htake] at hch
          have hIn := hSBi.ints (by omega) hlm
          have HSo := hide (unhide HSort wr (.slice (some ⟨sb, 0, none⟩) n n) ss hKi (hT.more hbeli (Nat.le_refl _) (Nat.le_refl _)) (hR.below hbeli hB0) hIn (by have := unhide HN; omega))
          have hgood := chk_good (unhide HSe) (unhide HNo).1 (unhide HNo).2 (env := env) (by rw [hch])
          rw [hch] at hgood
          simp only at hgood
          have HF := hide (And.intro hgood (And.intro hKi hCi))
          clear htake hch hssl hSBi hfri hKi hCi hin hIn hT hO hR hK hE hbeli hgood
          cases hso : sortOfT sig t.op t.name ss with
          | some s =>
            rw [hso] at HSo
            have HS := hide hso
            clear hso
            unfold optV at HSo
            go_wp2_with fail
            refine (unhide HSo).mono ?_
            rintro e w5 ⟨rfl, hb5⟩
            have HB5 := hide hb5
            clear hb5
            go_wp2
            go_ret2
            obtain ⟨hgood, hKi, hCi⟩ := unhide HF
            refine ⟨?_, hKi.below (unhide HB5) (Nat.le_refl _), hCi.trans (CF.of (unhide HB5) (Nat.le_refl _) hKi.rb_lt)⟩
            rw [hgood, unhide HS]
            rfl
          | none =>
            rw [hso] at HSo
            have HS := hide hso
            clear hso
            unfold optV at HSo
            go_wp2_with fail
            refine (unhide HSo).mono ?_
            rintro e w5 ⟨rfl, hb5⟩
            have HB5 := hide hb5
            clear hb5
            go_wp2
            go_ret2
            obtain ⟨hgood, hKi, hCi⟩ := unhide HF
            refine ⟨?_, hKi.below (unhide HB5) (Nat.le_refl _), hCi.trans (CF.of (unhide HB5) (Nat.le_refl _) hKi.rb_lt)⟩
            rw [hgood, unhide HS]
            rfl
  · have es : (se != 0) = true := by simp [hs0]
    have HS0 := hide hs0
    clear hs0
    go_wp2
    go_ret2
    obtain ⟨hT, hO, hR, hK, hE⟩ := unhide HI
    refine ⟨?_, hK.below (unhide HB2) (Nat.le_refl _), CF.of (unhide HB2) (Nat.le_refl _) hrb⟩
    rw [chk_shape (unhide HSe) (unhide HS0)]
    rfl
theorem kterm_any (rt : ByteArray → Bool) (sig : List Fn) : ∀ d, KTermC rt sig d
  | 0 => fun _ _ _ _ _ _ _ _ _ h => h.elim
  | d + 1 => kterm_of (kterm_any rt sig d)
end Go.Proofs.YtiockiilenjjaaaDoor

/- A new checker. -/
namespace Go.Proofs.YtiockiilenjjaaaDoor
open Go Go.RowKit
theorem findF_snoc (k : ByteArray) (l : List Fn) (f : Fn) : findF k (l ++ [f]) = match findF k l with
    | some g => some g
    | none => if k = f.name then some f else none := by
  induction l with
  | nil => rfl
  | cons a l ih =>
    show (if k = a.name then some a else findF k (l ++ [f])) = match (if k = a.name then some a else findF k l) with
      | some g => some g
      | none => if k = f.name then some f else none
    by_cases h : k = a.name
    · simp [h]
    · simp only [if_neg h]
      exact ih
section
variable {A W' : World} {B r rf rb : Nat} {sig : List Fn} {env : ByteArray → List Int} {es : List (ByteArray × Value)} {f : Fn} {v : Value}
theorem KS.knownF (hK : KS A B r rf rb sig env) {g : Fn} (hf : findF f.name sig = some g) : KS A B r rf rb (sig ++ [f]) env := by
  refine ⟨hK.hr, hK.hrf, hK.hrb, hK.ne, hK.blk, ?_, hK.bm⟩
  obtain ⟨es, h1, h2⟩ := hK.fm
  refine ⟨es, h1, fun k => ?_⟩
  rw [findF_snoc]
  rcases h2 k with ⟨e1, e2⟩ | ⟨f', v, e1, e2, e3⟩
  · rw [e1]
    refine .inl ⟨?_, e2⟩
    by_cases hk : k = f.name
    · subst hk; rw [hf] at e1; cases e1
    · simp [hk]
  · rw [e1]
    exact .inr ⟨f', v, rfl, e2, e3⟩
theorem KS.addF (hK : KS A B r rf rb sig env) (hes : NM A rf es) (hf : findF f.name sig = none) (hv : FnV A B v f) (hN : NM W' rf (put f.name v es)) (hput : PutAt rf A W') : KS W' B r rf rb (sig ++ [f]) env := by
  have hrf : r ≠ rf := fun e => by
    obtain ⟨a, c, h1, _⟩ := hes
    have := hK.blk
    rw [e, h1] at this
    cases this
  have hbel : Below B A W' := ⟨hput.os, hput.tape, hput.output, by rw [hput.size]; exact Nat.le_refl _, fun k hk => hput.block k (by have := hK.hrf; omega)⟩
  refine ⟨hK.hr, hK.hrf, hK.hrb, hK.ne, by rw [hput.block r hrf]; exact hK.blk, ?_, ?_⟩
  · obtain ⟨es', h1, h2⟩ := hK.fm
    obtain rfl := nm_det hes h1
    refine ⟨_, hN, fun k => ?_⟩
    rw [findF_snoc, look_put]
    rcases h2 k with ⟨e1, e2⟩ | ⟨f', v', e1, e2, e3⟩
    · rw [e1]
      by_cases hk : k = f.name
      · exact .inr ⟨f, v, by simp [hk], by simp [hk], hv.below hbel⟩
      · exact .inl ⟨by simp [hk], by rw [if_neg hk]; exact e2⟩
    · rw [e1]
      have hk : k ≠ f.name := fun e => by rw [e, hf] at e1; cases e1
      exact .inr ⟨f', v', rfl, by rw [if_neg hk]; exact e2, e3.below hbel⟩
  · obtain ⟨es', e1, e2, e3⟩ := hK.bm
    refine ⟨es', e1.same (hput.block rb (fun e => hK.ne e.symm)), fun k => (e2 k).imp id ?_, e3⟩
    rintro ⟨v', f1, f2, f3⟩
    refine ⟨v', f1, ⟨f2.1, f2.2.imp id ?_⟩, f3⟩
    rintro ⟨g, cap, cur, rfl, k1, k2, k3⟩
    refine ⟨g, cap, cur, rfl, k1, ?_, k3⟩
    rw [hput.block g (fun e => by
      obtain ⟨a, c, h1, _⟩ := hes
      rw [e, h1] at k2
      cases k2)]
    exact k2
end
/-- Signatures, in memory. -/
def SigR (w : World) (B : Nat) (sig : List Fn) (b o j : Nat) : Prop := ∀ f, sig[j]? = some f → ∃ aA cA, w.rangeAt b o [.string f.name, .slice aA f.args.length cA, .int .i64 f.out] ∧ fits f.out ∧ Row B aA f.args.length cA 1 (IR w f.args)
theorem KS.new (w : World) {B : Nat} (hB : B ≤ w.heap.size) : KS (((w.alloc (.map #[] 0)).alloc (.map #[] 0)).alloc (.cells #[.map (some w.heap.size), .map (some (w.heap.size + 1))] 100)) B (w.heap.size + 2) w.heap.size (w.heap.size + 1) [] (fun _ => []) := by
  have h1 := NM.new w
  have h2 := NM.new (w.alloc (.map #[] 0))
  rw [asize] at h2
  have b2 := (Below.refl (w.heap.size + 1) (w.alloc (.map #[] 0))).alloc (by simp) (.map #[] 0)
  have b3 := (Below.refl (w.heap.size + 2) ((w.alloc (.map #[] 0)).alloc (.map #[] 0))).alloc (by simp) (.cells #[.map (some w.heap.size), .map (some (w.heap.size + 1))] 100)
  refine ⟨by omega, hB, by omega, by omega, ?_, ⟨[], (h1.below b2 (by omega)).below b3 (by omega), fun k => .inl ⟨rfl, rfl⟩⟩, ⟨[], h2.below b3 (by omega), fun k => .inl ⟨rfl, rfl⟩, fun k k' v v' g h => by cases h⟩⟩
  have h := new_block ((w.alloc (.map #[] 0)).alloc (.map #[] 0)) #[.map (some w.heap.size), .map (some (w.heap.size + 1))] 100
  simp only [asize] at h
  exact h
set_option maxRecDepth 1000000 in
set_option maxHeartbeats 16000000 in
theorem newChecker_any {w : World} {B n c : Nat} {a : Option Addr} {sig : List Fn} (hS : Row B a n c 3 (SigR w B sig)) (hn : n = sig.length) (hB : B ≤ w.heap.size) :
    Calls Tryd.prog 36 #[.slice a n c] w fun e w' => ∃ r rf rb, e = .returned (.pointer (some ⟨r, 0, none⟩)) ∧ KS w' B r rf rb sig (fun _ => []) ∧ w.heap.size ≤ rf ∧ w.heap.size ≤ rb ∧ w.heap.size ≤ r ∧ Below w.heap.size w w' := by
  have HS := hide hS
  have HN := hide hn
  have hmax : n ≤ 281474976710656 := by have := hS.1; have := hS.2.1; omega
  have km1 : (Instr.makeMap 97 (some (.int .i64 (n : Int)))).run Tryd.prog w = .ok (.map (some w.heap.size)) (w.alloc (.map #[] 0)) := rfl
  have km2 : (Instr.makeMap 98 none).run Tryd.prog (w.alloc (.map #[] 0)) = .ok (.map (some (w.heap.size + 1))) ((w.alloc (.map #[] 0)).alloc (.map #[] 0)) := by
    have h : ∀ W : World, (Instr.makeMap 98 none).run Tryd.prog W = .ok (.map (some W.heap.size)) (W.alloc (.map #[] 0)) := fun W => rfl
    rw [h, asize]
  have hK0 := KS.new w hB
  have hb0 : Below w.heap.size w (((w.alloc (.map #[] 0)).alloc (.map #[] 0)).alloc (.cells #[.map (some w.heap.size), .map (some (w.heap.size + 1))] 100)) := three (Below.refl _ w) (Nat.le_refl _) _ _ _
  have H0 := hide (And.intro hK0 hb0)
  clear hS hn hK0 hb0
  go_enter Tryd.func36, Tryd.ntmps36
  go_wp2
  clear km1 km2
  obtain ⟨W0, eW0⟩ : ∃ W0, (((w.alloc (.map #[] 0)).alloc (.map #[] 0)).alloc (.cells #[.map (some w.heap.size), .map (some (w.heap.size + 1))] 100)) = W0 := ⟨_, rfl⟩
  rw [eW0] at H0 ⊢
  clear eW0
  obtain ⟨r, hr⟩ : ∃ r, w.heap.size + 1 + 1 = r := ⟨_, rfl⟩
  rw [show w.heap.size + 2 = w.heap.size + 1 + 1 from rfl, hr] at H0
  rw [hr]
  have HRr := hide hr
  clear hr
  go_loopw [16] (fun iv wr => ∃ i : Nat, i ≤ n ∧ iv = .int .i64 (i : Int) ∧ KS wr B r w.heap.size (w.heap.size + 1) (sig.take i) (fun _ => []) ∧ Below w.heap.size w wr) (fun iv _ => (n - (intOf iv).toNat))
  case atStart => exact ⟨0, Nat.zero_le _, rfl, unhide H0⟩
  case round =>
    obtain ⟨i, hi, rfl, hKi, hbi⟩ := hrel
    by_cases hlt : i < n
    · have h1 : i < sig.length := by have := unhide HN; omega
      have hd1 : decide ((i : Int) < (n : Int)) = true := by simp; omega
      have hXi : (i : Int) < (n : Int) := by omega
      have hcap : (i : Int) < 281474976710656 := by omega
      obtain ⟨b, off, rfl, hbB, hj⟩ := (unhide HS).2.2 (by omega)
      obtain ⟨aA, cA, rg, hfo, hRow⟩ := hj i hlt _ (List.getElem?_eq_getElem h1)
      have hsn : sig.take (i + 1) = sig.take i ++ [sig[i]] := take_more h1
      generalize hf : sig[i] = f at *
      have hbw : b < w.heap.size := by omega
      have p0 : wr.cell? ⟨b, off + i * 3, none⟩ = some (.string f.name) := (hbi.cell (p := ⟨b, off + i * 3, none⟩) hbw).trans (rg 0 _ rfl)
      have p1 : wr.cell? ⟨b, off + i * 3 + 1, none⟩ = some (.slice aA f.args.length cA) := (hbi.cell (p := ⟨b, off + i * 3 + 1, none⟩) hbw).trans (rg 1 _ rfl)
      have p2 : wr.cell? ⟨b, off + i * 3 + 2, none⟩ = some (.int .i64 f.out) := (hbi.cell (p := ⟨b, off + i * 3 + 2, none⟩) hbw).trans (rg 2 _ rfl)
      have hbwr : b < wr.heap.size := Nat.lt_of_lt_of_le hbw hbi.size
      obtain ⟨V, eV, hbV, hsV, hcV, hhV⟩ := box_new wr #[.string f.name, .slice aA f.args.length cA, .int .i64 f.out] 56
      have hKV := hKi.below hbV (Nat.le_refl _)
      have hb0V : Below w.heap.size w V := hbi.trans (hbV.mono hbi.size)
      have hqlt : wr.heap.size < V.heap.size := (blk hhV).1
      have hFv : FnV V B (.agg #[.string f.name, .slice aA f.args.length cA, .int .i64 f.out]) f := by
        refine ⟨aA, cA, rfl, hfo, hRow.mono (Nat.le_refl _) fun b o j hb2 hj x hx => ⟨?_, (hj x hx).2⟩⟩
        exact (hb0V.cell (p := ⟨b, o, none⟩) (by show b < _; omega)).trans (hj x hx).1
      obtain ⟨v, hv, hlk, _⟩ := hKV.fm.asked f.name
      obtain ⟨fn, fa, fl, fc, fo, rfl, _⟩ := hv.form
      have HSS : Hid (∀ w', Below V.heap.size V w' → (Below V.heap.size V w' ∧ w'.cell? ⟨r, 0, none⟩ = some (.map (some w.heap.size)) ∧ w'.cell? ⟨wr.heap.size, 0, none⟩ = some (.string f.name) ∧ (Instr.lookup 97 (.map (some w.heap.size)) (.string f.name) true).run Tryd.prog w' = .ok (.tuple #[.agg #[.string fn, .slice fa fl fc, .int .i64 fo], .bool (findF f.name (sig.take i)).isSome]) w')) := fun w' h => by
        refine ⟨h, (hKV.below h (Nat.le_refl _)).cells.1, (h.cell (p := ⟨wr.heap.size, 0, none⟩) hqlt).trans ((blk hhV).2.1 0 _ rfl), ?_⟩
        obtain ⟨es, k1, k2⟩ := hKV.fm
        have hl := nm_lookup (k := f.name) umF ukS (zF w') (k1.below h k1.lt)
        have hl0 := nm_lookup (k := f.name) umF ukS (zF V) k1
        rw [hl0.1] at hlk
        injection hlk with e
        rw [hl.1, e]
      obtain ⟨_, m0, q0, _⟩ := unhide HSS V (Below.refl _ V)
      have HV := hide (And.intro hKV (And.intro hb0V (And.intro hhV (And.intro hFv (And.intro hsn hqlt)))))
      clear hj rg hfo hRow hsn hf hKi hbi hbV hsV hcV hhV hKV hb0V hqlt hFv hv hlk
      have HAr := hide (rfl : f.args.length = f.args.length)
      cases hfd : findF f.name (sig.take i) with
      | some g =>
        have HFd := hide hfd
        rw [hfd] at HSS
        simp only [Option.isSome_some] at HSS
        clear hfd
        go_wp2
        clear eV
        go_region_held3 (fun w' => Below V.heap.size V w' ∧ w'.cell? ⟨r, 0, none⟩ = some (.map (some w.heap.size)) ∧ w'.cell? ⟨wr.heap.size, 0, none⟩ = some (.string f.name) ∧ (Instr.lookup 97 (.map (some w.heap.size)) (.string f.name) true).run Tryd.prog w' = .ok (.tuple #[.agg #[.string fn, .slice fa fl fc, .int .i64 fo], .bool true]) w') (first | assumption | exact unhide HSS _ (keep0 _) | exact unhide HSS _ (keepA (by assumption) _) | exact unhide HSS _ ((keep0 _).alloc (keep0 _).size _)) (fail)
        all_goals
          obtain ⟨U, eU, hbU⟩ : ∃ U, (V.alloc (.cells #[.string fn, .slice fa fl fc, .int .i64 fo] 56)).drew = U ∧ Below V.heap.size V U := ⟨_, rfl, ((Below.refl _ V).alloc (Nat.le_refl _) _).drew⟩
          rw [eU]
          have HBU := hide hbU
          clear eU hbU m0 q0 HSS
          go_wp2
          obtain ⟨hKV, hb0V, hhV, hFv, hsn, hqlt⟩ := unhide HV
          refine ⟨⟨i + 1, by omega, rfl, ?_, hb0V.trans ((unhide HBU).mono hb0V.size)⟩, by simp only [intOf]; omega⟩
          rw [hsn]
          exact (hKV.knownF (unhide HFd)).below (unhide HBU) (Nat.le_refl _)
      | none =>
        have HFd := hide hfd
        rw [hfd] at HSS
        simp only [Option.isSome_none] at HSS
        clear hfd
        go_wp2
        clear eV
        go_region_held3 (fun w' => Below V.heap.size V w' ∧ w'.cell? ⟨r, 0, none⟩ = some (.map (some w.heap.size)) ∧ w'.cell? ⟨wr.heap.size, 0, none⟩ = some (.string f.name) ∧ (Instr.lookup 97 (.map (some w.heap.size)) (.string f.name) true).run Tryd.prog w' = .ok (.tuple #[.agg #[.string fn, .slice fa fl fc, .int .i64 fo], .bool false]) w') (first | assumption | exact unhide HSS _ (keep0 _) | exact unhide HSS _ (keepA (by assumption) _) | exact unhide HSS _ ((keep0 _).alloc (keep0 _).size _)) (fail)
        all_goals
          obtain ⟨U, eU, hbU⟩ : ∃ U, (V.alloc (.cells #[.string fn, .slice fa fl fc, .int .i64 fo] 56)).drew = U ∧ Below V.heap.size V U := ⟨_, rfl, ((Below.refl _ V).alloc (Nat.le_refl _) _).drew⟩
          rw [eU]
          obtain ⟨hKV, hb0V, hhV, hFv, hsn, hqlt⟩ := unhide HV
          have hKU := hKV.below hbU (Nat.le_refl _)
          have hhU := (hbU.block wr.heap.size hqlt).trans hhV
          have hFU := hFv.below (hbU.mono (by have := hKV.hr; have := hKV.r_lt; omega))
          have hKd := hKU.below (keep0 U) (Nat.le_refl _)
          obtain ⟨es, hes, _⟩ := hKd.fm
          obtain ⟨W9, hrun, hput, hN9⟩ := nm_update (P := Tryd.prog) (k := f.name) (v := .agg #[.string f.name, .slice aA f.args.length cA, .int .i64 f.out]) umF ukS hes
          have hK9 := hKd.addF hes (unhide HFd) (hFU.below (Below.refl B U).drew) hN9 hput
          have hx9 : W9.heap[wr.heap.size]? = some (.cells #[.string f.name, .slice aA f.args.length cA, .int .i64 f.out] 56) := (hput.block _ (fun e => by
            obtain ⟨a, c, k1, _⟩ := hes
            have k2 : U.drew.heap[wr.heap.size]? = _ := hhU
            rw [e] at k2
            rw [k1] at k2
            cases k2)).trans hhU
          have HS9 : Hid (W9.cell? ⟨r, 0, none⟩ = some (.map (some w.heap.size)) ∧ W9.cell? ⟨wr.heap.size, 0, none⟩ = some (.string f.name) ∧ W9.cell? ⟨wr.heap.size, 1, none⟩ = some (.slice aA f.args.length cA) ∧ W9.cell? ⟨wr.heap.size, 2, none⟩ = some (.int .i64 f.out)) := ⟨hK9.cells.1, (blk hx9).2.1 0 _ rfl, (blk hx9).2.1 1 _ rfl, (blk hx9).2.1 2 _ rfl⟩
          have HSC : Hid (U.drew.cell? ⟨r, 0, none⟩ = some (.map (some w.heap.size)) ∧ U.drew.cell? ⟨wr.heap.size, 0, none⟩ = some (.string f.name) ∧ U.drew.cell? ⟨wr.heap.size, 1, none⟩ = some (.slice aA f.args.length cA) ∧ U.drew.cell? ⟨wr.heap.size, 2, none⟩ = some (.int .i64 f.out)) := ⟨hKd.cells.1, (blk (show U.drew.heap[wr.heap.size]? = _ from hhU)).2.1 0 _ rfl, (blk (show U.drew.heap[wr.heap.size]? = _ from hhU)).2.1 1 _ rfl, (blk (show U.drew.heap[wr.heap.size]? = _ from hhU)).2.1 2 _ rfl⟩
          have g0 : U.cell? ⟨r, 0, none⟩ = some (.map (some w.heap.size)) := hKU.cells.1
          have g1 : U.cell? ⟨wr.heap.size, 0, none⟩ = some (.string f.name) := (blk hhU).2.1 0 _ rfl
          have g2 : U.cell? ⟨wr.heap.size, 1, none⟩ = some (.slice aA f.args.length cA) := (blk hhU).2.1 1 _ rfl
          have g3 : U.cell? ⟨wr.heap.size, 2, none⟩ = some (.int .i64 f.out) := (blk hhU).2.1 2 _ rfl
          have hb9 : Below w.heap.size w W9 := hput.below (hb0V.trans (((hbU.mono hb0V.size)).drew)) (Nat.le_refl _)
          rw [← hsn] at hK9
          have H9 := hide (And.intro hK9 hb9)
          clear eU hbU m0 q0 HSS hKV hb0V hhV hFv hsn hqlt hKU hhU hFU hKd hes hput hN9 hK9 hx9 hb9
          go_wp2
          go_region_held3 (fun w' => w'.cell? ⟨r, 0, none⟩ = some (.map (some w.heap.size)) ∧ w'.cell? ⟨wr.heap.size, 0, none⟩ = some (.string f.name) ∧ w'.cell? ⟨wr.heap.size, 1, none⟩ = some (.slice aA f.args.length cA) ∧ w'.cell? ⟨wr.heap.size, 2, none⟩ = some (.int .i64 f.out)) (first | assumption | exact (unhide HS9) | exact (unhide HSC)) (fail)
          go_wp2
          exact ⟨⟨i + 1, by omega, rfl, unhide H9⟩, by simp only [intOf]; omega⟩
    · have hin : i = n := by omega
      have hd1 : decide ((i : Int) < (n : Int)) = false := by simp; omega
      rw [List.take_of_length_le (by have := unhide HN; omega)] at hKi
      have HF := hide (And.intro hKi hbi)
      clear hKi hbi hin
      go_wp2
      go_ret
      exact ⟨r, w.heap.size, w.heap.size + 1, rfl, (unhide HF).1, Nat.le_refl _, by omega, by have := unhide HRr; omega, (unhide HF).2⟩
end Go.Proofs.YtiockiilenjjaaaDoor

/- Check. -/
namespace Go.Proofs.YtiockiilenjjaaaDoor
open Go Go.RowKit
def Tm.check (rt : ByteArray → Bool) (sig : List Fn) (t : Tm) : Int × Int := if limE t ≠ 0 then (0, limE t) else t.chk rt sig (fun _ => [])
set_option maxRecDepth 1000000 in
set_option maxHeartbeats 16000000 in
theorem Check_any {rt : ByteArray → Bool} {w : World} {B d n c : Nat} {a : Option Addr} {sig : List Fn} {v : Value} {t : Tm} (hT : IsT w B d v t) (hS : Row B a n c 3 (SigR w B sig)) (hn : n = sig.length) (hB : B ≤ w.heap.size) (hB0 : 0 < B) (hR : RL w) (hO : OkT (PC rt) (d + 1) t) (hwt : t.wt ≤ 1000000) :
    Calls Tryd.prog 14 #[.slice a n c, v] w (VPost (pairV (t.check rt sig)) w) := by
  obtain ⟨x0, x1, x2, x3, x4, x5, x6, rfl⟩ := hT.form
  obtain ⟨w1, e1, hb1, hs1, hc1, hh1⟩ := box_new w #[x0, x1, x2, x3, x4, x5, x6] 26
  have hA := hT.boxed hB
  rw [e1] at hA
  have hS1 : Row (w.heap.size + 1) a n c 3 (SigR w1 (w.heap.size + 1) sig) := hS.mono (by omega) fun b o j hb h f hf => by
    obtain ⟨aA, cA, k1, k2, k3⟩ := h f hf
    refine ⟨aA, cA, rangeAt_below k1 (show b < w.heap.size by omega) hb1, k2, k3.mono (by omega) fun b' o' j' hb' hj x hx => ⟨?_, (hj x hx).2⟩⟩
    exact (hb1.cell (p := ⟨b', o', none⟩) (by show b' < _; omega)).trans (hj x hx).1
  have HLim := hide (limits_any hA (by omega) hO.sizes.1 hO.sizes.2)
  have HI := hide (And.intro hA (And.intro hS1 (And.intro hn (And.intro hO hwt))))
  have HR1 := hide (hR.below hb1 (by omega))
  have HB1 := hide hb1
  have HS1 := hide hs1
  clear hT hS hA hS1 hR hn hO hwt hb1 hs1 hc1 hh1 hB
  generalize hce : t.check rt sig = ce at *
  have HCe := hide hce
  clear hce
  obtain ⟨ce1, ce2⟩ := ce
  unfold Tm.check at HCe
  by_cases hl : limE t = 0
  · rw [if_neg (by simp [hl])] at HCe
    rw [hl] at HLim
    clear hl
    go_enter Tryd.func14, Tryd.ntmps14
    go_wp2_with fail
    refine (unhide HLim).mono ?_
    rintro e w2 ⟨rfl, hb2⟩
    have hb02 : Below (w.heap.size + 1) w1 w2 := hb2.mono (by have := unhide HS1; omega)
    obtain ⟨hA, hS1, hn, hO, hwt⟩ := unhide HI
    have hsz2 : w.heap.size + 1 ≤ w2.heap.size := by have := hb2.size; have := unhide HS1; omega
    have hS2 : Row (w.heap.size + 1) a n c 3 (SigR w2 (w.heap.size + 1) sig) := hS1.mono (Nat.le_refl _) fun b o j hb h f hf => by
      obtain ⟨aA, cA, k1, k2, k3⟩ := h f hf
      refine ⟨aA, cA, rangeAt_below k1 hb hb02, k2, k3.mono (Nat.le_refl _) fun b' o' j' hb' hj x hx => ⟨?_, (hj x hx).2⟩⟩
      exact (hb02.cell (p := ⟨b', o', none⟩) hb').trans (hj x hx).1
    have HNew := hide (newChecker_any hS2 hn hsz2)
    have H2 := hide (And.intro hb02 (And.intro hb2 hsz2))
    clear hb2 hb02 hA hS1 hn hO hwt hsz2 hS2
    go_wp2_with fail
    refine (unhide HNew).mono ?_
    rintro e w3 ⟨r, rf, rb, rfl, hK3, hrf, hrb, hr, hb3⟩
    obtain ⟨hb02, hb2, hsz2⟩ := unhide H2
    obtain ⟨hA, hS1, hn, hO, hwt⟩ := unhide HI
    have hb13 : Below (w.heap.size + 1) w1 w3 := hb02.trans (hb3.mono hsz2)
    have HT := hide (kterm_any rt sig (d + 1) (w.heap.size + 1) r rf rb (fun _ => []) w3 w.heap.size 0 t (hA.more hb13 (Nat.le_refl _) (Nat.le_refl _)) hO ((unhide HR1).below hb13 (by omega)) hK3 (fun k => by simp; omega))
    rw [unhide HCe] at HT
    have H3 := hide (And.intro hb13 hK3)
    clear hK3 hrf hrb hr hb3 hb02 hb2 hsz2 hA hS1 hn hO hwt hb13
    go_wp2_with fail
    refine (unhide HT).mono ?_
    rintro e w4 ⟨rfl, hK4, hC4⟩
    obtain ⟨hb13, hK3⟩ := unhide H3
    have H4 := hide (hb13.trans (hK3.cf_below hC4))
    clear hK4 hC4 hb13 hK3
    unfold pairV
    go_wp2
    go_ret2
    exact ⟨rfl, (unhide HB1).trans ((unhide H4).mono (by omega))⟩
  · rw [if_pos hl] at HCe
    have el : (limE t != 0) = true := by simp [hl]
    generalize limE t = le at *
    clear hl
    have hcc := unhide HCe
    injection hcc with h1 h2
    subst h1 h2
    clear HCe
    go_enter Tryd.func14, Tryd.ntmps14
    go_wp2_with fail
    refine (unhide HLim).mono ?_
    rintro e w2 ⟨rfl, hb2⟩
    have HB2 := hide hb2
    clear hb2
    go_wp2
    go_ret2
    exact ⟨rfl, (unhide HB1).trans ((unhide HB2).mono (by have := unhide HS1; omega))⟩
end Go.Proofs.YtiockiilenjjaaaDoor

namespace Go.Proofs.YtiockiilenjjaaaDoor
open Go Go.RowKit
/-- Block k is no slot. -/
def NS (w : World) (k : Nat) : Prop := ∀ cs fr, w.heap[k]? ≠ some (.cells cs 151 fr)
/-- All stands, but one block and slots, these not below B. -/
structure XF (B r : Nat) (w w' : World) : Prop where
  os : w'.os = w.os
  tape : w'.tape = w.tape
  output : w'.output = w.output
  size : w.heap.size ≤ w'.heap.size
  block : ∀ k, k < w.heap.size → (k < B ∨ k ≠ r ∧ NS w k) → w'.heap[k]? = w.heap[k]?
theorem XF.refl (B r : Nat) (w : World) : XF B r w w := ⟨rfl, rfl, rfl, Nat.le_refl _, fun _ _ _ => rfl⟩
theorem XF.trans {B r : Nat} {a b c : World} (h : XF B r a b) (k : XF B r b c) : XF B r a c :=
  ⟨k.os.trans h.os, k.tape.trans h.tape, k.output.trans h.output, Nat.le_trans h.size k.size, fun j hj hr => by
    have e := h.block j hj hr
    refine (k.block j (Nat.lt_of_lt_of_le hj h.size) ?_).trans e
    rcases hr with hr | ⟨hr, hn⟩
    · exact .inl hr
    · exact .inr ⟨hr, fun cs fr hc => hn cs fr (e.symm.trans hc)⟩⟩
theorem XF.of {B r C : Nat} {w w' : World} (h : Below C w w') (hC : w.heap.size ≤ C) : XF B r w w' := ⟨h.os, h.tape, h.output, h.size, fun k hk _ => h.block k (Nat.lt_of_lt_of_le hk hC)⟩
theorem XF.below {B r : Nat} {w w' : World} (h : XF B r w w') (hs : B ≤ w.heap.size) : Below B w w' := ⟨h.os, h.tape, h.output, h.size, fun k hk => h.block k (by omega) (.inl hk)⟩
theorem XF.blk {B r q : Nat} {w w' : World} {cs : Array Value} {ty : TypeId} (h : XF B r w w') (hx : w.heap[q]? = some (.cells cs ty)) (hq : q ≠ r) (ht : ty ≠ 151) : w'.heap[q]? = some (.cells cs ty) := by
  rw [h.block q (Array.getElem?_eq_some_iff.1 hx).1 (.inr ⟨hq, fun cs' fr e => by rw [hx] at e; injection e with e; injection e with _ e; exact ht e⟩)]
  exact hx
theorem XF.map {B r q : Nat} {w w' : World} {es : List (ByteArray × Value)} (h : XF B r w w') (hx : NM w q es) (hq : q ≠ r) : NM w' q es := by
  refine hx.same (h.block q hx.lt (.inr ⟨hq, fun cs fr e => ?_⟩))
  obtain ⟨a, c, h1, _⟩ := hx
  rw [h1] at e
  cases e
/-- What stands for names: terms, each in a slot of its own, with its measures, and how often its name is hidden. -/
def SL (w : World) (B rs dl : Nat) (sub : ByteArray → Option Tm) (hid : ByteArray → Int) : Prop := B ≤ rs ∧ ∃ es, NM w rs es ∧ (∀ k, (sub k = none ∧ look k es = none) ∨ ∃ u q bt ot, sub k = some u ∧ look k es = some (.pointer (some ⟨q, 0, none⟩)) ∧ B ≤ q ∧ w.heap[q]? = some (.cells #[.pointer (some ⟨bt, ot, none⟩), .int .i64 u.size, .int .i64 u.depth, .bool u.ground, .int .i64 (hid k)] 151) ∧ TmAt w B dl bt ot u) ∧ ∀ k k' q, look k es = some (.pointer (some ⟨q, 0, none⟩)) → look k' es = some (.pointer (some ⟨q, 0, none⟩)) → k = k'
/-- As a value: also where there is nothing. -/
def SLv (w : World) (B : Nat) (sv : Value) (dl : Nat) (sub : ByteArray → Option Tm) (hid : ByteArray → Int) : Prop := (sv = .map none ∧ ∀ k, sub k = none) ∨ ∃ rs, sv = .map (some rs) ∧ SL w B rs dl sub hid
theorem SL.below {w w' : World} {B rs dl C : Nat} {sub : ByteArray → Option Tm} {hid : ByteArray → Int} (h : SL w B rs dl sub hid) (hb : Below C w w') (hC : w.heap.size ≤ C) : SL w' B rs dl sub hid := by
  obtain ⟨hB, es, h1, h2, h3⟩ := h
  have hlt := h1.lt
  refine ⟨hB, es, h1.below hb (by omega), fun k => (h2 k).imp id ?_, h3⟩
  rintro ⟨u, q, bt, ot, e1, e2, e3, e4, e5⟩
  exact ⟨u, q, bt, ot, e1, e2, e3, by rw [hb.block q (by have := (Array.getElem?_eq_some_iff.1 e4).1; omega)]; exact e4, e5.more (hb.mono (by omega)) (Nat.le_refl _) (Nat.le_refl _)⟩
theorem SLv.below {w w' : World} {B dl C : Nat} {sv : Value} {sub : ByteArray → Option Tm} {hid : ByteArray → Int} (h : SLv w B sv dl sub hid) (hb : Below C w w') (hC : w.heap.size ≤ C) : SLv w' B sv dl sub hid :=
  h.imp id fun ⟨rs, e, h⟩ => ⟨rs, e, h.below hb hC⟩
theorem umS : Tryd.prog.underlying 89 = some (.map 9 149) := by kernel_rfl
set_option maxRecDepth 100000 in
theorem zS (w : World) : (zeroValue 149).run Tryd.prog w = .ok (.pointer none) w := by go_simp
set_option maxRecDepth 100000 in
theorem lk_none (k : ByteArray) (w : World) : (Instr.lookup 89 (.map none) (.string k) false).run Tryd.prog w = .ok (.pointer none) w := rfl
set_option maxRecDepth 100000 in
/-- What the slots answer. -/
theorem SLv.asked {w : World} {B dl : Nat} {sv : Value} {sub : ByteArray → Option Tm} {hid : ByteArray → Int} (h : SLv w B sv dl sub hid) (k : ByteArray) : (sub k = none ∧ ∀ w', Below w.heap.size w w' → (Instr.lookup 89 sv (.string k) false).run Tryd.prog w' = .ok (.pointer none) w') ∨
    ∃ u q bt ot, sub k = some u ∧ (∀ w', Below w.heap.size w w' → (Instr.lookup 89 sv (.string k) false).run Tryd.prog w' = .ok (.pointer (some ⟨q, 0, none⟩)) w') ∧ B ≤ q ∧ w.heap[q]? = some (.cells #[.pointer (some ⟨bt, ot, none⟩), .int .i64 u.size, .int .i64 u.depth, .bool u.ground, .int .i64 (hid k)] 151) ∧ TmAt w B dl bt ot u := by
  rcases h with ⟨rfl, h⟩ | ⟨rs, rfl, hB, es, h1, h2, h3⟩
  · refine .inl ⟨h k, ?_⟩
    intro w' _
    exact lk_none k w'
  · have hl := fun w' (hw : Below w.heap.size w w') => (nm_lookup (k := k) umS ukS (zS w') (h1.below hw h1.lt)).2
    rcases h2 k with ⟨e1, e2⟩ | ⟨u, q, bt, ot, e1, e2, e3, e4, e5⟩
    · exact .inl ⟨e1, fun w' hw => by rw [hl w' hw, e2]; rfl⟩
    · exact .inr ⟨u, q, bt, ot, e1, fun w' hw => by rw [hl w' hw, e2]; rfl, e3, e4, e5⟩
set_option maxRecDepth 100000 in
/-- Behind a slot's being told how often its name is hidden. -/
theorem SL.hide {w : World} {B rs dl : Nat} {sub : ByteArray → Option Tm} {hid : ByteArray → Int} (h : SL w B rs dl sub hid) {k : ByteArray} {u : Tm} {q bt ot : Nat} (hB : B ≤ w.heap.size) (hs : sub k = some u) (hq : w.heap[q]? = some (.cells #[.pointer (some ⟨bt, ot, none⟩), .int .i64 u.size, .int .i64 u.depth, .bool u.ground, .int .i64 (hid k)] 151)) (hl : (Instr.lookup 89 (.map (some rs)) (.string k) false).run Tryd.prog w = .ok (.pointer (some ⟨q, 0, none⟩)) w) (hqB : B ≤ q) (x : Int) :
    SL (w.setCell ⟨q, 4, none⟩ (.int .i64 x)) B rs dl sub (fun j => if j = k then x else hid j) ∧ ∀ r, XF B r w (w.setCell ⟨q, 4, none⟩ (.int .i64 x)) := by
  obtain ⟨hBr, es, h1, h2, h3⟩ := h
  have hlk : look k es = some (.pointer (some ⟨q, 0, none⟩)) := by
    have h4 := (nm_lookup (k := k) umS ukS (zS w) h1).2
    rw [hl, Result.ok.injEq] at h4
    replace h4 := h4.1
    cases hk : look k es with
    | none => rw [hk] at h4; cases h4
    | some v => rw [hk] at h4; rw [show v = .pointer (some ⟨q, 0, none⟩) from h4.symm]
  have hqr : rs ≠ q := fun e => by
    obtain ⟨a, c, h5, _⟩ := h1
    rw [e, hq] at h5
    cases h5
  have hbel : Below B w (w.setCell ⟨q, 4, none⟩ (.int .i64 x)) := (Below.refl B w).setCell (p := ⟨q, 4, none⟩) hqB _
  refine ⟨⟨hBr, es, h1.same (Below.heap_setCell w ⟨q, 4, none⟩ _ rs hqr), fun j => ?_, h3⟩, fun r => ?_⟩
  · refine (h2 j).imp id ?_
    rintro ⟨u', q', bt', ot', e1, e2, e3, e4, e5⟩
    by_cases hj : j = k
    · subst hj
      rw [hlk] at e2
      injection e2 with e2
      injection e2 with e2
      injection e2 with e2
      injection e2 with e2
      subst e2
      rw [hq] at e4
      injection e4 with e4
      injection e4 with e4
      rw [hs] at e1
      injection e1 with e1
      subst e1
      have e6 := congrArg (fun a => a[0]?) e4
      simp only [List.getElem?_toArray, List.getElem?_cons_zero, Option.some.injEq, Value.pointer.injEq, Addr.mk.injEq, and_true] at e6
      obtain ⟨rfl, rfl⟩ := e6
      exact ⟨u, q, bt, ot, hs, hlk, e3, by rw [set_block hq]; simp, e5.more hbel (Nat.le_refl _) (Nat.le_refl _)⟩
    · have hne : q' ≠ q := fun e => by
        subst e
        exact hj (h3 j k q' e2 hlk)
      refine ⟨u', q', bt', ot', e1, e2, e3, ?_, e5.more hbel (Nat.le_refl _) (Nat.le_refl _)⟩
      rw [Below.heap_setCell w ⟨q, 4, none⟩ _ q' hne]
      simp only [if_neg hj]
      exact e4
  · refine ⟨rfl, rfl, rfl, by simp, fun j _ hj => Below.heap_setCell w ⟨q, 4, none⟩ _ j ?_⟩
    rcases hj with hj | ⟨_, hn⟩
    · show j ≠ q; omega
    · intro e
      subst e
      exact hn _ _ hq
end Go.Proofs.YtiockiilenjjaaaDoor
