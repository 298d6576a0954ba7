/- Which texts are words: isWord of package term. -/
import Derived.Test.YtdkenobgfgmepaaDoorZAD
import Derived.Laws.RangeString
import Derived.Laws.RangeAny
import Derived.Laws.Runes
set_option linter.unusedVariables false
set_option linter.unusedSimpArgs false

/- Size, Depth, Ground, withinLimits of package term. -/
namespace Go.Proofs.YtdkenobgfgmepaaDoor
open Go Go.RowKit
theorem mterm_any : ∀ d, TermC d
  | 0 => fun _ _ _ _ _ _ _ _ h => h.elim
  | d + 1 => mterm_of (mlist_of (mterm_any d))
def mval (t : Tm) : Value := .agg #[.int .i64 t.size, .int .i64 t.depth, .bool t.ground]
set_option maxRecDepth 100000 in
set_option maxHeartbeats 16000000 in
theorem measure_any {B d : Nat} {w : World} {b o : Nat} {t : Tm} (hT : TmAt w B d b o t) (hB : B ≤ w.heap.size) (hs : t.size ≤ 65536) (hd : t.depth ≤ 65537) :
    Calls Tryd.prog 39 #[.pointer (some ⟨b, o, none⟩)] w (VPost (mval t) w) := by
  have HT := hide hT
  clear hT
  go_enter Tryd.func39, Tryd.ntmps39
  go_wp2_with fail
  obtain ⟨w1, e1, hb1, hs1, _, hh1⟩ := box_new w #[.int .i64 0, .int .i64 0, .bool false] 67
  obtain ⟨W, e2, hb2, hs2, _, hh2⟩ := box_new w1 #[.map none, .int .i64 0, .bool false] 122
  rw [e1, e2]
  have hbW : Below w.heap.size w W := hb1.trans (hb2.mono (by omega))
  rw [hs1] at hh2
  have hM : MS W (w.heap.size + 1) 0 := hh2
  refine (mterm_any d B (w.heap.size + 1) 0 W b o t 0 ((unhide HT).more (hbW.mono hB) (Nat.le_refl _) (Nat.le_refl _)) hM (by omega) (by omega) (by omega)).mono ?_
  rintro e w2 ⟨rfl, hM2, hB2⟩
  have hq6 : W.heap[w.heap.size]? = some (.cells #[.int .i64 0, .int .i64 0, .bool false] 67) := by rw [hb2.block _ (by omega)]; exact hh1
  have hq62 := hB2.blk hq6 (by omega)
  obtain ⟨hq6l, hq6c, hq6f⟩ := blk hq62
  have q0 : w2.cell? ⟨w.heap.size, 0, none⟩ = some (.int .i64 0) := hq6c 0 _ rfl
  have q1 : w2.cell? ⟨w.heap.size, 1, none⟩ = some (.int .i64 0) := hq6c 1 _ rfl
  have q2 : w2.cell? ⟨w.heap.size, 2, none⟩ = some (.bool false) := hq6c 2 _ rfl
  have g0 := hq6f 0
  have g1 := hq6f 1
  have g2 := hq6f 2
  have HQ := hide hq62
  have HB := hide (show Below w.heap.size w w2 from hbW.trans (hB2.below (by omega) (by omega)))
  clear e1 e2 hb1 hb2 hs1 hs2 hh1 hh2 hM hM2 hB2 hq6 hq62 hq6c hq6f hbW
  go_wp2
  exact ⟨rfl, _, res_row (cs := [.int .i64 t.size, .int .i64 t.depth, .bool t.ground]) rfl rfl (range_block (fill3 (unhide HQ))) rfl rfl rfl, rfl, (((unhide HB).setCell (Nat.le_refl _) _).setCell (Nat.le_refl _) _).setCell (Nat.le_refl _) _⟩
/-- A term's value, boxed. -/
theorem IsT.boxed {w : World} {B d : Nat} {t : Tm} {cs : Array Value} (h : IsT w B d (.agg cs) t) (hB : B ≤ w.heap.size) : TmAt (w.alloc (.cells cs 26)) (w.heap.size + 1) (d + 1) w.heap.size 0 t := by
  have hb : Below w.heap.size w (w.alloc (.cells cs 26)) := (Below.refl _ w).alloc (Nat.le_refl _) _
  obtain ⟨h1, h2, aL, aV, aP, cL, cV, cP, e, hL, hV, hP⟩ := h.more (hb.mono hB) (show B ≤ w.heap.size + 1 by omega) (Nat.le_refl d)
  cases e
  exact ⟨by omega, h1, h2, aL, aV, aP, cL, cV, cP, range_new w _ _, hL, hV, hP, trivial⟩
theorem IsT.form {w : World} {B d : Nat} {v : Value} {t : Tm} (h : IsT w B d v t) : ∃ x0 x1 x2 x3 x4 x5 x6, v = .agg #[x0, x1, x2, x3, x4, x5, x6] := by
  obtain ⟨_, _, aL, aV, aP, cL, cV, cP, e, _⟩ := h
  exact ⟨_, _, _, _, _, _, _, e⟩
set_option maxRecDepth 100000 in
theorem fm0 (x y z : Value) (w : World) : (Instr.field 67 (.agg #[x, y, z]) 0).run Tryd.prog w = .ok x w := rfl
set_option maxRecDepth 100000 in
theorem fm1 (x y z : Value) (w : World) : (Instr.field 67 (.agg #[x, y, z]) 1).run Tryd.prog w = .ok y w := rfl
set_option maxRecDepth 100000 in
theorem fm2 (x y z : Value) (w : World) : (Instr.field 67 (.agg #[x, y, z]) 2).run Tryd.prog w = .ok z w := rfl
set_option maxRecDepth 100000 in
set_option maxHeartbeats 16000000 in
theorem Size_any {B d : Nat} {w : World} {v : Value} {t : Tm} (hT : IsT w B d v t) (hB : B ≤ w.heap.size) (hs : t.size ≤ 65536) (hd : t.depth ≤ 65537) :
    Calls Tryd.prog 16 #[v] w (VPost (.int .i64 t.size) w) := by
  obtain ⟨x0, x1, x2, x3, x4, x5, x6, rfl⟩ := hT.form
  have HA := hide (hT.boxed hB)
  clear hT
  go_enter Tryd.func16, Tryd.ntmps16
  go_wp2_with fail
  refine (measure_any (unhide HA) (by simp) hs hd).mono ?_
  rintro e w2 ⟨rfl, hb2⟩
  have HB := hide (show Below w.heap.size w w2 from ((Below.refl _ w).alloc (Nat.le_refl _) _).trans (hb2.mono (by simp)))
  have hf := fm0 (.int .i64 t.size) (.int .i64 t.depth) (.bool t.ground)
  clear hb2 HA
  unfold mval
  go_wp2
  go_ret
  exact ⟨rfl, unhide HB⟩
set_option maxRecDepth 100000 in
set_option maxHeartbeats 16000000 in
theorem Depth_any {B d : Nat} {w : World} {v : Value} {t : Tm} (hT : IsT w B d v t) (hB : B ≤ w.heap.size) (hs : t.size ≤ 65536) (hd : t.depth ≤ 65537) :
    Calls Tryd.prog 18 #[v] w (VPost (.int .i64 t.depth) w) := by
  obtain ⟨x0, x1, x2, x3, x4, x5, x6, rfl⟩ := hT.form
  have HA := hide (hT.boxed hB)
  clear hT
  go_enter Tryd.func18, Tryd.ntmps18
  go_wp2_with fail
  refine (measure_any (unhide HA) (by simp) hs hd).mono ?_
  rintro e w2 ⟨rfl, hb2⟩
  have HB := hide (show Below w.heap.size w w2 from ((Below.refl _ w).alloc (Nat.le_refl _) _).trans (hb2.mono (by simp)))
  have hf := fm1 (.int .i64 t.size) (.int .i64 t.depth) (.bool t.ground)
  clear hb2 HA
  unfold mval
  go_wp2
  go_ret
  exact ⟨rfl, unhide HB⟩
set_option maxRecDepth 100000 in
set_option maxHeartbeats 16000000 in
theorem Ground_any {B d : Nat} {w : World} {v : Value} {t : Tm} (hT : IsT w B d v t) (hB : B ≤ w.heap.size) (hs : t.size ≤ 65536) (hd : t.depth ≤ 65537) :
    Calls Tryd.prog 22 #[v] w (VPost (.bool t.ground) w) := by
  obtain ⟨x0, x1, x2, x3, x4, x5, x6, rfl⟩ := hT.form
  have HA := hide (hT.boxed hB)
  clear hT
  go_enter Tryd.func22, Tryd.ntmps22
  go_wp2_with fail
  refine (measure_any (unhide HA) (by simp) hs hd).mono ?_
  rintro e w2 ⟨rfl, hb2⟩
  have HB := hide (show Below w.heap.size w w2 from ((Below.refl _ w).alloc (Nat.le_refl _) _).trans (hb2.mono (by simp)))
  have hf := fm2 (.int .i64 t.size) (.int .i64 t.depth) (.bool t.ground)
  clear hb2 HA
  unfold mval
  go_wp2
  go_ret
  exact ⟨rfl, unhide HB⟩
/-- What is wrong with a term's measures. -/
def limE (t : Tm) : Int := if 200 < t.depth then 33 else if 50000 < t.size then 34 else 0
set_option maxRecDepth 100000 in
set_option maxHeartbeats 16000000 in
theorem limits_any {B d : Nat} {w : World} {b o : Nat} {t : Tm} (hT : TmAt w B d b o t) (hB : B ≤ w.heap.size) (hs : t.size ≤ 65536) (hd : t.depth ≤ 65537) :
    Calls Tryd.prog 35 #[.pointer (some ⟨b, o, none⟩)] w (VPost (.int .i64 (limE t)) w) := by
  have HT := hide hT
  clear hT
  go_enter Tryd.func35, Tryd.ntmps35
  go_wp2_with fail
  refine (measure_any (unhide HT) hB hs hd).mono ?_
  rintro e w2 ⟨rfl, hb2⟩
  have HB := hide hb2
  clear hb2
  unfold mval
  by_cases h1 : 200 < t.depth
  · have d1 : decide (200 < (t.depth : Int)) = true := by simp; omega
    have HE := hide (show limE t = 33 by unfold limE; rw [if_pos h1])
    clear h1
    go_wp2
    go_ret
    exact ⟨by rw [unhide HE]; rfl, (unhide HB).alloc (unhide HB).size _⟩
  · have d1 : decide (200 < (t.depth : Int)) = false := by simp; omega
    by_cases h2 : 50000 < t.size
    · have d2 : decide (50000 < (t.size : Int)) = true := by simp; omega
      have HE := hide (show limE t = 34 by unfold limE; rw [if_neg h1, if_pos h2])
      clear h1 h2
      go_wp2
      go_ret
      exact ⟨by rw [unhide HE]; rfl, (unhide HB).alloc (unhide HB).size _⟩
    · have d2 : decide (50000 < (t.size : Int)) = false := by simp; omega
      have HE := hide (show limE t = 0 by unfold limE; rw [if_neg h1, if_neg h2])
      clear h1 h2
      go_wp2
      go_ret
      exact ⟨by rw [unhide HE]; rfl, (unhide HB).alloc (unhide HB).size _⟩
end Go.Proofs.YtdkenobgfgmepaaDoor

/- avowhelp: weight, Light. -/
namespace Go.Proofs.YtdkenobgfgmepaaDoor
open Go Go.RowKit
theorem Tm.pat_lt {t u : Tm} (h : u ∈ t.pat) : SizeOf.sizeOf u < SizeOf.sizeOf t := by
  have h1 := List.sizeOf_lt_of_mem h
  cases t
  simp only [Tm.mk.sizeOf_spec] at *
  omega
/-- How heavy a term is, patterns and bound variables with it. -/
def Tm.wt : Tm → Nat | ⟨_, _, _, _, l, vars, pat⟩ => 1 + vars.length + (l.map fun u => Tm.wt u).sum + (pat.map fun u => Tm.wt u).sum
theorem Tm.wt_eq (t : Tm) : t.wt = 1 + t.vars.length + (t.l.map Tm.wt).sum + (t.pat.map Tm.wt).sum := by
  cases t
  rw [Tm.wt]
/-- No deeper than that, names and numbers no longer than may be. -/
def Lt : Nat → Tm → Prop
  | 0, _ => False
  | e + 1, t => t.name.size ≤ 100 ∧ t.num.size ≤ 500 ∧ (∀ u ∈ t.l, Lt e u) ∧ ∀ u ∈ t.pat, Lt e u
def wb (k : Nat) : Nat := 281474976710657 + (62 - k) * 1001
def WPost (k M : Nat) (t : Tm) (w : World) (e : Ending) (w' : World) : Prop := ∃ m : Nat, e = .returned (.int .i64 m) ∧ m ≤ wb k ∧ (m ≤ M → m = t.wt ∧ Lt (61 - k) t) ∧ Below w.heap.size w w'
/-- So far: the weight of some, and of more. -/
def Sofar (a x k M i : Nat) (l : List Tm) : Prop := a ≤ wb k ∧ (a ≤ M → a = x + ((l.take i).map Tm.wt).sum ∧ ∀ u ∈ l.take i, Lt (60 - k) u)
theorem Sofar.next {a x k M i m : Nat} {l : List Tm} (h : Sofar a x k M i l) (hi : i < l.length) (ha : a ≤ M) (hM : M ≤ 1000) (hk : k ≤ 60) (hm : m ≤ wb (k + 1)) (hw : m ≤ M → m = l[i].wt ∧ Lt (61 - (k + 1)) l[i]) : Sofar (a + m) x k M (i + 1) l := by
  refine ⟨by unfold wb at *; omega, fun hle => ?_⟩
  obtain ⟨e1, h1⟩ := h.2 ha
  obtain ⟨e2, h2⟩ := hw (by omega)
  rw [take_more hi]
  refine ⟨?_, ?_⟩
  · rw [List.map_append, List.sum_append, List.map_singleton, List.sum_singleton]
    omega
  · intro u hu
    rcases List.mem_append.1 hu with hu | hu
    · exact h1 u hu
    · rw [List.mem_singleton.1 hu]
      rw [show 61 - (k + 1) = 60 - k by omega] at h2
      exact h2
set_option maxRecDepth 100000 in
set_option maxHeartbeats 16000000 in
theorem weight_any (M : Nat) (hM : M ≤ 1000) (d : Nat) : ∀ (B : Nat) (v : Value) (t : Tm) (k : Nat) (w : World), IsT w B d v t → B ≤ w.heap.size → k ≤ 61 →
    Calls Tryd.prog 34 #[v, .int .i64 k, .int .i64 M] w (WPost k M t w) := by
  induction d using Nat.strongRecOn with
  | _ d ih =>
  intro B v t k w hT hB hk
  obtain ⟨h1, h2, aL, aV, aP, cL, cV, cP, rfl, hL, hV, hP⟩ := hT
  have IH := hide ih
  clear ih h1 h2
  simp only [tcells, List.toArray]
  obtain ⟨nL, hnL⟩ : ∃ n, t.l.length = n := ⟨_, rfl⟩
  obtain ⟨nP, hnP⟩ : ∃ n, t.pat.length = n := ⟨_, rfl⟩
  obtain ⟨nV, hnV⟩ : ∃ n, t.vars.length = n := ⟨_, rfl⟩
  rw [hnL] at hL ⊢
  rw [hnP] at hP ⊢
  rw [hnV] at hV ⊢
  have hmL : nL ≤ 281474976710656 := by have := hL.1; have := hL.2.1; omega
  have hmP : nP ≤ 281474976710656 := by have := hP.1; have := hP.2.1; omega
  have hmV : nV ≤ 281474976710656 := by have := hV.1; have := hV.2.1; omega
  have HL := hide hL
  have HP := hide hP
  have HN := hide (And.intro hnL (And.intro hnP hnV))
  clear hL hP hV hnL hnP hnV
  cases d1 : decide (60 < (k : Int)) with
  | true =>
    have hk0 : 60 < k := by simp at d1; omega
    go_enter Tryd.func34, Tryd.ntmps34
    go_wp2
    go_ret
    exact ⟨M + 1, by simp, by unfold wb; omega, fun h => by omega, (Below.refl _ w).alloc (Nat.le_refl _) _⟩
  | false =>
    have hk0 : k ≤ 60 := by simp at d1; omega
    cases d2 : decide (100 < (t.name.size : Int)) with
    | true =>
      go_enter Tryd.func34, Tryd.ntmps34
      go_wp2
      go_ret
      exact ⟨M + 1, by simp, by unfold wb; omega, fun h => by omega, (Below.refl _ w).alloc (Nat.le_refl _) _⟩
    | false =>
      cases d3 : decide (500 < (t.num.size : Int)) with
      | true =>
        go_enter Tryd.func34, Tryd.ntmps34
        go_wp2
        go_ret
        exact ⟨M + 1, by simp, by unfold wb; omega, fun h => by omega, (Below.refl _ w).alloc (Nat.le_refl _) _⟩
      | false =>
        go_enter Tryd.func34, Tryd.ntmps34
        go_wp2
        obtain ⟨w0, e0, hb0, hs0, hc0, hh⟩ := box_new w #[.int .i64 t.op, .string t.name, .int .i64 t.sort, .string t.num, .slice aL nL cL, .slice aV nV cV, .slice aP nP cP] 26
        rw [e0]
        have hc4 : w0.cell? ⟨w.heap.size, 4, none⟩ = some (.slice aL nL cL) := hc0 4 _ rfl
        have hc6 : w0.cell? ⟨w.heap.size, 6, none⟩ = some (.slice aP nP cP) := hc0 6 _ rfl
        have HB0 := hide hb0
        have HC := hide (And.intro hc4 hc6)
        have HNm := hide (show t.name.size ≤ 100 ∧ t.num.size ≤ 500 by simp at d2 d3; omega)
        clear hc0 e0 hh hb0 hc4 hc6 d1 d2 d3
        go_loopw [7, 8] (fun nv iv wr => ∃ a i : Nat, nv = .int .i64 a ∧ iv = .int .i64 i ∧ i ≤ nL ∧ Sofar a (1 + nV) k M i t.l ∧ Below w0.heap.size w0 wr) (fun _ iv _ => nL - (intOf iv).toNat)
        case atStart => exact ⟨1 + nV, 0, by simp, rfl, Nat.zero_le _, ⟨by unfold wb; omega, fun _ => ⟨by simp, fun u hu => by simp at hu⟩⟩, Below.refl _ _⟩
        case round =>
          obtain ⟨a, i, rfl, rfl, hi0, hso, hb⟩ := hrel
          have hc4 := (hb.cell (p := ⟨w.heap.size, 4, none⟩) (show w.heap.size < w0.heap.size by omega)).trans (unhide HC).1
          have hc6 := (hb.cell (p := ⟨w.heap.size, 6, none⟩) (show w.heap.size < w0.heap.size by omega)).trans (unhide HC).2
          have hbw : Below w.heap.size w wr := (unhide HB0).trans (hb.mono (by omega))
          by_cases hgo : i < nL ∧ a ≤ M
          · obtain ⟨hi, haM⟩ := hgo
            have da : decide ((a : Int) ≤ (M : Int)) = true := by simp; omega
            have hil : i < t.l.length := by rw [(unhide HN).1]; exact hi
            obtain ⟨b, off, rfl, hbB, hAt⟩ := ((unhide HL).below (hbw.mono hB)).at (unhide HN).1.symm hi
            obtain ⟨d', bL, bV, bP, mL, mV, mP, kL, kV, kP, rfl, ⟨c0, c1, c2, c3, c4, c5, c6⟩, hT⟩ := hAt.cells
            have hso1 := fun m h1 h2 => hso.next (m := m) hil haM hM hk0 h1 h2
            have hab : a ≤ 1000 := by omega
            generalize t.l[i] = u at *
            have HT := hide hT
            have HB := hide hb
            have HBw := hide hbw
            have HSo := hide hso1
            clear hT hb hbw hAt hso hso1
            go_wp2_with fail
            rw [show ((k : Int) + 1) = ((k + 1 : Nat) : Int) by omega]
            refine (unhide IH d' (by omega) B _ u (k + 1) wr (unhide HT) (by have := (unhide HBw).size; omega) (by omega)).mono ?_
            rintro e w1 ⟨m, rfl, hm, hw, hb1⟩
            have hso2 := hide (unhide HSo m hm hw)
            have hmb : m ≤ 281474976772719 := by unfold wb at hm; omega
            have HB1 := hide hb1
            have hwr : IntKind.i64.wrap ((a : Int) + (m : Int)) = ((a + m : Nat) : Int) := by simp only [IntKind.wrap_i64]; omega
            clear hb1 hm hw HSo
            go_wp2
            exact ⟨⟨a + m, i + 1, by simp, by simp, by omega, unhide hso2, (unhide HB).trans ((unhide HB1).mono (unhide HB).size)⟩, by simp [intOf]; omega⟩
          · have hx : ¬ i < nL ∨ (i < nL ∧ ¬ a ≤ M) := by omega
            have hend : a ≤ wb k ∧ (a ≤ M → a = 1 + nV + (t.l.map Tm.wt).sum ∧ ∀ u ∈ t.l, Lt (60 - k) u) := by
              refine ⟨hso.1, fun ha => ?_⟩
              have := hso.2 ha
              rw [List.take_of_length_le (by rw [(unhide HN).1]; omega)] at this
              exact this
            have HEnd := hide hend
            have HBw := hide hbw
            have HB := hide hb
            clear hend hbw hb hso hgo
            rcases hx with hx | ⟨hx, hx2⟩
            all_goals
              go_wp2
              clear hc4 hc6
              go_loopw [7, 9] (fun nv iv wq => ∃ a' i : Nat, nv = .int .i64 a' ∧ iv = .int .i64 i ∧ i ≤ nP ∧ Sofar a' a k M i t.pat ∧ (a' ≤ M → a ≤ M) ∧ Below w0.heap.size w0 wq) (fun _ iv _ => nP - (intOf iv).toNat)
              case atStart => exact ⟨a, 0, by simp, rfl, Nat.zero_le _, ⟨(unhide HEnd).1, fun _ => ⟨by simp, fun u hu => by simp at hu⟩⟩, id, unhide HB⟩
              case round =>
                clear hx hi0
                try clear hx2
                obtain ⟨a', i, rfl, rfl, hi0, hso, haa, hb⟩ := hrel
                have hc6 := (hb.cell (p := ⟨w.heap.size, 6, none⟩) (show w.heap.size < w0.heap.size by omega)).trans (unhide HC).2
                have hbw := (unhide HB0).trans (hb.mono (show w.heap.size ≤ w0.heap.size by omega))
                by_cases hgo : i < nP ∧ a' ≤ M
                · obtain ⟨hi, haM⟩ := hgo
                  have da : decide ((a' : Int) ≤ (M : Int)) = true := by simp; omega
                  have hil : i < t.pat.length := by rw [(unhide HN).2.1]; exact hi
                  obtain ⟨b, off, rfl, hbB, hAt⟩ := ((unhide HP).below (hbw.mono hB)).at (unhide HN).2.1.symm hi
                  obtain ⟨d', bL, bV, bP, mL, mV, mP, kL, kV, kP, rfl, ⟨c0, c1, c2, c3, c4, c5, c6⟩, hT⟩ := hAt.cells
                  have hso1 := fun m h1 h2 => hso.next (m := m) hil haM hM hk0 h1 h2
                  have hab : a' ≤ 1000 := by omega
                  generalize t.pat[i] = u at *
                  have HT := hide hT
                  have HB := hide hb
                  have HBw := hide hbw
                  have HSo := hide hso1
                  clear hT hb hbw hAt hso hso1
                  go_wp2_with fail
                  rw [show ((k : Int) + 1) = ((k + 1 : Nat) : Int) by omega]
                  refine (unhide IH d' (by omega) B _ u (k + 1) wr (unhide HT) (by have := (unhide HBw).size; omega) (by omega)).mono ?_
                  rintro e w1 ⟨m, rfl, hm, hw, hb1⟩
                  have hso2 := hide (unhide HSo m hm hw)
                  have hmb : m ≤ 281474976772719 := by unfold wb at hm; omega
                  have HB1 := hide hb1
                  have hwr : IntKind.i64.wrap ((a' : Int) + (m : Int)) = ((a' + m : Nat) : Int) := by simp only [IntKind.wrap_i64]; omega
                  clear hb1 hm hw HSo
                  go_wp2
                  exact ⟨⟨a' + m, i + 1, by simp, by simp, by omega, unhide hso2, fun _ => haa haM, (unhide HB).trans ((unhide HB1).mono (unhide HB).size)⟩, by simp [intOf]; omega⟩
                · have hx : ¬ i < nP ∨ (i < nP ∧ ¬ a' ≤ M) := by omega
                  have hend : a' ≤ wb k ∧ (a' ≤ M → a' = t.wt ∧ Lt (61 - k) t) := by
                    refine ⟨hso.1, fun ha => ?_⟩
                    have h1 := hso.2 ha
                    have h2 := (unhide HEnd).2 (haa ha)
                    rw [List.take_of_length_le (by rw [(unhide HN).2.1]; omega)] at h1
                    refine ⟨by rw [Tm.wt_eq, (unhide HN).2.2]; omega, ?_⟩
                    rw [show 61 - k = (60 - k) + 1 by omega]
                    exact ⟨(unhide HNm).1, (unhide HNm).2, h2.2, h1.2⟩
                  have HEnd2 := hide hend
                  have HBw2 := hide hbw
                  clear hend hbw hb hso hgo haa
                  rcases hx with hx | ⟨hx, hx2⟩
                  all_goals
                    go_wp2
                    go_ret
                    exact ⟨a', rfl, (unhide HEnd2).1, (unhide HEnd2).2, unhide HBw2⟩
end Go.Proofs.YtdkenobgfgmepaaDoor

/- avowhelp: Light. -/
namespace Go.Proofs.YtdkenobgfgmepaaDoor
open Go Go.RowKit
def LPost (M : Nat) (l : List Tm) (w : World) (e : Ending) (w' : World) : Prop := ∃ b : Bool, e = .returned (.bool b) ∧ (b = true → (l.map Tm.wt).sum ≤ M ∧ ∀ u ∈ l, Lt 61 u) ∧ Below w.heap.size w w'
def Sofar0 (a M i : Nat) (l : List Tm) : Prop := a ≤ 281474976773720 ∧ (a ≤ M → a = ((l.take i).map Tm.wt).sum ∧ ∀ u ∈ l.take i, Lt 61 u)
theorem Sofar0.next {a M i m : Nat} {l : List Tm} (h : Sofar0 a M i l) (hi : i < l.length) (ha : a ≤ M) (hM : M ≤ 1000) (hm : m ≤ wb 0) (hw : m ≤ M → m = l[i].wt ∧ Lt 61 l[i]) : Sofar0 (a + m) M (i + 1) l := by
  refine ⟨by unfold wb at *; omega, fun hle => ?_⟩
  obtain ⟨e1, h1⟩ := h.2 ha
  obtain ⟨e2, h2⟩ := hw (by omega)
  rw [take_more hi]
  refine ⟨?_, ?_⟩
  · rw [List.map_append, List.sum_append, List.map_singleton, List.sum_singleton]
    omega
  · intro u hu
    rcases List.mem_append.1 hu with hu | hu
    · exact h1 u hu
    · rw [List.mem_singleton.1 hu]
      exact h2
set_option maxRecDepth 100000 in
set_option maxHeartbeats 16000000 in
theorem light_any (M : Nat) (hM : M ≤ 1000) {B d n cap : Nat} {a0 : Option Addr} {l : List Tm} {w : World} (hR : Row B a0 n cap 7 (fun b o j => ∀ u, l[j]? = some u → TmAt w B d b o u)) (hn : n = l.length) (hB : B ≤ w.heap.size) :
    Calls Tryd.prog 13 #[.slice a0 n cap, .int .i64 M] w (LPost M l w) := by
  have hmax : n ≤ 281474976710656 := by have := hR.1; have := hR.2.1; omega
  have HR := hide hR
  have HN := hide hn
  clear hR hn
  go_enter Tryd.func13, Tryd.ntmps13
  go_wp2
  go_loopw [5, 6] (fun nv iv wr => ∃ a i : Nat, nv = .int .i64 a ∧ iv = .int .i64 i ∧ i ≤ n ∧ Sofar0 a M i l ∧ Below w.heap.size w wr) (fun _ iv _ => n - (intOf iv).toNat)
  case atStart => exact ⟨0, 0, rfl, rfl, Nat.zero_le _, ⟨by omega, fun _ => ⟨by simp, fun u hu => by simp at hu⟩⟩, Below.refl _ _⟩
  case round =>
    obtain ⟨a, i, rfl, rfl, hi0, hso, hb⟩ := hrel
    by_cases hgo : i < n ∧ a ≤ M
    · obtain ⟨hi, haM⟩ := hgo
      have da : decide ((a : Int) ≤ (M : Int)) = true := by simp; omega
      have hil : i < l.length := by rw [← unhide HN]; exact hi
      obtain ⟨b, off, rfl, hbB, hAt⟩ := ((unhide HR).below (hb.mono hB)).at (unhide HN) hi
      obtain ⟨d', bL, bV, bP, mL, mV, mP, kL, kV, kP, rfl, ⟨c0, c1, c2, c3, c4, c5, c6⟩, hT⟩ := hAt.cells
      have hso1 := fun m h1 h2 => hso.next (m := m) hil haM hM h1 h2
      have hab : a ≤ 1000 := by omega
      generalize l[i] = u at *
      have HT := hide hT
      have HB := hide hb
      have HSo := hide hso1
      clear hT hb hAt hso hso1
      go_wp2_with fail
      refine (weight_any M hM d' B _ u 0 wr (unhide HT) (by have := (unhide HB).size; omega) (by omega)).mono ?_
      rintro e w1 ⟨m, rfl, hm, hw, hb1⟩
      have hso2 := hide (unhide HSo m hm hw)
      have hmb : m ≤ 281474976772719 := by unfold wb at hm; omega
      have HB1 := hide hb1
      have hwr : IntKind.i64.wrap ((a : Int) + (m : Int)) = ((a + m : Nat) : Int) := by simp only [IntKind.wrap_i64]; omega
      clear hb1 hm hw HSo
      go_wp2
      exact ⟨⟨a + m, i + 1, by simp, by simp, by omega, unhide hso2, (unhide HB).trans ((unhide HB1).mono (unhide HB).size)⟩, by simp [intOf]; omega⟩
    · have hx : ¬ i < n ∨ (i < n ∧ ¬ a ≤ M) := by omega
      have hend : a ≤ M → (l.map Tm.wt).sum ≤ M ∧ ∀ u ∈ l, Lt 61 u := fun ha => by
        have h1 := hso.2 ha
        rw [List.take_of_length_le (by rw [← unhide HN]; omega)] at h1
        exact ⟨by omega, h1.2⟩
      have HEnd := hide hend
      have HB := hide hb
      clear hend hb hso hgo
      rcases hx with hx | ⟨hx, hx2⟩
      all_goals
        go_wp2
        go_ret
        exact ⟨decide ((a : Int) ≤ (M : Int)), by simp <;> omega, fun h => unhide HEnd (by simp at h; omega), unhide HB⟩
end Go.Proofs.YtdkenobgfgmepaaDoor

/- Small functions: sorts, reserved words, terms of the laws. -/
namespace Go.Proofs.YtdkenobgfgmepaaDoor
open Go Go.RowKit
set_option maxRecDepth 100000 in
set_option maxHeartbeats 16000000 in
theorem isSort_any (x : Int) (w : World) : Calls Tryd.prog 105 #[.int .i64 x] w fun e w' => e = .returned (.bool (decide (1 ≤ x) && decide (x ≤ 3))) ∧ w' = w := by
  cases d1 : decide (1 ≤ x) <;> cases d2 : decide (x ≤ 3)
  all_goals
    go_enter Tryd.func105, Tryd.ntmps105
    go_wp2
    go_ret
    exact ⟨rfl, rfl⟩
/-- A number's term. -/
def numTm (s : ByteArray) : Tm := ⟨1, .empty, 0, s, [], [], []⟩
set_option maxRecDepth 100000 in
set_option maxHeartbeats 16000000 in
theorem n_any (s : ByteArray) (w : World) : Calls Tryd.prog 31 #[.string s] w (VPost (.agg #[.int .i64 1, .string .empty, .int .i64 0, .string s, .slice none 0 0, .slice none 0 0, .slice none 0 0]) w) := by
  go_enter Tryd.func31, Tryd.ntmps31
  go_wp2
  exact ⟨rfl, _, res_row rfl rfl (range_new w [.int .i64 1, .string .empty, .int .i64 0, .string s, .slice none 0 0, .slice none 0 0, .slice none 0 0] _) rfl rfl rfl, rfl, (Below.refl _ w).alloc (Nat.le_refl _) _⟩
set_option maxRecDepth 100000 in
set_option maxHeartbeats 16000000 in
theorem app_any (s : ByteArray) (a : Option Addr) (n cap : Nat) (w : World) : Calls Tryd.prog 32 #[.string s, .slice a n cap] w (VPost (.agg #[.int .i64 17, .string s, .int .i64 0, .string .empty, .slice a n cap, .slice none 0 0, .slice none 0 0]) w) := by
  go_enter Tryd.func32, Tryd.ntmps32
  go_wp2
  exact ⟨rfl, _, res_row rfl rfl (range_new w [.int .i64 17, .string s, .int .i64 0, .string .empty, .slice a n cap, .slice none 0 0, .slice none 0 0] _) rfl rfl rfl, rfl, (Below.refl _ w).alloc (Nat.le_refl _) _⟩
def reserved : List (List UInt8) := [[110, 111, 116], [97, 110, 100], [111, 114], [105, 102, 102], [105, 116, 101], [110, 101, 103], [102, 111, 114, 97, 108, 108], [112, 97, 116, 116, 101, 114, 110], [116, 114, 117, 101], [102, 97, 108, 115, 101], [105, 110, 116], [98, 111, 111, 108], [111, 98, 106]]
def isRes (s : ByteArray) : Bool := (s.toList == [110, 111, 116]) || (s.toList == [97, 110, 100]) || (s.toList == [111, 114]) || (s.toList == [105, 102, 102]) || (s.toList == [105, 116, 101]) || (s.toList == [110, 101, 103]) || (s.toList == [102, 111, 114, 97, 108, 108]) || (s.toList == [112, 97, 116, 116, 101, 114, 110]) || (s.toList == [116, 114, 117, 101]) || (s.toList == [102, 97, 108, 115, 101]) || (s.toList == [105, 110, 116]) || (s.toList == [98, 111, 111, 108]) || (s.toList == [111, 98, 106])
set_option maxRecDepth 100000 in
set_option maxHeartbeats 16000000 in
theorem isReserved_any (s : ByteArray) (w : World) : Calls Tryd.prog 110 #[.string s] w fun e w' => e = .returned (.bool (isRes s)) ∧ w' = w := by
  cases e0 : (s.toList == [110, 111, 116]) with
  | true =>
    have hr := hide (show isRes s = true by unfold isRes; simp only [e0]; rfl)
    go_enter Tryd.func110, Tryd.ntmps110
    go_wp2
    go_ret
    exact ⟨by rw [unhide hr]; rfl, rfl⟩
  | false =>
    cases e1 : (s.toList == [97, 110, 100]) with
    | true =>
      have hr := hide (show isRes s = true by unfold isRes; simp only [e0, e1]; rfl)
      go_enter Tryd.func110, Tryd.ntmps110
      go_wp2
      go_ret
      exact ⟨by rw [unhide hr]; rfl, rfl⟩
    | false =>
      cases e2 : (s.toList == [111, 114]) with
      | true =>
        have hr := hide (show isRes s = true by unfold isRes; simp only [e0, e1, e2]; rfl)
        go_enter Tryd.func110, Tryd.ntmps110
        go_wp2
        go_ret
        exact ⟨by rw [unhide hr]; rfl, rfl⟩
      | false =>
        cases e3 : (s.toList == [105, 102, 102]) with
        | true =>
          have hr := hide (show isRes s = true by unfold isRes; simp only [e0, e1, e2, e3]; rfl)
          go_enter Tryd.func110, Tryd.ntmps110
          go_wp2
          go_ret
          exact ⟨by rw [unhide hr]; rfl, rfl⟩
        | false =>
          cases e4 : (s.toList == [105, 116, 101]) with
          | true =>
            have hr := hide (show isRes s = true by unfold isRes; simp only [e0, e1, e2, e3, e4]; rfl)
            go_enter Tryd.func110, Tryd.ntmps110
            go_wp2
            go_ret
            exact ⟨by rw [unhide hr]; rfl, rfl⟩
          | false =>
            cases e5 : (s.toList == [110, 101, 103]) with
            | true =>
              have hr := hide (show isRes s = true by unfold isRes; simp only [e0, e1, e2, e3, e4, e5]; rfl)
              go_enter Tryd.func110, Tryd.ntmps110
              go_wp2
              go_ret
              exact ⟨by rw [unhide hr]; rfl, rfl⟩
            | false =>
              cases e6 : (s.toList == [102, 111, 114, 97, 108, 108]) with
              | true =>
                have hr := hide (show isRes s = true by unfold isRes; simp only [e0, e1, e2, e3, e4, e5, e6]; rfl)
                go_enter Tryd.func110, Tryd.ntmps110
                go_wp2
                go_ret
                exact ⟨by rw [unhide hr]; rfl, rfl⟩
              | false =>
                cases e7 : (s.toList == [112, 97, 116, 116, 101, 114, 110]) with
                | true =>
                  have hr := hide (show isRes s = true by unfold isRes; simp only [e0, e1, e2, e3, e4, e5, e6, e7]; rfl)
                  go_enter Tryd.func110, Tryd.ntmps110
                  go_wp2
                  go_ret
                  exact ⟨by rw [unhide hr]; rfl, rfl⟩
                | false =>
                  cases e8 : (s.toList == [116, 114, 117, 101]) with
                  | true =>
                    have hr := hide (show isRes s = true by unfold isRes; simp only [e0, e1, e2, e3, e4, e5, e6, e7, e8]; rfl)
                    go_enter Tryd.func110, Tryd.ntmps110
                    go_wp2
                    go_ret
                    exact ⟨by rw [unhide hr]; rfl, rfl⟩
                  | false =>
                    cases e9 : (s.toList == [102, 97, 108, 115, 101]) with
                    | true =>
                      have hr := hide (show isRes s = true by unfold isRes; simp only [e0, e1, e2, e3, e4, e5, e6, e7, e8, e9]; rfl)
                      go_enter Tryd.func110, Tryd.ntmps110
                      go_wp2
                      go_ret
                      exact ⟨by rw [unhide hr]; rfl, rfl⟩
                    | false =>
                      cases e10 : (s.toList == [105, 110, 116]) with
                      | true =>
                        have hr := hide (show isRes s = true by unfold isRes; simp only [e0, e1, e2, e3, e4, e5, e6, e7, e8, e9, e10]; rfl)
                        go_enter Tryd.func110, Tryd.ntmps110
                        go_wp2
                        go_ret
                        exact ⟨by rw [unhide hr]; rfl, rfl⟩
                      | false =>
                        cases e11 : (s.toList == [98, 111, 111, 108]) with
                        | true =>
                          have hr := hide (show isRes s = true by unfold isRes; simp only [e0, e1, e2, e3, e4, e5, e6, e7, e8, e9, e10, e11]; rfl)
                          go_enter Tryd.func110, Tryd.ntmps110
                          go_wp2
                          go_ret
                          exact ⟨by rw [unhide hr]; rfl, rfl⟩
                        | false =>
                          cases e12 : (s.toList == [111, 98, 106]) with
                          | true =>
                            have hr := hide (show isRes s = true by unfold isRes; simp only [e0, e1, e2, e3, e4, e5, e6, e7, e8, e9, e10, e11, e12]; rfl)
                            go_enter Tryd.func110, Tryd.ntmps110
                            go_wp2
                            go_ret
                            exact ⟨by rw [unhide hr]; rfl, rfl⟩
                          | false =>
                            have hr := hide (show isRes s = false by unfold isRes; simp only [e0, e1, e2, e3, e4, e5, e6, e7, e8, e9, e10, e11, e12]; rfl)
                            go_enter Tryd.func110, Tryd.ntmps110
                            go_wp2
                            go_ret
                            exact ⟨by rw [unhide hr]; rfl, rfl⟩
end Go.Proofs.YtdkenobgfgmepaaDoor

namespace Go.Proofs.YtdkenobgfgmepaaDoor
open Go Go.RowKit
def isLetter (x : Nat) : Prop := (65 ≤ x ∧ x ≤ 90) ∨ (97 ≤ x ∧ x ≤ 122) ∨ x = 95
def isDig (x : Nat) : Prop := 48 ≤ x ∧ x ≤ 57
def okAt (s : ByteArray) (i : Nat) : Prop := ∀ h : i < s.size, isLetter (s[i]'h).toNat ∨ (isDig (s[i]'h).toNat ∧ i ≠ 0)
def IsWord (s : ByteArray) : Prop := 0 < s.size ∧ s.size ≤ 40 ∧ isRes s = false ∧ ∀ i, i < s.size → okAt s i
def BPost (p : Prop) (w : World) (e : Ending) (w' : World) : Prop := ∃ b : Bool, e = .returned (.bool b) ∧ (b = true ↔ p) ∧ Below w.heap.size w w'
theorem iter_below (w : World) (s : ByteArray) (pos : Nat) : Below w.heap.size w (w.iter s pos) := (Below.refl _ w).alloc (Nat.le_refl _) _
theorem dec_of (s : ByteArray) (pos : Nat) (h : pos < s.size) : ((s[pos]'h).toNat < 128 ∧ Utf8.decode s pos = ((s[pos]'h).toNat, 1)) ∨ (128 ≤ (s[pos]'h).toNat ∧ 128 ≤ (Utf8.decode s pos).1) := by
  by_cases ha : (s[pos]'h).toNat < 128
  · exact .inl ⟨ha, decode_ascii s pos h ha⟩
  · exact .inr ⟨by omega, (decode_high s pos h (by omega)).1⟩
set_option maxRecDepth 100000 in
set_option maxHeartbeats 16000000 in
theorem isWord_any (s : ByteArray) (w : World) (hs : s.size ≤ 9223372036854775807) : Calls Tryd.prog 100 #[.string s] w (BPost (IsWord s) w) := by
  by_cases h0 : s.size = 0
  · have d0 : ((s.size : Int) == 0) = true := by rw [h0]; rfl
    have hw := hide (show ¬ IsWord s from fun h => by have := h.1; omega)
    go_enter Tryd.func100, Tryd.ntmps100
    go_wp2
    go_ret
    exact ⟨false, rfl, ⟨fun h => (by cases h), fun h => absurd h (unhide hw)⟩, Below.refl _ _⟩
  have d0 : ((s.size : Int) == 0) = false := beq_eq_false_iff_ne.2 (by omega)
  by_cases h1 : 40 < s.size
  · have d1 : decide (40 < (s.size : Int)) = true := by simp; omega
    have hw := hide (show ¬ IsWord s from fun h => by have := h.2.1; omega)
    go_enter Tryd.func100, Tryd.ntmps100
    go_wp2
    go_ret
    exact ⟨false, rfl, ⟨fun h => (by cases h), fun h => absurd h (unhide hw)⟩, Below.refl _ _⟩
  have d1 : decide (40 < (s.size : Int)) = false := by simp; omega
  go_enter Tryd.func100, Tryd.ntmps100
  go_wp2_with fail
  refine (isReserved_any s w).mono ?_
  rintro e w1 ⟨rfl, rfl⟩
  cases hres : isRes s with
  | true =>
    have hw := hide (show ¬ IsWord s from fun h => by have := h.2.2.1; rw [hres] at this; cases this)
    go_wp2
    go_ret
    exact ⟨false, rfl, ⟨fun h => (by cases h), fun h => absurd h (unhide hw)⟩, Below.refl _ _⟩
  | false =>
    go_wp2
    have hb : s.size ≤ 40 := by omega
    have hp : 0 < s.size := by omega
    have HRes := hide hres
    clear h0 h1 d0 d1 hs hres
    go_loopw [3] (fun _ w' => ∃ pos : Nat, w' = w1.iter s pos ∧ pos ≤ s.size ∧ ∀ i, i < pos → okAt s i) (fun _ w' => s.size - w'.iterPos w1.heap.size)
    case atStart => exact ⟨0, rfl, by omega, fun i h => by omega⟩
    case round =>
      obtain ⟨pos, rfl, hle, hall⟩ := hrel
      have HAll := hide hall
      clear hall
      by_cases hpos : pos < s.size
      · have hnx : ∀ ty, (Instr.next (.pointer (some ⟨w1.heap.size, 0, none⟩)) true ty).run Tryd.prog (w1.iter s pos) = _ := fun ty => run_next_any w1 s pos ty hpos
        obtain ⟨r, hr⟩ : ∃ r, r = (Utf8.decode s pos).1 := ⟨_, rfl⟩
        have hdec := dec_of s pos hpos
        have hgood : (isLetter r ∨ (isDig r ∧ pos ≠ 0)) → (Utf8.decode s pos).2 = 1 ∧ okAt s pos := fun hg => by
          rcases hdec with ⟨h1, h2⟩ | ⟨h1, h2⟩
          · rw [h2] at hr ⊢
            refine ⟨rfl, fun h => ?_⟩
            have hr' : r = (s[pos]'h).toNat := hr
            rw [← hr']
            exact hg
          · rw [← hr] at h2
            unfold isLetter isDig at hg
            omega
        have hbad : ¬ (isLetter r ∨ (isDig r ∧ pos ≠ 0)) → ¬ IsWord s := fun hg hw => by
          have h3 := hw.2.2.2 pos hpos hpos
          rcases hdec with ⟨h1, h2⟩ | ⟨h1, h2⟩
          · rw [h2] at hr
            have hr' : r = (s[pos]'hpos).toNat := hr
            rw [← hr'] at h3
            exact hg h3
          · unfold isLetter isDig at h3
            omega
        have HG := hide hgood
        have HBd := hide hbad
        have HI := hide (show ∀ i, i < pos + 1 → okAt s pos → okAt s i from fun i hi hok => by
          by_cases he : i < pos
          · exact unhide HAll i he
          · rw [show i = pos by omega]; exact hok)
        rw [← hr] at hnx
        generalize hwd : (Utf8.decode s pos).2 = wd at *
        clear hgood hbad hdec hr
        have hcase : r ≤ 47 ∨ (48 ≤ r ∧ r ≤ 57) ∨ (58 ≤ r ∧ r ≤ 64) ∨ (65 ≤ r ∧ r ≤ 90) ∨ (91 ≤ r ∧ r ≤ 94) ∨ r = 95 ∨ r = 96 ∨ (97 ≤ r ∧ r ≤ 122) ∨ 123 ≤ r := by omega
        rcases hcase with hc | hc | hc | hc | hc | hc | hc | hc | hc
        · have t0 : decide (48 ≤ (r : Int)) = false := by simp; omega
          have t1 : decide ((r : Int) ≤ 57) = true := by simp; omega
          have t2 : decide (65 ≤ (r : Int)) = false := by simp; omega
          have t3 : decide ((r : Int) ≤ 90) = true := by simp; omega
          have t4 : decide (97 ≤ (r : Int)) = false := by simp; omega
          have t5 : decide ((r : Int) ≤ 122) = true := by simp; omega
          have t6 : ((r : Int) == 95) = false := by simp; omega
          have hw := hide (unhide HBd (by unfold isLetter isDig; omega))
          clear hc
          go_wp2
          go_ret
          exact ⟨false, rfl, ⟨fun h => (by cases h), fun h => absurd h (unhide hw)⟩, iter_below _ _ _⟩
        · have t0 : decide (48 ≤ (r : Int)) = true := by simp; omega
          have t1 : decide ((r : Int) ≤ 57) = true := by simp; omega
          have t2 : decide (65 ≤ (r : Int)) = false := by simp; omega
          have t3 : decide ((r : Int) ≤ 90) = true := by simp; omega
          have t4 : decide (97 ≤ (r : Int)) = false := by simp; omega
          have t5 : decide ((r : Int) ≤ 122) = true := by simp; omega
          have t6 : ((r : Int) == 95) = false := by simp; omega
          by_cases hp0 : pos = 0
          · have tp : ((pos : Int) == 0) = true := by rw [hp0]; rfl
            have hw := hide (unhide HBd (by unfold isLetter; omega))
            clear hc hp0
            go_wp2
            go_ret
            exact ⟨false, rfl, ⟨fun h => (by cases h), fun h => absurd h (unhide hw)⟩, iter_below _ _ _⟩
          · have tp : ((pos : Int) == 0) = false := beq_eq_false_iff_ne.2 (by omega)
            have hw := hide (unhide HG (.inr ⟨by unfold isDig; omega, hp0⟩))
            obtain rfl : wd = 1 := (unhide hw).1
            clear hc hp0
            go_wp2
            exact ⟨⟨pos + 1, rfl, by omega, fun i hi => unhide HI i hi (unhide hw).2⟩, by simp; omega⟩
        · have t0 : decide (48 ≤ (r : Int)) = true := by simp; omega
          have t1 : decide ((r : Int) ≤ 57) = false := by simp; omega
          have t2 : decide (65 ≤ (r : Int)) = false := by simp; omega
          have t3 : decide ((r : Int) ≤ 90) = true := by simp; omega
          have t4 : decide (97 ≤ (r : Int)) = false := by simp; omega
          have t5 : decide ((r : Int) ≤ 122) = true := by simp; omega
          have t6 : ((r : Int) == 95) = false := by simp; omega
          have hw := hide (unhide HBd (by unfold isLetter isDig; omega))
          clear hc
          go_wp2
          go_ret
          exact ⟨false, rfl, ⟨fun h => (by cases h), fun h => absurd h (unhide hw)⟩, iter_below _ _ _⟩
        · have t0 : decide (48 ≤ (r : Int)) = true := by simp; omega
          have t1 : decide ((r : Int) ≤ 57) = false := by simp; omega
          have t2 : decide (65 ≤ (r : Int)) = true := by simp; omega
          have t3 : decide ((r : Int) ≤ 90) = true := by simp; omega
          have t4 : decide (97 ≤ (r : Int)) = false := by simp; omega
          have t5 : decide ((r : Int) ≤ 122) = true := by simp; omega
          have t6 : ((r : Int) == 95) = false := by simp; omega
          have hw := hide (unhide HG (.inl (by unfold isLetter; omega)))
          obtain rfl : wd = 1 := (unhide hw).1
          clear hc
          go_wp2
          exact ⟨⟨pos + 1, rfl, by omega, fun i hi => unhide HI i hi (unhide hw).2⟩, by simp; omega⟩
        · have t0 : decide (48 ≤ (r : Int)) = true := by simp; omega
          have t1 : decide ((r : Int) ≤ 57) = false := by simp; omega
          have t2 : decide (65 ≤ (r : Int)) = true := by simp; omega
          have t3 : decide ((r : Int) ≤ 90) = false := by simp; omega
          have t4 : decide (97 ≤ (r : Int)) = false := by simp; omega
          have t5 : decide ((r : Int) ≤ 122) = true := by simp; omega
          have t6 : ((r : Int) == 95) = false := by simp; omega
          have hw := hide (unhide HBd (by unfold isLetter isDig; omega))
          clear hc
          go_wp2
          go_ret
          exact ⟨false, rfl, ⟨fun h => (by cases h), fun h => absurd h (unhide hw)⟩, iter_below _ _ _⟩
        · have t0 : decide (48 ≤ (r : Int)) = true := by simp; omega
          have t1 : decide ((r : Int) ≤ 57) = false := by simp; omega
          have t2 : decide (65 ≤ (r : Int)) = true := by simp; omega
          have t3 : decide ((r : Int) ≤ 90) = false := by simp; omega
          have t4 : decide (97 ≤ (r : Int)) = false := by simp; omega
          have t5 : decide ((r : Int) ≤ 122) = true := by simp; omega
          have t6 : ((r : Int) == 95) = true := by rw [show r = 95 by omega]; rfl
          have hw := hide (unhide HG (.inl (by unfold isLetter; omega)))
          obtain rfl : wd = 1 := (unhide hw).1
          clear hc
          go_wp2
          exact ⟨⟨pos + 1, rfl, by omega, fun i hi => unhide HI i hi (unhide hw).2⟩, by simp; omega⟩
        · have t0 : decide (48 ≤ (r : Int)) = true := by simp; omega
          have t1 : decide ((r : Int) ≤ 57) = false := by simp; omega
          have t2 : decide (65 ≤ (r : Int)) = true := by simp; omega
          have t3 : decide ((r : Int) ≤ 90) = false := by simp; omega
          have t4 : decide (97 ≤ (r : Int)) = false := by simp; omega
          have t5 : decide ((r : Int) ≤ 122) = true := by simp; omega
          have t6 : ((r : Int) == 95) = false := by simp; omega
          have hw := hide (unhide HBd (by unfold isLetter isDig; omega))
          clear hc
          go_wp2
          go_ret
          exact ⟨false, rfl, ⟨fun h => (by cases h), fun h => absurd h (unhide hw)⟩, iter_below _ _ _⟩
        · have t0 : decide (48 ≤ (r : Int)) = true := by simp; omega
          have t1 : decide ((r : Int) ≤ 57) = false := by simp; omega
          have t2 : decide (65 ≤ (r : Int)) = true := by simp; omega
          have t3 : decide ((r : Int) ≤ 90) = false := by simp; omega
          have t4 : decide (97 ≤ (r : Int)) = true := by simp; omega
          have t5 : decide ((r : Int) ≤ 122) = true := by simp; omega
          have t6 : ((r : Int) == 95) = false := by simp; omega
          have hw := hide (unhide HG (.inl (by unfold isLetter; omega)))
          obtain rfl : wd = 1 := (unhide hw).1
          clear hc
          go_wp2
          exact ⟨⟨pos + 1, rfl, by omega, fun i hi => unhide HI i hi (unhide hw).2⟩, by simp; omega⟩
        · have t0 : decide (48 ≤ (r : Int)) = true := by simp; omega
          have t1 : decide ((r : Int) ≤ 57) = false := by simp; omega
          have t2 : decide (65 ≤ (r : Int)) = true := by simp; omega
          have t3 : decide ((r : Int) ≤ 90) = false := by simp; omega
          have t4 : decide (97 ≤ (r : Int)) = true := by simp; omega
          have t5 : decide ((r : Int) ≤ 122) = false := by simp; omega
          have t6 : ((r : Int) == 95) = false := by simp; omega
          have hw := hide (unhide HBd (by unfold isLetter isDig; omega))
          clear hc
          go_wp2
          go_ret
          exact ⟨false, rfl, ⟨fun h => (by cases h), fun h => absurd h (unhide hw)⟩, iter_below _ _ _⟩
      · have hnx : ∀ ty, (Instr.next (.pointer (some ⟨w1.heap.size, 0, none⟩)) true ty).run Tryd.prog (w1.iter s pos) = _ := fun ty => run_next_end w1 s pos ty hpos
        go_wp2
        go_ret
        exact ⟨true, rfl, ⟨fun _ => ⟨hp, hb, unhide HRes, fun i hi => unhide HAll i (by omega)⟩, fun _ => rfl⟩, iter_below _ _ _⟩
end Go.Proofs.YtdkenobgfgmepaaDoor
