/- A strings.Builder within a writer. -/
import Derived.Test.YtegmckpcchhmdaaDoorZAC
import Derived.Laws.RangeString
import Derived.Laws.RangeAny
import Derived.Laws.Runes
import Derived.Laws.Strings
import Derived.Lib.Builder
import Derived.Lib.UnsafeStr
import Derived.Lib.AppendStr
import Derived.Laws.AppendOwn
import Derived.Shelf.RegionOpenPlain
set_option linter.unusedVariables false
set_option linter.unusedSimpArgs false

/- avowhelp: weight, Light. -/
namespace Go.Proofs.YtegmckpcchhmdaaDoor
open Go Go.RowKit
/-- How heavy a term is, patterns and bound variables with it. -/
def Tm.wt : Tm → Nat | ⟨_, _, _, _, l, vars, pat⟩ => 1 + vars.length + (l.map fun u => Tm.wt u).sum + (pat.map fun u => Tm.wt u).sum
theorem Tm.wt_eq (t : Tm) : t.wt = 1 + t.vars.length + (t.l.map Tm.wt).sum + (t.pat.map Tm.wt).sum := by
  cases t
  rw [Tm.wt]
/-- No deeper than that, names and numbers no longer than may be. -/
def Lt : Nat → Tm → Prop
  | 0, _ => False
  | e + 1, t => t.name.size ≤ 100 ∧ t.num.size ≤ 500 ∧ (∀ u ∈ t.l, Lt e u) ∧ ∀ u ∈ t.pat, Lt e u
def wb (k : Nat) : Nat := 281474976710657 + (62 - k) * 1001
def WPost (k M : Nat) (t : Tm) (w : World) (e : Ending) (w' : World) : Prop := ∃ m : Nat, e = .returned (.int .i64 m) ∧ m ≤ wb k ∧ (m ≤ M → m = t.wt ∧ Lt (61 - k) t) ∧ Below w.heap.size w w'
/-- So far: the weight of some, and of more. -/
def Sofar (a x k M i : Nat) (l : List Tm) : Prop := a ≤ wb k ∧ (a ≤ M → a = x + ((l.take i).map Tm.wt).sum ∧ ∀ u ∈ l.take i, Lt (60 - k) u)
theorem Sofar.next {a x k M i m : Nat} {l : List Tm} (h : Sofar a x k M i l) (hi : i < l.length) (ha : a ≤ M) (hM : M ≤ 1000) (hk : k ≤ 60) (hm : m ≤ wb (k + 1)) (hw : m ≤ M → m = l[i].wt ∧ Lt (61 - (k + 1)) l[i]) : Sofar (a + m) x k M (i + 1) l := by
  refine ⟨by unfold wb at *; omega, fun hle => ?_⟩
  obtain ⟨e1, h1⟩ := h.2 ha
  obtain ⟨e2, h2⟩ := hw (by omega)
  rw [take_more hi]
  refine ⟨?_, ?_⟩
  · rw [List.map_append, List.sum_append, List.map_singleton, List.sum_singleton]
    omega
  · intro u hu
    rcases List.mem_append.1 hu with hu | hu
    · exact h1 u hu
    · rw [List.mem_singleton.1 hu]
      rw [show 61 - (k + 1) = 60 - k by omega] at h2
      exact h2
set_option maxRecDepth 100000 in
set_option maxHeartbeats 16000000 in
theorem weight_any (M : Nat) (hM : M ≤ 1000) (d : Nat) : ∀ (B : Nat) (v : Value) (t : Tm) (k : Nat) (w : World), IsT w B d v t → B ≤ w.heap.size → k ≤ 61 →
    Calls Tryd.prog 17 #[v, .int .i64 k, .int .i64 M] w (WPost k M t w) := by
  induction d using Nat.strongRecOn with
  | _ d ih =>
  intro B v t k w hT hB hk
  obtain ⟨h1, h2, aL, aV, aP, cL, cV, cP, rfl, hL, hV, hP⟩ := hT
  have IH := hide ih
  clear ih h1 h2
  simp only [tcells, List.toArray]
  obtain ⟨nL, hnL⟩ : ∃ n, t.l.length = n := ⟨_, rfl⟩
  obtain ⟨nP, hnP⟩ : ∃ n, t.pat.length = n := ⟨_, rfl⟩
  obtain ⟨nV, hnV⟩ : ∃ n, t.vars.length = n := ⟨_, rfl⟩
  rw [hnL] at hL ⊢
  rw [hnP] at hP ⊢
  rw [hnV] at hV ⊢
  have hmL : nL ≤ 281474976710656 := by have := hL.1; have := hL.2.1; omega
  have hmP : nP ≤ 281474976710656 := by have := hP.1; have := hP.2.1; omega
  have hmV : nV ≤ 281474976710656 := by have := hV.1; have := hV.2.1; omega
  have HL := hide hL
  have HP := hide hP
  have HN := hide (And.intro hnL (And.intro hnP hnV))
  clear hL hP hV hnL hnP hnV
  cases d1 : decide (60 < (k : Int)) with
  | true =>
    have hk0 : 60 < k := by simp at d1; omega
    go_enter Tryd.func17, Tryd.ntmps17
    go_wp2
    go_ret
    exact ⟨M + 1, by simp, by unfold wb; omega, fun h => by omega, (Below.refl _ w).alloc (Nat.le_refl _) _⟩
  | false =>
    have hk0 : k ≤ 60 := by simp at d1; omega
    cases d2 : decide (100 < (t.name.size : Int)) with
    | true =>
      go_enter Tryd.func17, Tryd.ntmps17
      go_wp2
      go_ret
      exact ⟨M + 1, by simp, by unfold wb; omega, fun h => by omega, (Below.refl _ w).alloc (Nat.le_refl _) _⟩
    | false =>
      cases d3 : decide (500 < (t.num.size : Int)) with
      | true =>
        go_enter Tryd.func17, Tryd.ntmps17
        go_wp2
        go_ret
        exact ⟨M + 1, by simp, by unfold wb; omega, fun h => by omega, (Below.refl _ w).alloc (Nat.le_refl _) _⟩
      | false =>
        go_enter Tryd.func17, Tryd.ntmps17
        go_wp2
        obtain ⟨w0, e0, hb0, hs0, hc0, hh⟩ := box_new w #[.int .i64 t.op, .string t.name, .int .i64 t.sort, .string t.num, .slice aL nL cL, .slice aV nV cV, .slice aP nP cP] 25
        rw [e0]
        have hc4 : w0.cell? ⟨w.heap.size, 4, none⟩ = some (.slice aL nL cL) := hc0 4 _ rfl
        have hc6 : w0.cell? ⟨w.heap.size, 6, none⟩ = some (.slice aP nP cP) := hc0 6 _ rfl
        have HB0 := hide hb0
        have HC := hide (And.intro hc4 hc6)
        have HNm := hide (show t.name.size ≤ 100 ∧ t.num.size ≤ 500 by simp at d2 d3; omega)
        clear hc0 e0 hh hb0 hc4 hc6 d1 d2 d3
        go_loopw [7, 8] (fun nv iv wr => ∃ a i : Nat, nv = .int .i64 a ∧ iv = .int .i64 i ∧ i ≤ nL ∧ Sofar a (1 + nV) k M i t.l ∧ Below w0.heap.size w0 wr) (fun _ iv _ => nL - (intOf iv).toNat)
        case atStart => exact ⟨1 + nV, 0, by simp, rfl, Nat.zero_le _, ⟨by unfold wb; omega, fun _ => ⟨by simp, fun u hu => by simp at hu⟩⟩, Below.refl _ _⟩
        case round =>
          obtain ⟨a, i, rfl, rfl, hi0, hso, hb⟩ := hrel
          have hc4 := (hb.cell (p := ⟨w.heap.size, 4, none⟩) (show w.heap.size < w0.heap.size by omega)).trans (unhide HC).1
          have hc6 := (hb.cell (p := ⟨w.heap.size, 6, none⟩) (show w.heap.size < w0.heap.size by omega)).trans (unhide HC).2
          have hbw : Below w.heap.size w wr := (unhide HB0).trans (hb.mono (by omega))
          by_cases hgo : i < nL ∧ a ≤ M
          · obtain ⟨hi, haM⟩ := hgo
            have da : decide ((a : Int) ≤ (M : Int)) = true := by simp; omega
            have hil : i < t.l.length := by rw [(unhide HN).1]; exact hi
            obtain ⟨b, off, rfl, hbB, hAt⟩ := ((unhide HL).below (hbw.mono hB)).at (unhide HN).1.symm hi
            obtain ⟨d', bL, bV, bP, mL, mV, mP, kL, kV, kP, rfl, ⟨c0, c1, c2, c3, c4, c5, c6⟩, hT⟩ := hAt.cells
            have hso1 := fun m h1 h2 => hso.next (m := m) hil haM hM hk0 h1 h2
            have hab : a ≤ 1000 := by omega
            generalize t.l[i] = u at *
            have HT := hide hT
            have HB := hide hb
            have HBw := hide hbw
            have HSo := hide hso1
            clear hT hb hbw hAt hso hso1
            go_wp2_with fail
            rw [show ((k : Int) + 1) = ((k + 1 : Nat) : Int) by omega]
            refine (unhide IH d' (by omega) B _ u (k + 1) wr (unhide HT) (by have := (unhide HBw).size; omega) (by omega)).mono ?_
            rintro e w1 ⟨m, rfl, hm, hw, hb1⟩
            have hso2 := hide (unhide HSo m hm hw)
            have hmb : m ≤ 281474976772719 := by unfold wb at hm; omega
            have HB1 := hide hb1
            have hwr : IntKind.i64.wrap ((a : Int) + (m : Int)) = ((a + m : Nat) : Int) := by simp only [IntKind.wrap_i64]; omega
            clear hb1 hm hw HSo
            go_wp2
            exact ⟨⟨a + m, i + 1, by simp, by simp, by omega, unhide hso2, (unhide HB).trans ((unhide HB1).mono (unhide HB).size)⟩, by simp [intOf]; omega⟩
          · have hx : ¬ i < nL ∨ (i < nL ∧ ¬ a ≤ M) := by omega
            have hend : a ≤ wb k ∧ (a ≤ M → a = 1 + nV + (t.l.map Tm.wt).sum ∧ ∀ u ∈ t.l, Lt (60 - k) u) := by
              refine ⟨hso.1, fun ha => ?_⟩
              have := hso.2 ha
              rw [List.take_of_length_le (by rw [(unhide HN).1]; omega)] at this
              exact this
            have HEnd := hide hend
            have HBw := hide hbw
            have HB := hide hb
            clear hend hbw hb hso hgo
            rcases hx with hx | ⟨hx, hx2⟩
            all_goals
              go_wp2
              clear hc4 hc6
              go_loopw [7, 9] (fun nv iv wq => ∃ a' i : Nat, nv = .int .i64 a' ∧ iv = .int .i64 i ∧ i ≤ nP ∧ Sofar a' a k M i t.pat ∧ (a' ≤ M → a ≤ M) ∧ Below w0.heap.size w0 wq) (fun _ iv _ => nP - (intOf iv).toNat)
              case atStart => exact ⟨a, 0, by simp, rfl, Nat.zero_le _, ⟨(unhide HEnd).1, fun _ => ⟨by simp, fun u hu => by simp at hu⟩⟩, id, unhide HB⟩
              case round =>
                clear hx hi0
                try clear hx2
                obtain ⟨a', i, rfl, rfl, hi0, hso, haa, hb⟩ := hrel
                have hc6 := (hb.cell (p := ⟨w.heap.size, 6, none⟩) (show w.heap.size < w0.heap.size by omega)).trans (unhide HC).2
                have hbw := (unhide HB0).trans (hb.mono (show w.heap.size ≤ w0.heap.size by omega))
                by_cases hgo : i < nP ∧ a' ≤ M
                · obtain ⟨hi, haM⟩ := hgo
                  have da : decide ((a' : Int) ≤ (M : Int)) = true := by simp; omega
                  have hil : i < t.pat.length := by rw [(unhide HN).2.1]; exact hi
                  obtain ⟨b, off, rfl, hbB, hAt⟩ := ((unhide HP).below (hbw.mono hB)).at (unhide HN).2.1.symm hi
                  obtain ⟨d', bL, bV, bP, mL, mV, mP, kL, kV, kP, rfl, ⟨c0, c1, c2, c3, c4, c5, c6⟩, hT⟩ := hAt.cells
                  have hso1 := fun m h1 h2 => hso.next (m := m) hil haM hM hk0 h1 h2
                  have hab : a' ≤ 1000 := by omega
                  generalize t.pat[i] = u at *
                  have HT := hide hT
                  have HB := hide hb
                  have HBw := hide hbw
                  have HSo := hide hso1
                  clear hT hb hbw hAt hso hso1
                  go_wp2_with fail
                  rw [show ((k : Int) + 1) = ((k + 1 : Nat) : Int) by omega]
                  refine (unhide IH d' (by omega) B _ u (k + 1) wr (unhide HT) (by have := (unhide HBw).size; omega) (by omega)).mono ?_
                  rintro e w1 ⟨m, rfl, hm, hw, hb1⟩
                  have hso2 := hide (unhide HSo m hm hw)
                  have hmb : m ≤ 281474976772719 := by unfold wb at hm; omega
                  have HB1 := hide hb1
                  have hwr : IntKind.i64.wrap ((a' : Int) + (m : Int)) = ((a' + m : Nat) : Int) := by simp only [IntKind.wrap_i64]; omega
                  clear hb1 hm hw HSo
                  go_wp2
                  exact ⟨⟨a' + m, i + 1, by simp, by simp, by omega, unhide hso2, fun _ => haa haM, (unhide HB).trans ((unhide HB1).mono (unhide HB).size)⟩, by simp [intOf]; omega⟩
                · have hx : ¬ i < nP ∨ (i < nP ∧ ¬ a' ≤ M) := by omega
                  have hend : a' ≤ wb k ∧ (a' ≤ M → a' = t.wt ∧ Lt (61 - k) t) := by
                    refine ⟨hso.1, fun ha => ?_⟩
                    have h1 := hso.2 ha
                    have h2 := (unhide HEnd).2 (haa ha)
                    rw [List.take_of_length_le (by rw [(unhide HN).2.1]; omega)] at h1
                    refine ⟨by rw [Tm.wt_eq, (unhide HN).2.2]; omega, ?_⟩
                    rw [show 61 - k = (60 - k) + 1 by omega]
                    exact ⟨(unhide HNm).1, (unhide HNm).2, h2.2, h1.2⟩
                  have HEnd2 := hide hend
                  have HBw2 := hide hbw
                  clear hend hbw hb hso hgo haa
                  rcases hx with hx | ⟨hx, hx2⟩
                  all_goals
                    go_wp2
                    go_ret
                    exact ⟨a', rfl, (unhide HEnd2).1, (unhide HEnd2).2, unhide HBw2⟩
end Go.Proofs.YtegmckpcchhmdaaDoor

/- avowhelp: Light. -/
namespace Go.Proofs.YtegmckpcchhmdaaDoor
open Go Go.RowKit
def LPost (M : Nat) (l : List Tm) (w : World) (e : Ending) (w' : World) : Prop := ∃ b : Bool, e = .returned (.bool b) ∧ (b = true → (l.map Tm.wt).sum ≤ M ∧ ∀ u ∈ l, Lt 61 u) ∧ Below w.heap.size w w'
def Sofar0 (a M i : Nat) (l : List Tm) : Prop := a ≤ 281474976773720 ∧ (a ≤ M → a = ((l.take i).map Tm.wt).sum ∧ ∀ u ∈ l.take i, Lt 61 u)
theorem Sofar0.next {a M i m : Nat} {l : List Tm} (h : Sofar0 a M i l) (hi : i < l.length) (ha : a ≤ M) (hM : M ≤ 1000) (hm : m ≤ wb 0) (hw : m ≤ M → m = l[i].wt ∧ Lt 61 l[i]) : Sofar0 (a + m) M (i + 1) l := by
  refine ⟨by unfold wb at *; omega, fun hle => ?_⟩
  obtain ⟨e1, h1⟩ := h.2 ha
  obtain ⟨e2, h2⟩ := hw (by omega)
  rw [take_more hi]
  refine ⟨?_, ?_⟩
  · rw [List.map_append, List.sum_append, List.map_singleton, List.sum_singleton]
    omega
  · intro u hu
    rcases List.mem_append.1 hu with hu | hu
    · exact h1 u hu
    · rw [List.mem_singleton.1 hu]
      exact h2
set_option maxRecDepth 100000 in
set_option maxHeartbeats 16000000 in
theorem light_any (M : Nat) (hM : M ≤ 1000) {B d n cap : Nat} {a0 : Option Addr} {l : List Tm} {w : World} (hR : Row B a0 n cap 7 (fun b o j => ∀ u, l[j]? = some u → TmAt w B d b o u)) (hn : n = l.length) (hB : B ≤ w.heap.size) :
    Calls Tryd.prog 5 #[.slice a0 n cap, .int .i64 M] w (LPost M l w) := by
  have hmax : n ≤ 281474976710656 := by have := hR.1; have := hR.2.1; omega
  have HR := hide hR
  have HN := hide hn
  clear hR hn
  go_enter Tryd.func5, Tryd.ntmps5
  go_wp2
  go_loopw [5, 6] (fun nv iv wr => ∃ a i : Nat, nv = .int .i64 a ∧ iv = .int .i64 i ∧ i ≤ n ∧ Sofar0 a M i l ∧ Below w.heap.size w wr) (fun _ iv _ => n - (intOf iv).toNat)
  case atStart => exact ⟨0, 0, rfl, rfl, Nat.zero_le _, ⟨by omega, fun _ => ⟨by simp, fun u hu => by simp at hu⟩⟩, Below.refl _ _⟩
  case round =>
    obtain ⟨a, i, rfl, rfl, hi0, hso, hb⟩ := hrel
    by_cases hgo : i < n ∧ a ≤ M
    · obtain ⟨hi, haM⟩ := hgo
      have da : decide ((a : Int) ≤ (M : Int)) = true := by simp; omega
      have hil : i < l.length := by rw [← unhide HN]; exact hi
      obtain ⟨b, off, rfl, hbB, hAt⟩ := ((unhide HR).below (hb.mono hB)).at (unhide HN) hi
      obtain ⟨d', bL, bV, bP, mL, mV, mP, kL, kV, kP, rfl, ⟨c0, c1, c2, c3, c4, c5, c6⟩, hT⟩ := hAt.cells
      have hso1 := fun m h1 h2 => hso.next (m := m) hil haM hM h1 h2
      have hab : a ≤ 1000 := by omega
      generalize l[i] = u at *
      have HT := hide hT
      have HB := hide hb
      have HSo := hide hso1
      clear hT hb hAt hso hso1
      go_wp2_with fail
      refine (weight_any M hM d' B _ u 0 wr (unhide HT) (by have := (unhide HB).size; omega) (by omega)).mono ?_
      rintro e w1 ⟨m, rfl, hm, hw, hb1⟩
      have hso2 := hide (unhide HSo m hm hw)
      have hmb : m ≤ 281474976772719 := by unfold wb at hm; omega
      have HB1 := hide hb1
      have hwr : IntKind.i64.wrap ((a : Int) + (m : Int)) = ((a + m : Nat) : Int) := by simp only [IntKind.wrap_i64]; omega
      clear hb1 hm hw HSo
      go_wp2
      exact ⟨⟨a + m, i + 1, by simp, by simp, by omega, unhide hso2, (unhide HB).trans ((unhide HB1).mono (unhide HB).size)⟩, by simp [intOf]; omega⟩
    · have hx : ¬ i < n ∨ (i < n ∧ ¬ a ≤ M) := by omega
      have hend : a ≤ M → (l.map Tm.wt).sum ≤ M ∧ ∀ u ∈ l, Lt 61 u := fun ha => by
        have h1 := hso.2 ha
        rw [List.take_of_length_le (by rw [← unhide HN]; omega)] at h1
        exact ⟨by omega, h1.2⟩
      have HEnd := hide hend
      have HB := hide hb
      clear hend hb hso hgo
      rcases hx with hx | ⟨hx, hx2⟩
      all_goals
        go_wp2
        go_ret
        exact ⟨decide ((a : Int) ≤ (M : Int)), by simp <;> omega, fun h => unhide HEnd (by simp at h; omega), unhide HB⟩
end Go.Proofs.YtegmckpcchhmdaaDoor

/- Small functions: sorts, reserved words, terms of the laws. -/
namespace Go.Proofs.YtegmckpcchhmdaaDoor
open Go Go.RowKit
set_option maxRecDepth 100000 in
set_option maxHeartbeats 16000000 in
theorem isSort_any (x : Int) (w : World) : Calls Tryd.prog 73 #[.int .i64 x] w fun e w' => e = .returned (.bool (decide (1 ≤ x) && decide (x ≤ 3))) ∧ w' = w := by
  cases d1 : decide (1 ≤ x) <;> cases d2 : decide (x ≤ 3)
  all_goals
    go_enter Tryd.func73, Tryd.ntmps73
    go_wp2
    go_ret
    exact ⟨rfl, rfl⟩
set_option maxRecDepth 100000 in
set_option maxHeartbeats 16000000 in
theorem n_any (s : ByteArray) (w : World) : Calls Tryd.prog 10 #[.string s] w (VPost (.agg #[.int .i64 1, .string .empty, .int .i64 0, .string s, .slice none 0 0, .slice none 0 0, .slice none 0 0]) w) := by
  go_enter Tryd.func10, Tryd.ntmps10
  go_wp2
  exact ⟨rfl, _, res_row rfl rfl (range_new w [.int .i64 1, .string .empty, .int .i64 0, .string s, .slice none 0 0, .slice none 0 0, .slice none 0 0] _) rfl rfl rfl, rfl, (Below.refl _ w).alloc (Nat.le_refl _) _⟩
set_option maxRecDepth 100000 in
set_option maxHeartbeats 16000000 in
theorem app_any (s : ByteArray) (a : Option Addr) (n cap : Nat) (w : World) : Calls Tryd.prog 9 #[.string s, .slice a n cap] w (VPost (.agg #[.int .i64 17, .string s, .int .i64 0, .string .empty, .slice a n cap, .slice none 0 0, .slice none 0 0]) w) := by
  go_enter Tryd.func9, Tryd.ntmps9
  go_wp2
  exact ⟨rfl, _, res_row rfl rfl (range_new w [.int .i64 17, .string s, .int .i64 0, .string .empty, .slice a n cap, .slice none 0 0, .slice none 0 0] _) rfl rfl rfl, rfl, (Below.refl _ w).alloc (Nat.le_refl _) _⟩
def isRes (s : ByteArray) : Bool := (s.toList == [110, 111, 116]) || (s.toList == [97, 110, 100]) || (s.toList == [111, 114]) || (s.toList == [105, 102, 102]) || (s.toList == [105, 116, 101]) || (s.toList == [110, 101, 103]) || (s.toList == [102, 111, 114, 97, 108, 108]) || (s.toList == [112, 97, 116, 116, 101, 114, 110]) || (s.toList == [116, 114, 117, 101]) || (s.toList == [102, 97, 108, 115, 101]) || (s.toList == [105, 110, 116]) || (s.toList == [98, 111, 111, 108]) || (s.toList == [111, 98, 106])
set_option maxRecDepth 100000 in
set_option maxHeartbeats 16000000 in
theorem isReserved_any (s : ByteArray) (w : World) : Calls Tryd.prog 79 #[.string s] w fun e w' => e = .returned (.bool (isRes s)) ∧ w' = w := by
  cases e0 : (s.toList == [110, 111, 116]) with
  | true =>
    have hr := hide (show isRes s = true by unfold isRes; simp only [e0]; rfl)
    go_enter Tryd.func79, Tryd.ntmps79
    go_wp2
    go_ret
    exact ⟨by rw [unhide hr]; rfl, rfl⟩
  | false =>
    cases e1 : (s.toList == [97, 110, 100]) with
    | true =>
      have hr := hide (show isRes s = true by unfold isRes; simp only [e0, e1]; rfl)
      go_enter Tryd.func79, Tryd.ntmps79
      go_wp2
      go_ret
      exact ⟨by rw [unhide hr]; rfl, rfl⟩
    | false =>
      cases e2 : (s.toList == [111, 114]) with
      | true =>
        have hr := hide (show isRes s = true by unfold isRes; simp only [e0, e1, e2]; rfl)
        go_enter Tryd.func79, Tryd.ntmps79
        go_wp2
        go_ret
        exact ⟨by rw [unhide hr]; rfl, rfl⟩
      | false =>
        cases e3 : (s.toList == [105, 102, 102]) with
        | true =>
          have hr := hide (show isRes s = true by unfold isRes; simp only [e0, e1, e2, e3]; rfl)
          go_enter Tryd.func79, Tryd.ntmps79
          go_wp2
          go_ret
          exact ⟨by rw [unhide hr]; rfl, rfl⟩
        | false =>
          cases e4 : (s.toList == [105, 116, 101]) with
          | true =>
            have hr := hide (show isRes s = true by unfold isRes; simp only [e0, e1, e2, e3, e4]; rfl)
            go_enter Tryd.func79, Tryd.ntmps79
            go_wp2
            go_ret
            exact ⟨by rw [unhide hr]; rfl, rfl⟩
          | false =>
            cases e5 : (s.toList == [110, 101, 103]) with
            | true =>
              have hr := hide (show isRes s = true by unfold isRes; simp only [e0, e1, e2, e3, e4, e5]; rfl)
              go_enter Tryd.func79, Tryd.ntmps79
              go_wp2
              go_ret
              exact ⟨by rw [unhide hr]; rfl, rfl⟩
            | false =>
              cases e6 : (s.toList == [102, 111, 114, 97, 108, 108]) with
              | true =>
                have hr := hide (show isRes s = true by unfold isRes; simp only [e0, e1, e2, e3, e4, e5, e6]; rfl)
                go_enter Tryd.func79, Tryd.ntmps79
                go_wp2
                go_ret
                exact ⟨by rw [unhide hr]; rfl, rfl⟩
              | false =>
                cases e7 : (s.toList == [112, 97, 116, 116, 101, 114, 110]) with
                | true =>
                  have hr := hide (show isRes s = true by unfold isRes; simp only [e0, e1, e2, e3, e4, e5, e6, e7]; rfl)
                  go_enter Tryd.func79, Tryd.ntmps79
                  go_wp2
                  go_ret
                  exact ⟨by rw [unhide hr]; rfl, rfl⟩
                | false =>
                  cases e8 : (s.toList == [116, 114, 117, 101]) with
                  | true =>
                    have hr := hide (show isRes s = true by unfold isRes; simp only [e0, e1, e2, e3, e4, e5, e6, e7, e8]; rfl)
                    go_enter Tryd.func79, Tryd.ntmps79
                    go_wp2
                    go_ret
                    exact ⟨by rw [unhide hr]; rfl, rfl⟩
                  | false =>
                    cases e9 : (s.toList == [102, 97, 108, 115, 101]) with
                    | true =>
                      have hr := hide (show isRes s = true by unfold isRes; simp only [e0, e1, e2, e3, e4, e5, e6, e7, e8, e9]; rfl)
                      go_enter Tryd.func79, Tryd.ntmps79
                      go_wp2
                      go_ret
                      exact ⟨by rw [unhide hr]; rfl, rfl⟩
                    | false =>
                      cases e10 : (s.toList == [105, 110, 116]) with
                      | true =>
                        have hr := hide (show isRes s = true by unfold isRes; simp only [e0, e1, e2, e3, e4, e5, e6, e7, e8, e9, e10]; rfl)
                        go_enter Tryd.func79, Tryd.ntmps79
                        go_wp2
                        go_ret
                        exact ⟨by rw [unhide hr]; rfl, rfl⟩
                      | false =>
                        cases e11 : (s.toList == [98, 111, 111, 108]) with
                        | true =>
                          have hr := hide (show isRes s = true by unfold isRes; simp only [e0, e1, e2, e3, e4, e5, e6, e7, e8, e9, e10, e11]; rfl)
                          go_enter Tryd.func79, Tryd.ntmps79
                          go_wp2
                          go_ret
                          exact ⟨by rw [unhide hr]; rfl, rfl⟩
                        | false =>
                          cases e12 : (s.toList == [111, 98, 106]) with
                          | true =>
                            have hr := hide (show isRes s = true by unfold isRes; simp only [e0, e1, e2, e3, e4, e5, e6, e7, e8, e9, e10, e11, e12]; rfl)
                            go_enter Tryd.func79, Tryd.ntmps79
                            go_wp2
                            go_ret
                            exact ⟨by rw [unhide hr]; rfl, rfl⟩
                          | false =>
                            have hr := hide (show isRes s = false by unfold isRes; simp only [e0, e1, e2, e3, e4, e5, e6, e7, e8, e9, e10, e11, e12]; rfl)
                            go_enter Tryd.func79, Tryd.ntmps79
                            go_wp2
                            go_ret
                            exact ⟨by rw [unhide hr]; rfl, rfl⟩
end Go.Proofs.YtegmckpcchhmdaaDoor

/- Which texts are words: isWord of package term. -/
namespace Go.Proofs.YtegmckpcchhmdaaDoor
open Go Go.RowKit
def isLetter (x : Nat) : Prop := (65 ≤ x ∧ x ≤ 90) ∨ (97 ≤ x ∧ x ≤ 122) ∨ x = 95
def isDig (x : Nat) : Prop := 48 ≤ x ∧ x ≤ 57
def okAt (s : ByteArray) (i : Nat) : Prop := ∀ h : i < s.size, isLetter (s[i]'h).toNat ∨ (isDig (s[i]'h).toNat ∧ i ≠ 0)
def IsWord (s : ByteArray) : Prop := 0 < s.size ∧ s.size ≤ 40 ∧ isRes s = false ∧ ∀ i, i < s.size → okAt s i
def BPost (p : Prop) (w : World) (e : Ending) (w' : World) : Prop := ∃ b : Bool, e = .returned (.bool b) ∧ (b = true ↔ p) ∧ Below w.heap.size w w'
theorem iter_below (w : World) (s : ByteArray) (pos : Nat) : Below w.heap.size w (w.iter s pos) := (Below.refl _ w).alloc (Nat.le_refl _) _
theorem dec_of (s : ByteArray) (pos : Nat) (h : pos < s.size) : ((s[pos]'h).toNat < 128 ∧ Utf8.decode s pos = ((s[pos]'h).toNat, 1)) ∨ (128 ≤ (s[pos]'h).toNat ∧ 128 ≤ (Utf8.decode s pos).1) := by
  by_cases ha : (s[pos]'h).toNat < 128
  · exact .inl ⟨ha, decode_ascii s pos h ha⟩
  · exact .inr ⟨by omega, (decode_high s pos h (by omega)).1⟩
set_option maxRecDepth 100000 in
set_option maxHeartbeats 16000000 in
theorem isWord_any (s : ByteArray) (w : World) (hs : s.size ≤ 9223372036854775807) : Calls Tryd.prog 68 #[.string s] w (BPost (IsWord s) w) := by
  by_cases h0 : s.size = 0
  · have d0 : ((s.size : Int) == 0) = true := by rw [h0]; rfl
    have hw := hide (show ¬ IsWord s from fun h => by have := h.1; omega)
    go_enter Tryd.func68, Tryd.ntmps68
    go_wp2
    go_ret
    exact ⟨false, rfl, ⟨fun h => (by cases h), fun h => absurd h (unhide hw)⟩, Below.refl _ _⟩
  have d0 : ((s.size : Int) == 0) = false := beq_eq_false_iff_ne.2 (by omega)
  by_cases h1 : 40 < s.size
  · have d1 : decide (40 < (s.size : Int)) = true := by simp; omega
    have hw := hide (show ¬ IsWord s from fun h => by have := h.2.1; omega)
    go_enter Tryd.func68, Tryd.ntmps68
    go_wp2
    go_ret
    exact ⟨false, rfl, ⟨fun h => (by cases h), fun h => absurd h (unhide hw)⟩, Below.refl _ _⟩
  have d1 : decide (40 < (s.size : Int)) = false := by simp; omega
  go_enter Tryd.func68, Tryd.ntmps68
  go_wp2_with fail
  refine (isReserved_any s w).mono ?_
  rintro e w1 ⟨rfl, rfl⟩
  cases hres : isRes s with
  | true =>
    have hw := hide (show ¬ IsWord s from fun h => by have := h.2.2.1; rw [hres] at this; cases this)
    go_wp2
    go_ret
    exact ⟨false, rfl, ⟨fun h => (by cases h), fun h => absurd h (unhide hw)⟩, Below.refl _ _⟩
  | false =>
    go_wp2
    have hb : s.size ≤ 40 := by omega
    have hp : 0 < s.size := by omega
    have HRes := hide hres
    clear h0 h1 d0 d1 hs hres
    go_loopw [3] (fun _ w' => ∃ pos : Nat, w' = w1.iter s pos ∧ pos ≤ s.size ∧ ∀ i, i < pos → okAt s i) (fun _ w' => s.size - w'.iterPos w1.heap.size)
    case atStart => exact ⟨0, rfl, by omega, fun i h => by omega⟩
    case round =>
      obtain ⟨pos, rfl, hle, hall⟩ := hrel
      have HAll := hide hall
      clear hall
      by_cases hpos : pos < s.size
      · have hnx : ∀ ty, (Instr.next (.pointer (some ⟨w1.heap.size, 0, none⟩)) true ty).run Tryd.prog (w1.iter s pos) = _ := fun ty => run_next_any w1 s pos ty hpos
        obtain ⟨r, hr⟩ : ∃ r, r = (Utf8.decode s pos).1 := ⟨_, rfl⟩
        have hdec := dec_of s pos hpos
        have hgood : (isLetter r ∨ (isDig r ∧ pos ≠ 0)) → (Utf8.decode s pos).2 = 1 ∧ okAt s pos := fun hg => by
          rcases hdec with ⟨h1, h2⟩ | ⟨h1, h2⟩
          · rw [h2] at hr ⊢
            refine ⟨rfl, fun h => ?_⟩
            have hr' : r = (s[pos]'h).toNat := hr
            rw [← hr']
            exact hg
          · rw [← hr] at h2
            unfold isLetter isDig at hg
            omega
        have hbad : ¬ (isLetter r ∨ (isDig r ∧ pos ≠ 0)) → ¬ IsWord s := fun hg hw => by
          have h3 := hw.2.2.2 pos hpos hpos
          rcases hdec with ⟨h1, h2⟩ | ⟨h1, h2⟩
          · rw [h2] at hr
            have hr' : r = (s[pos]'hpos).toNat := hr
            rw [← hr'] at h3
            exact hg h3
          · unfold isLetter isDig at h3
            omega
        have HG := hide hgood
        have HBd := hide hbad
        have HI := hide (show ∀ i, i < pos + 1 → okAt s pos → okAt s i from fun i hi hok => by
          by_cases he : i < pos
          · exact unhide HAll i he
          · rw [show i = pos by omega]; exact hok)
        rw [← hr] at hnx
        generalize hwd : (Utf8.decode s pos).2 = wd at *
        clear hgood hbad hdec hr
        have hcase : r ≤ 47 ∨ (48 ≤ r ∧ r ≤ 57) ∨ (58 ≤ r ∧ r ≤ 64) ∨ (65 ≤ r ∧ r ≤ 90) ∨ (91 ≤ r ∧ r ≤ 94) ∨ r = 95 ∨ r = 96 ∨ (97 ≤ r ∧ r ≤ 122) ∨ 123 ≤ r := by omega
        rcases hcase with hc | hc | hc | hc | hc | hc | hc | hc | hc
        · have t0 : decide (48 ≤ (r : Int)) = false := by simp; omega
          have t1 : decide ((r : Int) ≤ 57) = true := by simp; omega
          have t2 : decide (65 ≤ (r : Int)) = false := by simp; omega
          have t3 : decide ((r : Int) ≤ 90) = true := by simp; omega
          have t4 : decide (97 ≤ (r : Int)) = false := by simp; omega
          have t5 : decide ((r : Int) ≤ 122) = true := by simp; omega
          have t6 : ((r : Int) == 95) = false := by simp; omega
          have hw := hide (unhide HBd (by unfold isLetter isDig; omega))
          clear hc
          go_wp2
          go_ret
          exact ⟨false, rfl, ⟨fun h => (by cases h), fun h => absurd h (unhide hw)⟩, iter_below _ _ _⟩
        · have t0 : decide (48 ≤ (r : Int)) = true := by simp; omega
          have t1 : decide ((r : Int) ≤ 57) = true := by simp; omega
          have t2 : decide (65 ≤ (r : Int)) = false := by simp; omega
          have t3 : decide ((r : Int) ≤ 90) = true := by simp; omega
          have t4 : decide (97 ≤ (r : Int)) = false := by simp; omega
          have t5 : decide ((r : Int) ≤ 122) = true := by simp; omega
          have t6 : ((r : Int) == 95) = false := by simp; omega
          by_cases hp0 : pos = 0
          · have tp : ((pos : Int) == 0) = true := by rw [hp0]; rfl
            have hw := hide (unhide HBd (by unfold isLetter; omega))
            clear hc hp0
            go_wp2
            go_ret
            exact ⟨false, rfl, ⟨fun h => (by cases h), fun h => absurd h (unhide hw)⟩, iter_below _ _ _⟩
          · have tp : ((pos : Int) == 0) = false := beq_eq_false_iff_ne.2 (by omega)
            have hw := hide (unhide HG (.inr ⟨by unfold isDig; omega, hp0⟩))
            obtain rfl : wd = 1 := (unhide hw).1
            clear hc hp0
            go_wp2
            exact ⟨⟨pos + 1, rfl, by omega, fun i hi => unhide HI i hi (unhide hw).2⟩, by simp; omega⟩
        · have t0 : decide (48 ≤ (r : Int)) = true := by simp; omega
          have t1 : decide ((r : Int) ≤ 57) = false := by simp; omega
          have t2 : decide (65 ≤ (r : Int)) = false := by simp; omega
          have t3 : decide ((r : Int) ≤ 90) = true := by simp; omega
          have t4 : decide (97 ≤ (r : Int)) = false := by simp; omega
          have t5 : decide ((r : Int) ≤ 122) = true := by simp; omega
          have t6 : ((r : Int) == 95) = false := by simp; omega
          have hw := hide (unhide HBd (by unfold isLetter isDig; omega))
          clear hc
          go_wp2
          go_ret
          exact ⟨false, rfl, ⟨fun h => (by cases h), fun h => absurd h (unhide hw)⟩, iter_below _ _ _⟩
        · have t0 : decide (48 ≤ (r : Int)) = true := by simp; omega
          have t1 : decide ((r : Int) ≤ 57) = false := by simp; omega
          have t2 : decide (65 ≤ (r : Int)) = true := by simp; omega
          have t3 : decide ((r : Int) ≤ 90) = true := by simp; omega
          have t4 : decide (97 ≤ (r : Int)) = false := by simp; omega
          have t5 : decide ((r : Int) ≤ 122) = true := by simp; omega
          have t6 : ((r : Int) == 95) = false := by simp; omega
          have hw := hide (unhide HG (.inl (by unfold isLetter; omega)))
          obtain rfl : wd = 1 := (unhide hw).1
          clear hc
          go_wp2
          exact ⟨⟨pos + 1, rfl, by omega, fun i hi => unhide HI i hi (unhide hw).2⟩, by simp; omega⟩
        · have t0 : decide (48 ≤ (r : Int)) = true := by simp; omega
          have t1 : decide ((r : Int) ≤ 57) = false := by simp; omega
          have t2 : decide (65 ≤ (r : Int)) = true := by simp; omega
          have t3 : decide ((r : Int) ≤ 90) = false := by simp; omega
          have t4 : decide (97 ≤ (r : Int)) = false := by simp; omega
          have t5 : decide ((r : Int) ≤ 122) = true := by simp; omega
          have t6 : ((r : Int) == 95) = false := by simp; omega
          have hw := hide (unhide HBd (by unfold isLetter isDig; omega))
          clear hc
          go_wp2
          go_ret
          exact ⟨false, rfl, ⟨fun h => (by cases h), fun h => absurd h (unhide hw)⟩, iter_below _ _ _⟩
        · have t0 : decide (48 ≤ (r : Int)) = true := by simp; omega
          have t1 : decide ((r : Int) ≤ 57) = false := by simp; omega
          have t2 : decide (65 ≤ (r : Int)) = true := by simp; omega
          have t3 : decide ((r : Int) ≤ 90) = false := by simp; omega
          have t4 : decide (97 ≤ (r : Int)) = false := by simp; omega
          have t5 : decide ((r : Int) ≤ 122) = true := by simp; omega
          have t6 : ((r : Int) == 95) = true := by rw [show r = 95 by omega]; rfl
          have hw := hide (unhide HG (.inl (by unfold isLetter; omega)))
          obtain rfl : wd = 1 := (unhide hw).1
          clear hc
          go_wp2
          exact ⟨⟨pos + 1, rfl, by omega, fun i hi => unhide HI i hi (unhide hw).2⟩, by simp; omega⟩
        · have t0 : decide (48 ≤ (r : Int)) = true := by simp; omega
          have t1 : decide ((r : Int) ≤ 57) = false := by simp; omega
          have t2 : decide (65 ≤ (r : Int)) = true := by simp; omega
          have t3 : decide ((r : Int) ≤ 90) = false := by simp; omega
          have t4 : decide (97 ≤ (r : Int)) = false := by simp; omega
          have t5 : decide ((r : Int) ≤ 122) = true := by simp; omega
          have t6 : ((r : Int) == 95) = false := by simp; omega
          have hw := hide (unhide HBd (by unfold isLetter isDig; omega))
          clear hc
          go_wp2
          go_ret
          exact ⟨false, rfl, ⟨fun h => (by cases h), fun h => absurd h (unhide hw)⟩, iter_below _ _ _⟩
        · have t0 : decide (48 ≤ (r : Int)) = true := by simp; omega
          have t1 : decide ((r : Int) ≤ 57) = false := by simp; omega
          have t2 : decide (65 ≤ (r : Int)) = true := by simp; omega
          have t3 : decide ((r : Int) ≤ 90) = false := by simp; omega
          have t4 : decide (97 ≤ (r : Int)) = true := by simp; omega
          have t5 : decide ((r : Int) ≤ 122) = true := by simp; omega
          have t6 : ((r : Int) == 95) = false := by simp; omega
          have hw := hide (unhide HG (.inl (by unfold isLetter; omega)))
          obtain rfl : wd = 1 := (unhide hw).1
          clear hc
          go_wp2
          exact ⟨⟨pos + 1, rfl, by omega, fun i hi => unhide HI i hi (unhide hw).2⟩, by simp; omega⟩
        · have t0 : decide (48 ≤ (r : Int)) = true := by simp; omega
          have t1 : decide ((r : Int) ≤ 57) = false := by simp; omega
          have t2 : decide (65 ≤ (r : Int)) = true := by simp; omega
          have t3 : decide ((r : Int) ≤ 90) = false := by simp; omega
          have t4 : decide (97 ≤ (r : Int)) = true := by simp; omega
          have t5 : decide ((r : Int) ≤ 122) = false := by simp; omega
          have t6 : ((r : Int) == 95) = false := by simp; omega
          have hw := hide (unhide HBd (by unfold isLetter isDig; omega))
          clear hc
          go_wp2
          go_ret
          exact ⟨false, rfl, ⟨fun h => (by cases h), fun h => absurd h (unhide hw)⟩, iter_below _ _ _⟩
      · have hnx : ∀ ty, (Instr.next (.pointer (some ⟨w1.heap.size, 0, none⟩)) true ty).run Tryd.prog (w1.iter s pos) = _ := fun ty => run_next_end w1 s pos ty hpos
        go_wp2
        go_ret
        exact ⟨true, rfl, ⟨fun _ => ⟨hp, hb, unhide HRes, fun i hi => unhide HAll i (by omega)⟩, fun _ => rfl⟩, iter_below _ _ _⟩
end Go.Proofs.YtegmckpcchhmdaaDoor

/- Small functions: sorts' words, a TAll's body. -/
namespace Go.Proofs.YtegmckpcchhmdaaDoor
open Go Go.RowKit
/-- A sort's word. -/
def sortW (x : Int) : ByteArray := if x = 1 then ⟨#[105, 110, 116]⟩ else if x = 2 then ⟨#[98, 111, 111, 108]⟩ else if x = 3 then ⟨#[111, 98, 106]⟩ else ⟨#[63]⟩
set_option maxRecDepth 100000 in
set_option maxHeartbeats 16000000 in
theorem sortWord_any (x : Int) (w : World) : Calls Tryd.prog 63 #[.int .i64 x] w fun e w' => e = .returned (.string (sortW x)) ∧ w' = w := by
  have hc : x = 1 ∨ x = 2 ∨ x = 3 ∨ (x ≠ 1 ∧ x ≠ 2 ∧ x ≠ 3) := by omega
  rcases hc with rfl | rfl | rfl | ⟨h1, h2, h3⟩
  · go_enter Tryd.func63, Tryd.ntmps63
    go_wp2
    go_ret
    exact ⟨rfl, rfl⟩
  · go_enter Tryd.func63, Tryd.ntmps63
    go_wp2
    go_ret
    exact ⟨rfl, rfl⟩
  · go_enter Tryd.func63, Tryd.ntmps63
    go_wp2
    go_ret
    exact ⟨rfl, rfl⟩
  · have t1 := beq_eq_false_iff_ne.2 h1
    have t2 := beq_eq_false_iff_ne.2 h2
    have t3 := beq_eq_false_iff_ne.2 h3
    have hw := hide (show sortW x = ⟨#[63]⟩ by unfold sortW; rw [if_neg h1, if_neg h2, if_neg h3])
    clear h1 h2 h3
    go_enter Tryd.func63, Tryd.ntmps63
    go_wp2
    go_ret
    exact ⟨by rw [unhide hw]; rfl, rfl⟩
set_option maxRecDepth 100000 in
set_option maxHeartbeats 16000000 in
theorem bodyOf_any {B d : Nat} {w : World} {b o : Nat} {t : Tm} (hT : TmAt w B d b o t) (hB : B ≤ w.heap.size) :
    Calls Tryd.prog 18 #[.pointer (some ⟨b, o, none⟩)] w fun e w' => Below w.heap.size w w' ∧
      ((¬ (t.op = 19 ∧ t.l.length = 1) ∧ e = .returned (.tuple #[.pointer none, .bool false])) ∨ (t.op = 19 ∧ ∃ u b' o', t.l = [u] ∧ e = .returned (.tuple #[.pointer (some ⟨b', o', none⟩), .bool true]) ∧ ∃ d', d = d' + 1 ∧ TmAt w B d' b' o' u)) := by
  cases d with
  | zero => exact hT.elim
  | succ d =>
  obtain ⟨hb, h1, h2, aL, aV, aP, cL, cV, cP, hrg, hRow, hV, hP, _⟩ := hT
  have c0 : w.cell? ⟨b, o, none⟩ = some (.int .i64 t.op) := hrg 0 _ rfl
  have c4 : w.cell? ⟨b, o + 4, none⟩ = some (.slice aL t.l.length cL) := hrg 4 _ rfl
  have HRow := hide hRow
  have hmax : t.l.length ≤ 281474976710656 := by have := hRow.1; have := hRow.2.1; omega
  have hbw : b < w.heap.size := by omega
  have C0 := hide c0
  clear h1 h2 hrg hRow hV hP c0
  go_enter Tryd.func18, Tryd.ntmps18
  go_wp2_with fail
  refine (view_any b o t.op w (unhide C0) hbw).mono ?_
  rintro e w2 ⟨rfl, hb2⟩
  have c4' : w2.cell? ⟨b, o + 4, none⟩ = some (.slice aL t.l.length cL) := (hb2.cell (p := ⟨b, o + 4, none⟩) hbw).trans c4
  have hs2 := hb2.size
  have HB := hide hb2
  have hbw2 : b < w2.heap.size := by omega
  clear hb2 c4
  by_cases h19 : t.op = 19
  · have hkk : kindOf t.op = 82 := by rw [h19]; rfl
    rw [hkk]
    clear hkk
    have ta1 := fun w => ta_yes (ty := 82) (v := .agg #[.pointer (some ⟨b, o, none⟩)]) (w := w) rfl rfl
    have H19 := hide h19
    clear h19
    by_cases hl1 : t.l.length = 1
    · obtain ⟨u, hu⟩ := List.length_eq_one_iff.1 hl1
      obtain ⟨b', o', rfl, hbB, hAt⟩ := (unhide HRow).2.2 (by omega)
      have HA := hide (hAt 0 (by omega) u (by rw [hu]; rfl))
      have HU := hide hu
      rw [hl1] at c4'
      clear hAt hu hl1
      go_wp2
      refine ⟨rfl, _, results_tmp2 rfl _ _ _, ?_⟩
      have ha := unhide HA
      rw [Nat.zero_mul, Nat.add_zero] at ha
      exact ⟨(unhide HB).alloc hs2 _, .inr ⟨unhide H19, u, b', o', unhide HU, rfl, d, rfl, ha⟩⟩
    · have t1 : ((t.l.length : Int) == 1) = false := beq_eq_false_iff_ne.2 (by omega)
      have HL := hide hl1
      clear hl1
      go_wp2
      refine ⟨rfl, _, results_tmp2 rfl _ _ _, ?_⟩
      exact ⟨(unhide HB).alloc hs2 _, .inl ⟨fun h => unhide HL h.2, rfl⟩⟩
  · have hk2 := kindOf_all h19
    have ta2 := fun w => ta_no (ty := 82) (v := .agg #[.pointer (some ⟨b, o, none⟩)]) (z := .agg #[.pointer none]) (w := w) hk2 rfl rfl (by go_simp)
    have H19 := hide h19
    generalize kindOf t.op = kk at *
    clear h19 hk2
    go_wp2
    refine ⟨rfl, _, results_tmp2 rfl _ _ _, ?_⟩
    exact ⟨(unhide HB).alloc hs2 _, .inl ⟨fun h => unhide H19 h.1, rfl⟩⟩
end Go.Proofs.YtegmckpcchhmdaaDoor

namespace Go.Proofs.YtegmckpcchhmdaaDoor
open Go Go.RowKit
/-- Block k is no row of bytes. -/
def NB (w : World) (k : Nat) : Prop := ∀ cs fr, w.heap[k]? ≠ some (.cells cs 5 fr)
/-- All stands, but the writer r and rows of bytes, these not below B. -/
structure WF (B r : Nat) (w w' : World) : Prop where
  os : w'.os = w.os
  tape : w'.tape = w.tape
  output : w'.output = w.output
  size : w.heap.size ≤ w'.heap.size
  block : ∀ k, k < w.heap.size → (k < B ∨ k ≠ r ∧ NB w k) → w'.heap[k]? = w.heap[k]?
theorem WF.refl (B r : Nat) (w : World) : WF B r w w := ⟨rfl, rfl, rfl, Nat.le_refl _, fun _ _ _ => rfl⟩
theorem WF.trans {B r : Nat} {a b c : World} (h : WF B r a b) (k : WF B r b c) : WF B r a c :=
  ⟨k.os.trans h.os, k.tape.trans h.tape, k.output.trans h.output, Nat.le_trans h.size k.size, fun j hj hr => by
    have e := h.block j hj hr
    refine (k.block j (Nat.lt_of_lt_of_le hj h.size) ?_).trans e
    rcases hr with hr | ⟨hr, hn⟩
    · exact .inl hr
    · exact .inr ⟨hr, fun cs fr hc => hn cs fr (e.symm.trans hc)⟩⟩
theorem WF.of {B r C : Nat} {w w' : World} (h : Below C w w') (hC : w.heap.size ≤ C) : WF B r w w' := ⟨h.os, h.tape, h.output, h.size, fun k hk _ => h.block k (Nat.lt_of_lt_of_le hk hC)⟩
theorem WF.below {B r : Nat} {w w' : World} (h : WF B r w w') (hs : B ≤ w.heap.size) : Below B w w' := ⟨h.os, h.tape, h.output, h.size, fun k hk => h.block k (by omega) (.inl hk)⟩
theorem WF.alloc {B r : Nat} {a w : World} (h : WF B r a w) (o : Obj) : WF B r a (w.alloc o) :=
  h.trans (WF.of ((Below.refl w.heap.size w).alloc (Nat.le_refl _) o) (Nat.le_refl _))
theorem WF.set {B r : Nat} {a w : World} (h : WF B r a w) (hB : B ≤ r) (o : Nat) (u : Value) : WF B r a (w.setCell ⟨r, o, none⟩ u) := by
  refine h.trans ⟨rfl, rfl, rfl, by simp, fun k _ hk => ?_⟩
  exact Below.heap_setCell w ⟨r, o, none⟩ u k (by rcases hk with hk | ⟨hk, _⟩ <;> (show k ≠ r; omega))
theorem WF.blk {B r q : Nat} {w w' : World} {cs : Array Value} {ty : TypeId} (h : WF B r w w') (hx : w.heap[q]? = some (.cells cs ty)) (hq : q ≠ r) (ht : ty ≠ 5) : w'.heap[q]? = some (.cells cs ty) := by
  rw [h.block q (Array.getElem?_eq_some_iff.1 hx).1 (.inr ⟨hq, fun cs' fr e => by rw [hx] at e; injection e with e; injection e with _ e; exact ht e⟩)]
  exact hx
/-- A writer that has written these bytes, and isn't too deep. -/
def WB (w : World) (B r : Nat) (l : List UInt8) : Prop := B ≤ r ∧ ∃ p v, (p = .pointer none ∨ p = .pointer (some ⟨r, 0, none⟩)) ∧ w.heap[r]? = some (.cells #[p, v, .bool false] 70) ∧ w.ownsRow B 5 1 v l.length (Lib.byteCells l) ∧ (l = [] → v = .slice none 0 0)
theorem WB.lt {w : World} {B r : Nat} {l : List UInt8} (h : WB w B r l) : r < w.heap.size := by
  obtain ⟨_, p, v, _, h, _⟩ := h
  exact (Array.getElem?_eq_some_iff.1 h).1
theorem own_same {w w' : World} {B : Nat} {e : TypeId} {v : Value} {n : Nat} {xs : List Value} (h : w.ownsRow B e 1 v n xs) (hb : ∀ k, v.ownBlock = some k → w'.heap[k]? = w.heap[k]?) : w'.ownsRow B e 1 v n xs := by
  refine ⟨h.1, h.2.imp id ?_⟩
  rintro ⟨g, cap, cur, rfl, h1, h2, h3⟩
  exact ⟨g, cap, cur, rfl, h1, by rw [hb g rfl]; exact h2, h3⟩
theorem WB.below {w w' : World} {B r C : Nat} {l : List UInt8} (h : WB w B r l) (hb : Below C w w') (hC : w.heap.size ≤ C) : WB w' B r l := by
  have hl := h.lt
  obtain ⟨h1, p, v, hp, h2, h3, h4⟩ := h
  refine ⟨h1, p, v, hp, by rw [hb.block r (by omega)]; exact h2, own_same h3 fun k hk => hb.block k ?_, h4⟩
  rcases h3.2 with ⟨rfl, _⟩ | ⟨g, cap, cur, rfl, _, hg, _⟩
  · cases hk
  · cases hk
    have := (Array.getElem?_eq_some_iff.1 hg).1
    show g < C
    omega
theorem inf_of {P : Program} {t : TypeId} {z : Value} {n b : Nat} (h : (P.info? t).map (fun i => (i.zero, i.size, i.bytes)) = some (some z, n, b)) : ∃ i, P.info? t = some i ∧ i.zero = some z ∧ i.size = n ∧ i.bytes = b := by
  obtain ⟨i, h1, h2⟩ := Option.map_eq_some_iff.1 h
  simp only [Prod.mk.injEq] at h2
  exact ⟨i, h1, h2⟩
theorem infByte : (Tryd.prog.info? 5).map (fun i => (i.zero, i.size, i.bytes)) = some (some (.int .u8 0), 1, 1) := by kernel_rfl
theorem infBuilder : (Tryd.prog.info? 68).map (·.size) = some 2 := by kernel_rfl
theorem liesBuilder : liesAt Tryd.prog Tryd.prog.depth 70 (3 / Tryd.prog.cellsOf 70) 0 68 1 = true := by kernel_rfl
theorem tBuf : Tryd.prog.underlying 66 = some (.slice 5) := by kernel_rfl
theorem tStr : Tryd.prog.underlying 9 = some .string := by kernel_rfl
theorem tPB : Tryd.prog.underlying 65 = some (.pointer 68) := by kernel_rfl
theorem tUns : Tryd.prog.underlying 180 = some .unsafePointer := by kernel_rfl
theorem tPU8 : Tryd.prog.underlying 120 = some (.pointer 5) := by kernel_rfl
def ZPost (B r : Nat) (v : Value) (w : World) (e : Ending) (w' : World) : Prop := e = .returned (.tuple #[]) ∧ w'.heap[r]? = some (.cells #[.pointer (some ⟨r, 0, none⟩), v, .bool false] 70) ∧ w'.heap.size = w.heap.size ∧ (∀ k, k ≠ r → w'.heap[k]? = w.heap[k]?) ∧ WF B r w w'
set_option maxRecDepth 100000 in
set_option maxHeartbeats 4000000 in
theorem copyCheck_any (B r : Nat) (p v : Value) (w : World) (hB : B ≤ r) (hp : p = .pointer none ∨ p = .pointer (some ⟨r, 0, none⟩)) (h : w.heap[r]? = some (.cells #[p, v, .bool false] 70)) :
    Calls Tryd.prog 64 #[.pointer (some ⟨r, 0, none⟩)] w (ZPost B r v w) := by
  obtain ⟨j, hj, hjs⟩ := Option.map_eq_some_iff.1 infBuilder
  obtain ⟨hr, hc, hf⟩ := blk h
  have c0 : w.cell? ⟨r, 0, none⟩ = some p := hc 0 _ rfl
  have f0 := hf 0
  have hsh : w.shape? r = some (70, 3) := by simp [World.shape?, h]
  have H := hide h
  clear h hc hf
  rcases hp with rfl | rfl
  · go_enter Tryd.func64, Tryd.ntmps64
    go_wp2
    rw [Lib.run_to_unsafe w ⟨r, 0, none⟩ tPB tUns hj (by rw [hjs]; decide) hsh (Nat.zero_lt_succ 2)]
    simp only [Result.andThen]
    rw [Oper.upon_value]
    go_wp2
    rw [run_callFunc_extern Tryd.func75 (by kernel_rfl) (by kernel_rfl) (by kernel_rfl) (e := Extern.AbiNoEscape.same) (by kernel_rfl)]
    rw [Lib.run_noEscape]
    simp only [Result.andThen]
    rw [Oper.upon_value]
    go_wp2
    rw [Lib.run_from_unsafe w ⟨r, 0, none⟩ tUns tPB hj hsh liesBuilder]
    simp only [Result.andThen]
    rw [Oper.upon_value]
    go_wp2
    go_end0
    exact ⟨rfl, set_block (unhide H) _, by simp, fun k hk => Below.heap_setCell w ⟨r, 0, none⟩ _ k hk, (WF.refl B r w).set hB 0 _⟩
  · go_enter Tryd.func64, Tryd.ntmps64
    go_wp2
    rw [Lib.run_neq_ptr_same w _ tPB hj]
    go_wp2
    go_end0
    exact ⟨rfl, unhide H, rfl, fun k _ => rfl, WF.refl B r w⟩
/-- Behind a writing. -/
def WPost' (v : Value) (B r : Nat) (l : List UInt8) (w : World) (e : Ending) (w' : World) : Prop := e = .returned v ∧ WB w' B r l ∧ WF B r w w'
theorem grown_WF {B r : Nat} {v : Value} {w w' : World} {n : Nat} {xs : List Value} (hown : w.ownsRow B 5 1 v n xs) (hg : w.grownBy w' v.ownBlock) : WF B r w w' := by
  refine ⟨hg.os, hg.tape, hg.output, hg.size, fun k hk h => hg.block k hk fun e => ?_⟩
  rcases hown.2 with ⟨rfl, _⟩ | ⟨g, cap, cur, rfl, hB, hgb, _⟩
  · cases e
  · have : k = g := by
      have : some k = some g := e
      injection this
    subst this
    rcases h with h | ⟨_, h⟩
    · omega
    · exact h _ _ hgb
set_option maxRecDepth 100000 in
set_option maxHeartbeats 4000000 in
theorem wstr_any (B r : Nat) (l : List UInt8) (s : ByteArray) (w : World) (h : WB w B r l) (hlen : l.length + s.size ≤ 140737488355328) :
    Calls Tryd.prog 44 #[.pointer (some ⟨r, 0, none⟩), .string s] w (WPost' (.tuple #[.int .i64 s.size, .nilIface]) B r (l ++ s.data.toList) w) := by
  obtain ⟨i0, hi, hz0, hz1, hz2⟩ := inf_of infByte
  have hlt := h.lt
  obtain ⟨hB, p, v, hp, hbk, hown, hnil⟩ := h
  have HNil := hide hnil
  clear hnil
  have HO := hide hown
  have HP := hide (And.intro hp hbk)
  clear hown hp hbk
  go_enter Tryd.func44, Tryd.ntmps44
  go_wp2_with fail
  refine (copyCheck_any B r p v w hB (unhide HP).1 (unhide HP).2).mono ?_
  rintro e w1 ⟨rfl, hb1, hs1, hk1, hW1⟩
  have hown1 : w1.ownsRow B 5 1 v l.length (Lib.byteCells l) := own_same (unhide HO) fun k hk => hk1 k fun e => by
    subst e
    exact Lib.ownBlock_ne (unhide HO) (unhide HP).2 (by decide) hk
  obtain ⟨hr1, hc1, hf1⟩ := blk hb1
  have c0 : w1.cell? ⟨r, 0, none⟩ = some (.pointer (some ⟨r, 0, none⟩)) := hc1 0 _ rfl
  have c1 : w1.cell? ⟨r, 1, none⟩ = some v := hc1 1 _ rfl
  have HK := hide (And.intro hk1 hW1)
  have HS1 := hide hs1
  clear hs1
  have HB1 := hide hb1
  have HN := hide hown1
  clear hk1 hW1 hb1 hc1 hf1 hown1
  go_wp2_with (at_builtin; refine Lib.wpList_append_own_string _ rfl _ _ 66 9 rfl B 5 i0 tBuf tStr hi hz0 hz1 hz2 _ _ _ rfl (unhide HN) s rfl ?c3 ?c4 ?c5 ?_)
  case c3 => unfold maxLen; omega
  case c4 => omega
  case c5 => have := unhide HS1; omega
  intro v' w2 hown' hgrow hiff
  have hb2 : w2.heap[r]? = some (.cells #[.pointer (some ⟨r, 0, none⟩), v, .bool false] 70) := by
    rw [hgrow.block r hr1 (fun e => Lib.ownBlock_ne (unhide HN) (unhide HB1) (by decide) e.symm)]
    exact unhide HB1
  obtain ⟨hr2, hc2, hf2⟩ := blk hb2
  have d0 : w2.cell? ⟨r, 0, none⟩ = some (.pointer (some ⟨r, 0, none⟩)) := hc2 0 _ rfl
  have d1 : w2.cell? ⟨r, 1, none⟩ = some v := hc2 1 _ rfl
  have f1 := hf2 1
  obtain ⟨ao, n', cap, rfl⟩ : ∃ ao n' cap, v' = .slice ao n' cap := by
    rcases hown'.2 with ⟨hv, _⟩ | ⟨g, cap, cur, hv, _⟩
    · exact ⟨_, _, _, hv⟩
    · exact ⟨_, _, _, hv⟩
  have HIff := hide hiff
  clear hiff
  have HG := hide (And.intro hgrow hown')
  have HB2 := hide hb2
  clear hgrow hown' hc2 hf2 hb2
  go_wp2
  go_ret2
  obtain ⟨hgrow, hown'⟩ := unhide HG
  have hfin := set_block (o := 1) (unhide HB2) (.slice ao n' cap)
  refine ⟨rfl, ⟨hB, .pointer (some ⟨r, 0, none⟩), .slice ao n' cap, .inr rfl, hfin, ?_, ?_⟩, ((unhide HK).2.trans (grown_WF (unhide HN) hgrow)).set hB 1 _⟩
  case refine_2 =>
    intro h
    have h1 := List.append_eq_nil_iff.1 h
    exact (unhide HIff).2 ⟨unhide HNil h1.1, by
      have e : s.size = s.data.toList.length := rfl
      rw [h1.2] at e
      simpa using e⟩
  have e1 : (l ++ s.data.toList).length = l.length + s.size := by
    rw [List.length_append, Array.length_toList]
    rfl
  rw [e1, show Lib.byteCells (l ++ s.data.toList) = Lib.byteCells l ++ Lib.strCells s by simp [Lib.byteCells, Lib.strCells]]
  refine own_same hown' fun k hk => Below.heap_setCell w2 ⟨r, 1, none⟩ _ k fun e => ?_
  subst e
  exact Lib.ownBlock_ne hown' (unhide HB2) (by decide) hk
set_option maxRecDepth 100000 in
set_option maxHeartbeats 4000000 in
theorem wbyte_any (B r : Nat) (l : List UInt8) (c : UInt8) (w : World) (h : WB w B r l) (hlen : l.length + 1 ≤ 140737488355328) :
    Calls Tryd.prog 45 #[.pointer (some ⟨r, 0, none⟩), .int .u8 c.toNat] w (WPost' .nilIface B r (l ++ [c]) w) := by
  obtain ⟨i0, hi, hz0, hz1, hz2⟩ := inf_of infByte
  have hlt := h.lt
  obtain ⟨hB, p, v, hp, hbk, hown, hnil⟩ := h
  have HNil := hide hnil
  clear hnil
  have HO := hide hown
  have HP := hide (And.intro hp hbk)
  clear hown hp hbk
  go_enter Tryd.func45, Tryd.ntmps45
  go_wp2_with fail
  refine (copyCheck_any B r p v w hB (unhide HP).1 (unhide HP).2).mono ?_
  rintro e w1 ⟨rfl, hb1, hs1, hk1, hW1⟩
  have hown1 : w1.ownsRow B 5 1 v l.length (Lib.byteCells l) := own_same (unhide HO) fun k hk => hk1 k fun e => by
    subst e
    exact Lib.ownBlock_ne (unhide HO) (unhide HP).2 (by decide) hk
  obtain ⟨hr1, hc1, hf1⟩ := blk hb1
  have c0 : w1.cell? ⟨r, 0, none⟩ = some (.pointer (some ⟨r, 0, none⟩)) := hc1 0 _ rfl
  have c1 : w1.cell? ⟨r, 1, none⟩ = some v := hc1 1 _ rfl
  have HK := hide (And.intro hk1 hW1)
  have HS1 := hide hs1
  clear hs1
  have HB1 := hide hb1
  have HN := hide hown1
  clear hk1 hW1 hb1 hc1 hf1 hown1
  go_wp2_with (at_builtin; refine wpList_append_own _ rfl _ _ 66 rfl B 5 i0 (.int .u8 0) 1 1 tBuf hi hz0 hz1 hz2 rfl (by decide) _ _ _ rfl ((unhide HN).alloc _) ⟨w1.heap.size, 0, none⟩ 1 1 [.int .u8 c.toNat] rfl rfl ?c1 ?c2 ?c3 ?c4 ?c5 ?_)
  case c1 =>
    intro j u hj
    match j, hj with
    | 0, hj => simp at hj; subst hj; simp [Addr.add]
  case c2 => intro u hu; simp at hu; subst hu; rfl
  case c3 => unfold maxLen; omega
  case c4 => omega
  case c5 => have := unhide HS1; simp; omega
  intro v' w2 hown' hgrow _
  have hb2 : w2.heap[r]? = some (.cells #[.pointer (some ⟨r, 0, none⟩), v, .bool false] 70) := by
    rw [hgrow.block r (by simp; omega) (fun e => Lib.ownBlock_ne (unhide HN) (unhide HB1) (by decide) e.symm)]
    exact keep_alloc (unhide HB1) _
  obtain ⟨hr2, hc2, hf2⟩ := blk hb2
  have d0 : w2.cell? ⟨r, 0, none⟩ = some (.pointer (some ⟨r, 0, none⟩)) := hc2 0 _ rfl
  have d1 : w2.cell? ⟨r, 1, none⟩ = some v := hc2 1 _ rfl
  have f1 := hf2 1
  obtain ⟨ao, n', cap, rfl⟩ : ∃ ao n' cap, v' = .slice ao n' cap := by
    rcases hown'.2 with ⟨hv, _⟩ | ⟨g, cap, cur, hv, _⟩
    · exact ⟨_, _, _, hv⟩
    · exact ⟨_, _, _, hv⟩
  have HG := hide (And.intro hgrow hown')
  have HB2 := hide hb2
  clear hgrow hown' hc2 hf2 hb2
  go_wp2
  go_ret
  obtain ⟨hgrow, hown'⟩ := unhide HG
  have hfin := set_block (o := 1) (unhide HB2) (.slice ao n' cap)
  refine ⟨rfl, ⟨hB, .pointer (some ⟨r, 0, none⟩), .slice ao n' cap, .inr rfl, hfin, ?_, fun h => by simp at h⟩, (((unhide HK).2.alloc _).trans (grown_WF ((unhide HN).alloc _) hgrow)).set hB 1 _⟩
  rw [show (l ++ [c]).length = l.length + 1 by simp, show Lib.byteCells (l ++ [c]) = Lib.byteCells l ++ [.int .u8 c.toNat] by simp [Lib.byteCells]]
  refine own_same hown' fun k hk => Below.heap_setCell w2 ⟨r, 1, none⟩ _ k fun e => ?_
  subst e
  exact Lib.ownBlock_ne hown' (unhide HB2) (by decide) hk
set_option maxRecDepth 100000 in
set_option maxHeartbeats 4000000 in
theorem wlen_any (B r : Nat) (l : List UInt8) (w : World) (h : WB w B r l) : Calls Tryd.prog 65 #[.pointer (some ⟨r, 0, none⟩)] w fun e w' => e = .returned (.int .i64 l.length) ∧ w' = w := by
  obtain ⟨hB, p, v, hp, hbk, hown, _⟩ := h
  obtain ⟨hr1, hc1, hf1⟩ := blk hbk
  obtain ⟨ao, cap, rfl⟩ : ∃ ao cap, v = .slice ao l.length cap := by
    rcases hown.2 with ⟨hv, h0⟩ | ⟨g, cap, cur, hv, _⟩
    · rw [h0]; exact ⟨_, _, hv⟩
    · exact ⟨_, _, hv⟩
  have c1 : w.cell? ⟨r, 1, none⟩ = some (.slice ao l.length cap) := hc1 1 _ rfl
  clear hc1 hf1 hown hbk hp
  go_enter Tryd.func65, Tryd.ntmps65
  go_wp2
  go_ret
  exact ⟨rfl, rfl⟩
set_option maxRecDepth 100000 in
set_option maxHeartbeats 4000000 in
theorem wout_any (B r : Nat) (l : List UInt8) (w : World) (h : WB w B r l) (h0 : l ≠ []) : Calls Tryd.prog 30 #[.pointer (some ⟨r, 0, none⟩)] w fun e w' => e = .returned (.string ⟨l.toArray⟩) ∧ Below B w w' := by
  obtain ⟨hB, p, v, hp, hbk, hown, _⟩ := h
  have hl0 : l.length ≠ 0 := by simpa using h0
  obtain ⟨g, cap, cur, rfl, hbg, hg, hnc, hcm, hcs, htake⟩ : ∃ g cap cur, v = .slice (some ⟨g, 0, none⟩) l.length cap ∧ B ≤ g ∧ w.heap[g]? = some (.cells cur 5 (0, 0)) ∧ l.length ≤ cap ∧ cap ≤ maxLen ∧ cur.size = cap * 1 ∧ cur.toList.take (l.length * 1) = Lib.byteCells l := by
    rcases hown.2 with ⟨_, hz⟩ | ⟨g, cap, cur, hv, r⟩
    · exact absurd hz hl0
    · exact ⟨g, cap, cur, hv, r⟩
  have c1 : w.drew.cell? ⟨r, 1, none⟩ = some (.slice (some ⟨g, 0, none⟩) l.length cap) := (blk (show w.drew.heap[r]? = _ from hbk)).2.1 1 _ rfl
  have hSD : (Builtin.unsafeSliceData_ #[66] 120 #[.slice (some ⟨g, 0, none⟩) l.length cap]).run Tryd.prog w.drew = .ok (.pointer (some ⟨g, 0, none⟩)) w.drew :=
    Lib.run_unsafeSliceData_row _ _ _ _ _ _ (by omega)
  have hUS : (Builtin.unsafeString_ #[120, 3] 9 #[.pointer (some ⟨g, 0, none⟩), .int .i64 l.length]).run Tryd.prog w.drew = .ok (.string ⟨l.toArray⟩) (w.drew.freeze ⟨g, 0, none⟩ l.length) := by
    refine Lib.run_unsafeString_row w.drew 120 3 9 5 tPU8 (by kernel_rfl) g cur.size (by have hg' : w.drew.heap[g]? = some (.cells cur 5 (0, 0)) := hg; simp [World.shape?, hg']) l h0 (by omega) (by unfold maxLen at hcm; omega) ?_
    intro j x hx
    have := hown.cells (g := g) rfl j (.int .u8 x.toNat) (by simp [Lib.byteCells, hx])
    exact this
  have mixed : Tryd.prog.follows Departure.mixedOrders = true := by kernel_rfl
  clear hown hbk hp htake hg hcs
  go_enter Tryd.func30, Tryd.ntmps30
  go_wp2
  go_region_o
  all_goals (go_wp2; go_ret; exact ⟨rfl, Lib.below_freeze (Below.drew (Below.refl B w)) (p := ⟨g, 0, none⟩) hbg _⟩)
set_option maxRecDepth 100000 in
set_option maxHeartbeats 4000000 in
theorem wout_nil (B r : Nat) (w : World) (h : WB w B r []) : Calls Tryd.prog 30 #[.pointer (some ⟨r, 0, none⟩)] w fun e w' => e = .returned (.string ⟨#[]⟩) ∧ Below B w w' := by
  obtain ⟨hB, p, v, hp, hbk, hown, hv⟩ := h
  obtain rfl := hv rfl
  have c1 : w.drew.cell? ⟨r, 1, none⟩ = some (.slice none 0 0) := (blk (show w.drew.heap[r]? = _ from hbk)).2.1 1 _ rfl
  have hSD : (Builtin.unsafeSliceData_ #[66] 120 #[.slice none 0 0]).run Tryd.prog w.drew = .ok (.pointer none) w.drew := rfl
  have hUS : (Builtin.unsafeString_ #[120, 3] 9 #[.pointer none, .int .i64 0]).run Tryd.prog w.drew = .ok (.string ⟨#[]⟩) w.drew := rfl
  have mixed : Tryd.prog.follows Departure.mixedOrders = true := by kernel_rfl
  clear hown hbk hp
  go_enter Tryd.func30, Tryd.ntmps30
  go_wp2
  go_region_o
  all_goals (go_wp2; go_ret; exact ⟨rfl, Below.drew (Below.refl B w)⟩)
theorem wout_all (B r : Nat) (l : List UInt8) (w : World) (h : WB w B r l) : Calls Tryd.prog 30 #[.pointer (some ⟨r, 0, none⟩)] w fun e w' => e = .returned (.string ⟨l.toArray⟩) ∧ Below B w w' := by
  by_cases h0 : l = []
  · subst h0
    exact wout_nil B r w h
  · exact wout_any B r l w h h0
end Go.Proofs.YtegmckpcchhmdaaDoor
