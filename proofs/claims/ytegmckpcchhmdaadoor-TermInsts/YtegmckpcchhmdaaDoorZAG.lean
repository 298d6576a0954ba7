/- The sort of a node; of a variable. -/
import Derived.Test.YtegmckpcchhmdaaDoorZAF
set_option linter.unusedVariables false
set_option linter.unusedSimpArgs false

/- Shapes. -/
namespace Go.Proofs.YtegmckpcchhmdaaDoor
open Go Go.RowKit
/-- What package num says of a text: whether it is a number's. -/
def PC (rt : ByteArray → Bool) (s : ByteArray) : Prop := ∀ w : World, Calls Tryd.prog 69 #[.string s] w fun e w' => ∃ (z : Int) (q : Option Addr) (m c : Nat), e = .returned (.tuple #[.agg #[.int .i64 z, .slice q m c], .bool (rt s)]) ∧ Below w.heap.size w w'
theorem beq0 (n : Nat) : (((n : Int)) == 0) = (n == 0) := by
  by_cases h : n = 0
  · simp [h]
  · rw [beq_eq_false_iff_ne.2 h, beq_eq_false_iff_ne.2 (by omega)]
theorem beq1 (n : Nat) : (((n : Int)) == 1) = (n == 1) := by
  by_cases h : n = 1
  · simp [h]
  · rw [beq_eq_false_iff_ne.2 h, beq_eq_false_iff_ne.2 (by omega)]
set_option maxRecDepth 1000000 in
set_option maxHeartbeats 16000000 in
theorem shape_num {w : World} {b o n c : Nat} {a : Option Addr} {num : ByteArray} {rt : ByteArray → Bool} (hb : b < w.heap.size) (c3 : w.cell? ⟨b, o + 3, none⟩ = some (.string num)) (c4 : w.cell? ⟨b, o + 4, none⟩ = some (.slice a n c)) (hP : PC rt num) :
    Calls Tryd.prog 58 #[.iface 108 (.agg #[.pointer (some ⟨b, o, none⟩)])] w (VPost (.bool (rt num && n == 0)) w) := by
  have ta0 := fun w => ta_yes (ty := 108) (v := .agg #[.pointer (some ⟨b, o, none⟩)]) (w := w) rfl rfl
  obtain ⟨V, eV, hbV, hsV, hcV, hhV⟩ := box_new w #[.pointer (some ⟨b, o, none⟩)] 108
  have v0 : V.cell? ⟨w.heap.size, 0, none⟩ = some (.pointer (some ⟨b, o, none⟩)) := hcV 0 _ rfl
  have d3 : V.cell? ⟨b, o + 3, none⟩ = some (.string num) := (hbV.cell (p := ⟨b, o + 3, none⟩) hb).trans c3
  have HP := hide (hP V)
  have HV := hide (And.intro hbV (And.intro hhV (And.intro c4 hsV)))
  clear hcV hbV hhV hP c3 c4 hsV
  go_enter Tryd.func58, Tryd.ntmps58
  go_wp2_with fail
  refine (unhide HP).mono ?_
  rintro e w2 ⟨z, q, m, cq, rfl, hb2⟩
  obtain ⟨hbV, hhV, c4, hsV⟩ := unhide HV
  have hb02 : Below w.heap.size w w2 := hbV.trans (hb2.mono hbV.size)
  have hh2 := (hb2.block w.heap.size (by omega)).trans hhV
  have g0 : w2.cell? ⟨w.heap.size, 0, none⟩ = some (.pointer (some ⟨b, o, none⟩)) := (blk hh2).2.1 0 _ rfl
  have d4 : w2.cell? ⟨b, o + 4, none⟩ = some (.slice a n c) := (hb02.cell (p := ⟨b, o + 4, none⟩) hb).trans c4
  have hlt2 : w.heap.size < w2.heap.size := (blk hh2).1
  have hb2' : b < w2.heap.size := by omega
  have HB := hide hb02
  have hq0 := beq0 n
  clear hb2 hbV hhV c4 hsV hb02 hh2 eV v0 d3
  cases hr : rt num with
  | true =>
    have HR := hide hr
    clear hr
    go_wp2
    go_ret
    exact ⟨by rw [unhide HR]; rfl, (unhide HB).alloc (unhide HB).size _⟩
  | false =>
    have HR := hide hr
    clear hr
    go_wp2
    go_ret
    exact ⟨by rw [unhide HR]; rfl, (unhide HB).alloc (unhide HB).size _⟩
set_option maxRecDepth 1000000 in
set_option maxHeartbeats 16000000 in
theorem shape_truth {w : World} {b o n c : Nat} {a : Option Addr} (hb : b < w.heap.size) (c4 : w.cell? ⟨b, o + 4, none⟩ = some (.slice a n c)) :
    Calls Tryd.prog 58 #[.iface 132 (.agg #[.pointer (some ⟨b, o, none⟩)])] w (VPost (.bool (n == 0)) w) := by
  have ta0 := fun w => ta_no (k := 132) (ty := 108) (v := .agg #[.pointer (some ⟨b, o, none⟩)]) (z := .agg #[.pointer none]) (w := w) (by decide) rfl rfl (by go_simp)
  have ta1 := fun w => ta_yes (ty := 132) (v := .agg #[.pointer (some ⟨b, o, none⟩)]) (w := w) rfl rfl
  have hq0 := beq0 n
  go_enter Tryd.func58, Tryd.ntmps58
  go_wp2
  go_ret
  exact ⟨rfl, ((Below.refl _ w).alloc (Nat.le_refl _) _).alloc (by simp) _⟩
set_option maxRecDepth 1000000 in
set_option maxHeartbeats 16000000 in
theorem shape_operation {w : World} {b o n c : Nat} {a : Option Addr} {op h : Int} (hb : b < w.heap.size) (h0 : 0 < w.heap.size) (hR : RL w) (c0 : w.cell? ⟨b, o, none⟩ = some (.int .i64 op)) (c4 : w.cell? ⟨b, o + 4, none⟩ = some (.slice a n c)) (hop : 4 ≤ op ∧ op ≤ 16)
    (hh : n ≠ 0 → ∃ b' o', a = some ⟨b', o', none⟩ ∧ b' < w.heap.size ∧ w.cell? ⟨b', o', none⟩ = some (.int .i64 h)) (hnm : n ≤ 281474976710656) :
    Calls Tryd.prog 58 #[.iface 133 (.agg #[.pointer (some ⟨b, o, none⟩)])] w (VPost (.bool (operandsB op n h)) w) := by
  have ta0 := fun w => ta_no (k := 133) (ty := 108) (v := .agg #[.pointer (some ⟨b, o, none⟩)]) (z := .agg #[.pointer none]) (w := w) (by decide) rfl rfl (by go_simp)
  have ta1 := fun w => ta_no (k := 133) (ty := 132) (v := .agg #[.pointer (some ⟨b, o, none⟩)]) (z := .agg #[.pointer none]) (w := w) (by decide) rfl rfl (by go_simp)
  have ta2 := fun w => ta_yes (ty := 133) (v := .agg #[.pointer (some ⟨b, o, none⟩)]) (w := w) rfl rfl
  have HH := hide (fun (W : World) (hW : Below w.heap.size w W) => hasOperands_any (w := W) (h := h) (Nat.lt_of_lt_of_le hb hW.size) (Nat.lt_of_lt_of_le h0 hW.size) (hR.below hW h0) ((hW.cell (p := ⟨b, o, none⟩) hb).trans c0) ((hW.cell (p := ⟨b, o + 4, none⟩) hb).trans c4) hop (fun hn => by
    obtain ⟨b', o', e1, e2, e3⟩ := hh hn
    exact ⟨b', o', e1, Nat.lt_of_lt_of_le e2 hW.size, (hW.cell (p := ⟨b', o', none⟩) e2).trans e3⟩) hnm)
  clear hR c0 c4 hop hh hnm
  go_enter Tryd.func58, Tryd.ntmps58
  go_wp2_with fail
  refine (unhide HH _ (three (Below.refl _ w) (Nat.le_refl _) _ _ _)).mono ?_
  rintro e w2 ⟨rfl, hb2⟩
  have HB := hide (show Below w.heap.size w w2 from (three (Below.refl _ w) (Nat.le_refl _) _ _ _).trans (hb2.mono (by simp; omega)))
  clear hb2
  go_wp2
  go_ret
  exact ⟨rfl, unhide HB⟩
set_option maxRecDepth 1000000 in
set_option maxHeartbeats 16000000 in
theorem shape_variable {w : World} {b o n c : Nat} {a : Option Addr} {name : ByteArray} (hb : b < w.heap.size) (c1 : w.cell? ⟨b, o + 1, none⟩ = some (.string name)) (c4 : w.cell? ⟨b, o + 4, none⟩ = some (.slice a n c)) (hs : name.size ≤ 9223372036854775807) :
    Calls Tryd.prog 58 #[.iface 101 (.agg #[.pointer (some ⟨b, o, none⟩)])] w (VPost (.bool (wordB name && n == 0)) w) := by
  have ta0 := fun w => ta_no (k := 101) (ty := 108) (v := .agg #[.pointer (some ⟨b, o, none⟩)]) (z := .agg #[.pointer none]) (w := w) (by decide) rfl rfl (by go_simp)
  have ta1 := fun w => ta_no (k := 101) (ty := 132) (v := .agg #[.pointer (some ⟨b, o, none⟩)]) (z := .agg #[.pointer none]) (w := w) (by decide) rfl rfl (by go_simp)
  have ta2 := fun w => ta_no (k := 101) (ty := 133) (v := .agg #[.pointer (some ⟨b, o, none⟩)]) (z := .agg #[.pointer none]) (w := w) (by decide) rfl rfl (by go_simp)
  have ta3 := fun w => ta_yes (ty := 101) (v := .agg #[.pointer (some ⟨b, o, none⟩)]) (w := w) rfl rfl
  have e1 := a4 hb c1
  have HW := hide (fun W : World => isWord_b name W hs)
  have H4 := hide (fun (W : World) (hW : Below w.heap.size w W) => (hW.cell (p := ⟨b, o + 4, none⟩) hb).trans c4)
  have hq0 := beq0 n
  clear c4 hs c1
  go_enter Tryd.func58, Tryd.ntmps58
  go_wp2_with fail
  obtain ⟨V, eV, hbV, hqV, hsV⟩ : ∃ V, ((((w.alloc (.cells #[.pointer none] 108)).alloc (.cells #[.pointer none] 132)).alloc (.cells #[.pointer none] 133)).alloc (.cells #[.pointer (some ⟨b, o, none⟩)] 101)) = V ∧ Below w.heap.size w V ∧ V.heap[w.heap.size + 1 + 1 + 1]? = some (.cells #[.pointer (some ⟨b, o, none⟩)] 101) ∧ V.heap.size = w.heap.size + 4 := by
    refine ⟨_, rfl, four (Below.refl _ w) (Nat.le_refl _) _ _ _ _, ?_, by simp⟩
    have h := fun o1 o2 o3 : Obj => new_block (((w.alloc o1).alloc o2).alloc o3) #[.pointer (some ⟨b, o, none⟩)] 101
    simp only [asize] at h
    exact h _ _ _
  rw [eV]
  refine (unhide HW V).mono ?_
  rintro e w2 ⟨rfl, hb2⟩
  have hb02 : Below w.heap.size w w2 := hbV.trans (hb2.mono hbV.size)
  have d4 := unhide H4 w2 hb02
  have g0 : w2.cell? ⟨w.heap.size + 1 + 1 + 1, 0, none⟩ = some (.pointer (some ⟨b, o, none⟩)) := (blk ((hb2.block _ (by omega)).trans hqV)).2.1 0 _ rfl
  have HB := hide hb02
  clear eV hbV hqV hsV hb2 hb02 e1
  cases hw1 : wordB name with
  | true =>
    have HR := hide hw1
    clear hw1
    go_wp2
    go_ret
    exact ⟨by rw [unhide HR]; rfl, unhide HB⟩
  | false =>
    have HR := hide hw1
    clear hw1
    go_wp2
    go_ret
    exact ⟨by rw [unhide HR]; rfl, unhide HB⟩
theorem five {w w2 : World} {q : Nat} (h : Below q w w2) (hq : q ≤ w2.heap.size) (a b c d e : Obj) : Below q w (((((w2.alloc a).alloc b).alloc c).alloc d).alloc e) :=
  (four h hq a b c d).alloc (by simp; omega) e
theorem a5 {w : World} {b o : Nat} {v : Value} (hb : b < w.heap.size) (h : w.cell? ⟨b, o, none⟩ = some v) (x y z u s : Obj) : (((((w.alloc x).alloc y).alloc z).alloc u).alloc s).cell? ⟨b, o, none⟩ = some v := ((five (Below.refl _ w) (Nat.le_refl _) x y z u s).cell (p := ⟨b, o, none⟩) hb).trans h
set_option maxRecDepth 1000000 in
set_option maxHeartbeats 16000000 in
theorem shape_all {w : World} {b o n c np cP nv cV : Nat} {a aP aV : Option Addr} {vars : List (ByteArray × Int)} (hb : b < w.heap.size) (c4 : w.cell? ⟨b, o + 4, none⟩ = some (.slice a n c)) (c5 : w.cell? ⟨b, o + 5, none⟩ = some (.slice aV nv cV)) (c6 : w.cell? ⟨b, o + 6, none⟩ = some (.slice aP np cP))
    (hV : ∀ W, Below w.heap.size w W → Calls Tryd.prog 71 #[.slice aV nv cV] W (VPost (.bool (bindersB vars)) W)) :
    Calls Tryd.prog 58 #[.iface 82 (.agg #[.pointer (some ⟨b, o, none⟩)])] w (VPost (.bool ((n == 1 && decide (0 < np)) && bindersB vars)) w) := by
  have ta0 := fun w => ta_no (k := 82) (ty := 108) (v := .agg #[.pointer (some ⟨b, o, none⟩)]) (z := .agg #[.pointer none]) (w := w) (by decide) rfl rfl (by go_simp)
  have ta1 := fun w => ta_no (k := 82) (ty := 132) (v := .agg #[.pointer (some ⟨b, o, none⟩)]) (z := .agg #[.pointer none]) (w := w) (by decide) rfl rfl (by go_simp)
  have ta2 := fun w => ta_no (k := 82) (ty := 133) (v := .agg #[.pointer (some ⟨b, o, none⟩)]) (z := .agg #[.pointer none]) (w := w) (by decide) rfl rfl (by go_simp)
  have ta3 := fun w => ta_no (k := 82) (ty := 101) (v := .agg #[.pointer (some ⟨b, o, none⟩)]) (z := .agg #[.pointer none]) (w := w) (by decide) rfl rfl (by go_simp)
  have ta4 := fun w => ta_yes (ty := 82) (v := .agg #[.pointer (some ⟨b, o, none⟩)]) (w := w) rfl rfl
  have e4 := a5 hb c4
  have e5 := a5 hb c5
  have e6 := a5 hb c6
  have HV := hide hV
  clear hV c4 c5 c6
  have hq1 := beq1 n
  cases h1 : (n == 1) with
  | false =>
    rw [h1] at hq1
    clear h1
    go_enter Tryd.func58, Tryd.ntmps58
    go_wp2
    go_ret
    exact ⟨rfl, five (Below.refl _ w) (Nat.le_refl _) _ _ _ _ _⟩
  | true =>
    rw [h1] at hq1
    clear h1
    cases h2 : decide (0 < np) with
    | false =>
      have H2 := hide h2
      go_enter Tryd.func58, Tryd.ntmps58
      go_wp2
      go_ret
      exact ⟨rfl, five (Below.refl _ w) (Nat.le_refl _) _ _ _ _ _⟩
    | true =>
      have hposN : 0 < np := by simpa using h2
      clear h2
      go_enter Tryd.func58, Tryd.ntmps58
      go_wp2_with fail
      refine (unhide HV _ (five (Below.refl _ w) (Nat.le_refl _) _ _ _ _ _)).mono ?_
      rintro e w2 ⟨rfl, hb2⟩
      have HB := hide (show Below w.heap.size w w2 from (five (Below.refl _ w) (Nat.le_refl _) _ _ _ _ _).trans (hb2.mono (by simp; omega)))
      clear hb2 e4 e5 e6
      go_wp2
      go_ret
      exact ⟨rfl, unhide HB⟩
set_option maxRecDepth 1000000 in
set_option maxHeartbeats 16000000 in
theorem shape_stranger {w : World} {b o : Nat} : Calls Tryd.prog 58 #[.iface 135 (.agg #[.pointer (some ⟨b, o, none⟩)])] w (VPost (.bool false) w) := by
  have ta0 := fun w => ta_no (k := 135) (ty := 108) (v := .agg #[.pointer (some ⟨b, o, none⟩)]) (z := .agg #[.pointer none]) (w := w) (by decide) rfl rfl (by go_simp)
  have ta1 := fun w => ta_no (k := 135) (ty := 132) (v := .agg #[.pointer (some ⟨b, o, none⟩)]) (z := .agg #[.pointer none]) (w := w) (by decide) rfl rfl (by go_simp)
  have ta2 := fun w => ta_no (k := 135) (ty := 133) (v := .agg #[.pointer (some ⟨b, o, none⟩)]) (z := .agg #[.pointer none]) (w := w) (by decide) rfl rfl (by go_simp)
  have ta3 := fun w => ta_no (k := 135) (ty := 101) (v := .agg #[.pointer (some ⟨b, o, none⟩)]) (z := .agg #[.pointer none]) (w := w) (by decide) rfl rfl (by go_simp)
  have ta4 := fun w => ta_no (k := 135) (ty := 82) (v := .agg #[.pointer (some ⟨b, o, none⟩)]) (z := .agg #[.pointer none]) (w := w) (by decide) rfl rfl (by go_simp)
  go_enter Tryd.func58, Tryd.ntmps58
  go_wp2
  go_ret
  exact ⟨rfl, five (Below.refl _ w) (Nat.le_refl _) _ _ _ _ _⟩
end Go.Proofs.YtegmckpcchhmdaaDoor

/- The shape of an application; of any node. -/
namespace Go.Proofs.YtegmckpcchhmdaaDoor
open Go Go.RowKit
/-- What the map of functions answers. -/
def funV (w : World) (B : Nat) (sig : List Fn) (name : ByteArray) (v : Value) : Prop := (findF name sig = none ∧ v = zeroFun) ∨ ∃ f, findF name sig = some f ∧ FnV w B v f
theorem FM.asked {w : World} {B rf : Nat} {sig : List Fn} (h : FM w B rf sig) (name : ByteArray) : ∃ v, funV w B sig name v ∧ (Instr.lookup 95 (.map (some rf)) (.string name) true).run Tryd.prog w = .ok (.tuple #[v, .bool (findF name sig).isSome]) w ∧ (Instr.lookup 95 (.map (some rf)) (.string name) false).run Tryd.prog w = .ok v w := by
  obtain ⟨es, h1, h2⟩ := h
  have hl := nm_lookup (k := name) umF ukS (zF w) h1
  rcases h2 name with ⟨e1, e2⟩ | ⟨f, v, e1, e2, e3⟩
  · rw [e2] at hl
    exact ⟨zeroFun, .inl ⟨e1, rfl⟩, by rw [e1]; exact hl.1, hl.2⟩
  · rw [e2] at hl
    exact ⟨v, .inr ⟨f, e1, e3⟩, by rw [e1]; exact hl.1, hl.2⟩
theorem funV.form {w : World} {B : Nat} {sig : List Fn} {name : ByteArray} {v : Value} (h : funV w B sig name v) : ∃ fn fa fl fc fo, v = .agg #[.string fn, .slice fa fl fc, .int .i64 fo] ∧ ∀ f, findF name sig = some f → fl = f.args.length := by
  rcases h with ⟨e1, rfl⟩ | ⟨f, e1, a, c, rfl, _, _⟩
  · exact ⟨_, _, _, _, _, rfl, fun f e => by rw [e1] at e; cases e⟩
  · exact ⟨_, _, _, _, _, rfl, fun g e => by rw [e1] at e; cases e; rfl⟩
set_option maxRecDepth 1000000 in
set_option maxHeartbeats 16000000 in
theorem appShape_any {w : World} {B r rf rb b o n c : Nat} {a : Option Addr} {name : ByteArray} {sig : List Fn} {env : ByteArray → List Int} (hK : KS w B r rf rb sig env) (hb : b < w.heap.size) (c1 : w.cell? ⟨b, o + 1, none⟩ = some (.string name)) (c4 : w.cell? ⟨b, o + 4, none⟩ = some (.slice a n c)) (hs : name.size ≤ 9223372036854775807) :
    Calls Tryd.prog 57 #[.pointer (some ⟨r, 0, none⟩), .agg #[.pointer (some ⟨b, o, none⟩)]] w (VPost (.int .i64 (appE sig name n)) w) := by
  have HK := hide hK
  have hrw := hK.r_lt
  obtain ⟨V, eV, hbV, hsV, hcV, hhV⟩ := box_new w #[.pointer (some ⟨b, o, none⟩)] 134
  have v0 : V.cell? ⟨w.heap.size, 0, none⟩ = some (.pointer (some ⟨b, o, none⟩)) := hcV 0 _ rfl
  have d1 : V.cell? ⟨b, o + 1, none⟩ = some (.string name) := (hbV.cell (p := ⟨b, o + 1, none⟩) hb).trans c1
  have HW := hide (isWord_b name V hs)
  have HV := hide (And.intro hbV (And.intro hhV (And.intro c1 (And.intro c4 hsV))))
  clear hcV hbV hhV hsV c1 c4 hs hK
  cases hw1 : wordB name with
  | false =>
    have HR := hide hw1
    rw [hw1] at HW
    clear hw1
    go_enter Tryd.func57, Tryd.ntmps57
    go_wp2_with fail
    refine (unhide HW).mono ?_
    rintro e w2 ⟨rfl, hb2⟩
    have HB := hide (show Below w.heap.size w w2 from (unhide HV).1.trans (hb2.mono (unhide HV).1.size))
    clear hb2
    go_wp2
    go_ret
    refine ⟨?_, unhide HB⟩
    unfold appE
    rw [unhide HR]
    rfl
  | true =>
    have HR := hide hw1
    rw [hw1] at HW
    clear hw1
    go_enter Tryd.func57, Tryd.ntmps57
    go_wp2_with fail
    refine (unhide HW).mono ?_
    rintro e W ⟨rfl, hb2⟩
    obtain ⟨hbV, hhV, c1, c4, hsV⟩ := unhide HV
    have hbW : Below w.heap.size w W := hbV.trans (hb2.mono hbV.size)
    have hhW := (hb2.block w.heap.size (by omega)).trans hhV
    have hKW : KS W B r rf rb sig env := (unhide HK).below hbW (Nat.le_refl _)
    have hqlt : w.heap.size < W.heap.size := (blk hhW).1
    obtain ⟨v, hv, hlk, _⟩ := hKW.fm.asked name
    obtain ⟨fn, fa, fl, fc, fo, rfl, hfl⟩ := hv.form
    have HSS : Hid (∀ w', Below W.heap.size W w' → (Below W.heap.size W w' ∧ w'.cell? ⟨r, 0, none⟩ = some (.map (some rf)) ∧ w'.cell? ⟨w.heap.size, 0, none⟩ = some (.pointer (some ⟨b, o, none⟩)) ∧ w'.cell? ⟨b, o + 1, none⟩ = some (.string name) ∧ (Instr.lookup 95 (.map (some rf)) (.string name) true).run Tryd.prog w' = .ok (.tuple #[.agg #[.string fn, .slice fa fl fc, .int .i64 fo], .bool (findF name sig).isSome]) w')) := fun w' h => by
      refine ⟨h, (hKW.below h (Nat.le_refl _)).cells.1, (h.cell (p := ⟨w.heap.size, 0, none⟩) hqlt).trans ((blk hhW).2.1 0 _ rfl), ((hbW.trans (h.mono hbW.size)).cell (p := ⟨b, o + 1, none⟩) hb).trans c1, ?_⟩
      obtain ⟨es, h1, h2⟩ := hKW.fm
      have hl := nm_lookup (k := name) umF ukS (zF w') (h1.below h h1.lt)
      have hl0 := nm_lookup (k := name) umF ukS (zF W) h1
      rw [hl0.1] at hlk
      injection hlk with e
      rw [hl.1, e]
    have HB := hide hbW
    have HI := hide (And.intro hhW (And.intro c4 (And.intro hfl hb)))
    obtain ⟨_, m0, q0, n0, hlkW⟩ := unhide HSS W (Below.refl _ W)
    clear hb2 hbV hhV c1 c4 hsV hbW hhW hKW hv hlk hfl v0 d1 eV hlkW
    cases hf : (findF name sig) with
    | none =>
      have HF := hide hf
      rw [hf] at HSS
      simp only [Option.isSome_none] at HSS
      clear hf
      go_wp2
      go_region_held3 (fun w' => Below W.heap.size W w' ∧ w'.cell? ⟨r, 0, none⟩ = some (.map (some rf)) ∧ w'.cell? ⟨w.heap.size, 0, none⟩ = some (.pointer (some ⟨b, o, none⟩)) ∧ w'.cell? ⟨b, o + 1, none⟩ = some (.string name) ∧ (Instr.lookup 95 (.map (some rf)) (.string name) true).run Tryd.prog w' = .ok (.tuple #[.agg #[.string fn, .slice fa fl fc, .int .i64 fo], .bool false]) w') (first | assumption | exact unhide HSS _ (keep0 _) | exact unhide HSS _ (keepA (by assumption) _) | exact unhide HSS _ ((keep0 _).alloc (keep0 _).size _)) (fail)
      all_goals
        go_wp2
        go_ret
        refine ⟨?_, ((unhide HB).alloc (unhide HB).size _).drew⟩
        unfold appE
        rw [unhide HR, unhide HF]
        rfl
    | some f =>
      have HF := hide hf
      rw [hf] at HSS
      simp only [Option.isSome_some] at HSS
      clear hf
      go_wp2
      go_region_held3 (fun w' => Below W.heap.size W w' ∧ w'.cell? ⟨r, 0, none⟩ = some (.map (some rf)) ∧ w'.cell? ⟨w.heap.size, 0, none⟩ = some (.pointer (some ⟨b, o, none⟩)) ∧ w'.cell? ⟨b, o + 1, none⟩ = some (.string name) ∧ (Instr.lookup 95 (.map (some rf)) (.string name) true).run Tryd.prog w' = .ok (.tuple #[.agg #[.string fn, .slice fa fl fc, .int .i64 fo], .bool true]) w') (first | assumption | exact unhide HSS _ (keep0 _) | exact unhide HSS _ (keepA (by assumption) _) | exact unhide HSS _ ((keep0 _).alloc (keep0 _).size _)) (fail)
      all_goals
        obtain ⟨U, eU, hbU, hU1⟩ : ∃ U, (W.alloc (.cells #[.string fn, .slice fa fl fc, .int .i64 fo] 41)).drew = U ∧ Below W.heap.size W U ∧ U.heap[W.heap.size]? = some (.cells #[.string fn, .slice fa fl fc, .int .i64 fo] 41) := ⟨_, rfl, ((Below.refl _ W).alloc (Nat.le_refl _) _).drew, new_block W _ _⟩
        rw [eU]
        obtain ⟨hhW, c4, hfl, hb⟩ := unhide HI
        have u1 : U.cell? ⟨W.heap.size, 1, none⟩ = some (.slice fa fl fc) := (blk hU1).2.1 1 _ rfl
        have hbwU : Below w.heap.size w U := (unhide HB).trans (hbU.mono (unhide HB).size)
        have u4 : U.cell? ⟨b, o + 4, none⟩ = some (.slice a n c) := (hbwU.cell (p := ⟨b, o + 4, none⟩) hb).trans c4
        have u0 : U.cell? ⟨w.heap.size, 0, none⟩ = some (.pointer (some ⟨b, o, none⟩)) := (hbU.cell (p := ⟨w.heap.size, 0, none⟩) hqlt).trans ((blk hhW).2.1 0 _ rfl)
        have hfl2 := hfl f (unhide HF)
        have HBU := hide hbwU
        have HFL := hide hfl2
        clear eU hbU hU1 hhW c4 hfl hb hbwU hfl2 HSS m0 q0 n0
        by_cases hn : n = fl
        · have en : ((n : Int) != (fl : Int)) = false := by simp; omega
          have HN := hide hn
          clear hn
          go_wp2
          go_quiet (fail)
          go_wp2
          go_ret
          refine ⟨?_, below_drewN (unhide HBU) _⟩
          unfold appE
          rw [unhide HR, unhide HF]
          simp only [if_true]
          rw [if_pos (by rw [unhide HN]; exact unhide HFL)]
          rfl
        · have en : ((n : Int) != (fl : Int)) = true := by simp; omega
          have HN := hide hn
          clear hn
          go_wp2
          go_quiet (fail)
          go_wp2
          go_ret
          refine ⟨?_, below_drewN (unhide HBU) _⟩
          unfold appE
          rw [unhide HR, unhide HF]
          simp only [if_true]
          rw [if_neg (by rw [← unhide HFL]; exact unhide HN)]
          rfl
theorem TmAt.first {w : World} {B d : Nat} {a : Option Addr} {n c : Nat} {l : List Tm} (h : Row B a n c 7 (TR w B d l)) (hn : n = l.length) (hB : B ≤ w.heap.size) : n ≠ 0 → ∃ b' o', a = some ⟨b', o', none⟩ ∧ b' < w.heap.size ∧ w.cell? ⟨b', o', none⟩ = some (.int .i64 (headOp l)) := by
  intro h0
  obtain ⟨b, off, e, hb, hj⟩ := h.2.2 h0
  cases l with
  | nil => exact absurd hn h0
  | cons u l =>
    have h1 := hj 0 (by omega) u rfl
    cases d with
    | zero => exact h1.elim
    | succ d =>
      obtain ⟨_, _, _, aL, aV, aP, cL, cV, cP, hr, _⟩ := h1
      have := hr 0 _ rfl
      simp only [Nat.zero_mul, Nat.add_zero] at this
      exact ⟨b, off, e, by omega, this⟩
/-- What is asked of a term's texts: names that may be read, and what package num says of its numbers. -/
def OkT (P : ByteArray → Prop) : Nat → Tm → Prop
  | 0, _ => False
  | e + 1, t => (t.op = 1 → P t.num) ∧ t.name.size ≤ 9223372036854775807 ∧ (∀ v ∈ t.vars, v.1.size ≤ 9223372036854775807) ∧ t.size ≤ 65536 ∧ t.depth ≤ 65537 ∧ (∀ u ∈ t.l, OkT P e u) ∧ ∀ u ∈ t.pat, OkT P e u
set_option maxRecDepth 1000000 in
set_option maxHeartbeats 16000000 in
theorem shape_any {rt : ByteArray → Bool} {w : World} {B r rf rb d e b o : Nat} {t : Tm} {sig : List Fn} {env : ByteArray → List Int} (hK : KS w B r rf rb sig env) (hT : TmAt w B d b o t) (hO : OkT (PC rt) e t) (hR : RL w) :
    Calls Tryd.prog 37 #[.pointer (some ⟨r, 0, none⟩), .iface (kindOf t.op) (.agg #[.pointer (some ⟨b, o, none⟩)])] w (VPost (.int .i64 (shapeE rt sig t.op t.name t.num t.l.length (headOp t.l) t.vars t.pat.length)) w) := by
  cases d with
  | zero => exact hT.elim
  | succ d =>
  cases e with
  | zero => exact hO.elim
  | succ e =>
  obtain ⟨hO1, hO2, hO3, _⟩ := hO
  have hBw : B ≤ w.heap.size := by have := hK.r_lt; have := hK.hr; omega
  obtain ⟨hb, _, _, aL, aV, aP, cL, cV, cP, hrg, hL, hV, hP, _⟩ := hT
  have hbw : b < w.heap.size := by omega
  have h0 : 0 < w.heap.size := by omega
  have hLm : t.l.length ≤ 281474976710656 := by have := hL.1; have := hL.2.1; omega
  have hB0 : 0 < B := by omega
  have HG := fun W (h : Below w.heap.size w W) j v hv => (h.cell (p := ⟨b, o + j, none⟩) hbw).trans (hrg j v hv)
  by_cases h17 : t.op = 17
  · have hkk : kindOf t.op = 134 := by rw [h17]; rfl
    rw [hkk]
    have hE : shapeE rt sig t.op t.name t.num t.l.length (headOp t.l) t.vars t.pat.length = appE sig t.name t.l.length := by unfold shapeE; rw [if_pos h17]
    rw [hE]
    have HA := hide (fun W (h : Below w.heap.size w W) => appShape_any (hK.below h (Nat.le_refl _)) (Nat.lt_of_lt_of_le hbw h.size) (HG W h 1 _ rfl) (HG W h 4 _ rfl) hO2)
    have ta0 := fun w => ta_yes (ty := 134) (v := .agg #[.pointer (some ⟨b, o, none⟩)]) (w := w) rfl rfl
    clear hK hO1 hO2 hO3 hR hrg hL hV hP HG hE hkk h17
    go_enter Tryd.func37, Tryd.ntmps37
    go_wp2_with fail
    refine (unhide HA _ ((Below.refl _ w).alloc (Nat.le_refl _) _)).mono ?_
    rintro e w2 ⟨rfl, hb2⟩
    have HB := hide (show Below w.heap.size w w2 from ((Below.refl _ w).alloc (Nat.le_refl _) _).trans (hb2.mono (by simp)))
    clear hb2
    go_wp2
    go_ret
    exact ⟨rfl, unhide HB⟩
  · have hE : shapeE rt sig t.op t.name t.num t.l.length (headOp t.l) t.vars t.pat.length = if shapeB rt t.op t.name t.num t.l.length (headOp t.l) t.vars t.pat.length then 0 else 30 := by unfold shapeE; rw [if_neg h17]
    rw [hE]
    have hk17 : kindOf t.op ≠ 134 := by
      rcases op_kind (op := t.op) with ⟨h, e⟩ | ⟨h, e⟩ | ⟨h, e⟩ | ⟨h, e⟩ | ⟨h, e⟩ | ⟨h, e⟩ | ⟨h, e⟩ <;> first | exact absurd h h17 | (rw [e]; decide)
    have HS : Hid (∀ W, Below w.heap.size w W → Calls Tryd.prog 58 #[.iface (kindOf t.op) (.agg #[.pointer (some ⟨b, o, none⟩)])] W (VPost (.bool (shapeB rt t.op t.name t.num t.l.length (headOp t.l) t.vars t.pat.length)) W)) := fun W h => by
      have hW := Nat.lt_of_lt_of_le hbw h.size
      unfold shapeB
      rcases op_kind (op := t.op) with ⟨h', e⟩ | ⟨h', e⟩ | ⟨h', e⟩ | ⟨h', e⟩ | ⟨h', e⟩ | ⟨h', e⟩ | ⟨h', e⟩
      · rw [e, if_pos h']; exact shape_num hW (HG W h 3 _ rfl) (HG W h 4 _ rfl) (hO1 h')
      · rw [e, if_neg (by omega), if_pos h']; exact shape_truth hW (HG W h 4 _ rfl)
      · rw [e, if_neg (by omega), if_neg (by omega), if_pos h']
        exact shape_operation hW (Nat.lt_of_lt_of_le h0 h.size) (hR.below h h0) (HG W h 0 _ rfl) (HG W h 4 _ rfl) h' (TmAt.first (hL.below (h.mono hBw)) rfl (Nat.le_trans hBw h.size)) hLm
      · exact absurd h' h17
      · rw [e, if_neg (by omega), if_neg (by omega), if_neg (by omega), if_pos h']; exact shape_variable hW (HG W h 1 _ rfl) (HG W h 4 _ rfl) hO2
      · rw [e, if_neg (by omega), if_neg (by omega), if_neg (by omega), if_neg (by omega), if_pos h']
        exact shape_all hW (HG W h 4 _ rfl) (HG W h 5 _ rfl) (HG W h 6 _ rfl) fun U hU => areBinders_any B U aV t.vars.length cV t.vars (hV.mono (Nat.le_refl _) fun b o j hb hj x hx => ⟨rangeAt_below (hj x hx).1 hb ((h.mono hBw).trans (hU.mono (Nat.le_trans hBw h.size))), (hj x hx).2⟩) rfl (Nat.le_trans hBw (Nat.le_trans h.size hU.size)) hO3
      · rw [e, if_neg (by omega), if_neg (by omega), if_neg (by omega), if_neg (by omega), if_neg (by omega)]; exact shape_stranger
    clear hK hO1 hO2 hO3 hR hrg hL hV hP HG hE h17
    generalize kindOf t.op = kk at *
    generalize shapeB rt t.op t.name t.num t.l.length (headOp t.l) t.vars t.pat.length = sb at *
    have ta0 := fun w => ta_no (ty := 134) (v := .agg #[.pointer (some ⟨b, o, none⟩)]) (z := .agg #[.pointer none]) (w := w) hk17 rfl rfl (by go_simp)
    cases sb with
    | true =>
      go_enter Tryd.func37, Tryd.ntmps37
      go_wp2_with fail
      refine (unhide HS _ ((Below.refl _ w).alloc (Nat.le_refl _) _)).mono ?_
      rintro e w2 ⟨rfl, hb2⟩
      have HB := hide (show Below w.heap.size w w2 from ((Below.refl _ w).alloc (Nat.le_refl _) _).trans (hb2.mono (by simp)))
      clear hb2
      go_wp2
      go_ret
      exact ⟨rfl, unhide HB⟩
    | false =>
      go_enter Tryd.func37, Tryd.ntmps37
      go_wp2_with fail
      refine (unhide HS _ ((Below.refl _ w).alloc (Nat.le_refl _) _)).mono ?_
      rintro e w2 ⟨rfl, hb2⟩
      have HB := hide (show Below w.heap.size w w2 from ((Below.refl _ w).alloc (Nat.le_refl _) _).trans (hb2.mono (by simp)))
      clear hb2
      go_wp2
      go_ret
      exact ⟨rfl, unhide HB⟩
end Go.Proofs.YtegmckpcchhmdaaDoor

/- Sorts out of operands' sorts. -/
namespace Go.Proofs.YtegmckpcchhmdaaDoor
open Go Go.RowKit
/-- A slice of ints, as a value. -/
def Ints (w : World) (v : Value) (ss : List Int) : Prop := ∃ a c, v = .slice a ss.length c ∧ ss.length ≤ 281474976710656 ∧ (ss.length ≠ 0 → ∃ b off, a = some ⟨b, off, none⟩ ∧ b < w.heap.size ∧ ∀ j x, ss[j]? = some x → w.cell? ⟨b, off + j, none⟩ = some (.int .i64 x))
theorem Ints.below {w w' : World} {v : Value} {ss : List Int} (h : Ints w v ss) (hb : Below w.heap.size w w') : Ints w' v ss := by
  obtain ⟨a, c, h1, h2, h3⟩ := h
  refine ⟨a, c, h1, h2, fun hn => ?_⟩
  obtain ⟨b, off, e1, e2, e3⟩ := h3 hn
  exact ⟨b, off, e1, Nat.lt_of_lt_of_le e2 hb.size, fun j x hx => (hb.cell (p := ⟨b, off + j, none⟩) e2).trans (e3 j x hx)⟩
def optV : Option Int → Value
  | some s => .tuple #[.int .i64 s, .bool true]
  | none => .tuple #[.int .i64 0, .bool false]
theorem take_eq_of {ss ts : List Int} (hl : ss.length = ts.length) {i : Nat} (h : ss.take i = ts.take i) (h1 : i < ss.length) (h2 : i < ts.length) (e : ss[i] = ts[i]) : ss.take (i + 1) = ts.take (i + 1) := by
  rw [take_more h1, take_more h2, h, e]
set_option maxRecDepth 1000000 in
set_option maxHeartbeats 16000000 in
theorem applied_any {w : World} {B : Nat} {v vs : Value} {f : Fn} {ss : List Int} (hF : FnV w B v f) (hS : Ints w vs ss) (hB : B ≤ w.heap.size) (hl : ss.length = f.args.length) :
    Calls Tryd.prog 60 #[v, vs] w (VPost (optV (appliedT f ss)) w) := by
  obtain ⟨fa, fc, rfl, hfo, hRow⟩ := hF
  obtain ⟨a, c, rfl, hmax, hcell⟩ := hS
  obtain ⟨W, eW, hbW, hsW, hcW, hhW⟩ := box_new w #[.string f.name, .slice fa f.args.length fc, .int .i64 f.out] 41
  have v1 : W.cell? ⟨w.heap.size, 1, none⟩ = some (.slice fa f.args.length fc) := hcW 1 _ rfl
  have v2 : W.cell? ⟨w.heap.size, 2, none⟩ = some (.int .i64 f.out) := hcW 2 _ rfl
  have HB := hide hbW
  have HI := hide (And.intro hRow hcell)
  have HL := hide hl
  have HBw := hide hB
  rw [← hl] at v1
  have HS := hide (isSort_any f.out W)
  clear hRow hcell hsW hcW hhW hbW hfo hB
  generalize hn : ss.length = n at *
  have HN := hide hn
  clear hn hl
  go_enter Tryd.func60, Tryd.ntmps60
  go_wp2
  go_loop [10] (fun iv => ∃ i : Nat, i ≤ n ∧ iv = .int .i64 (i : Int) ∧ ss.take i = f.args.take i) (fun iv => (n - (intOf iv).toNat))
  case atStart => exact ⟨0, Nat.zero_le _, rfl, rfl⟩
  case round =>
    obtain ⟨i, hi, rfl, hpre⟩ := hrel
    by_cases hlt : i < n
    · have h1 : i < ss.length := by have := unhide HN; omega
      have h2 : i < f.args.length := by have := unhide HL; omega
      have hd1 : decide ((i : Int) < (n : Int)) = true := by simp; omega
      have hXi : (i : Int) < (n : Int) := by omega
      have hcap : (i : Int) < 281474976710656 := by omega
      obtain ⟨hRow, hcell⟩ := unhide HI
      obtain ⟨b1, o1, rfl, hb1, hc1⟩ := hcell (by omega)
      obtain ⟨b2, o2, rfl, hb2, hc2⟩ := hRow.2.2 (by have := unhide HL; omega)
      have p1 : W.cell? ⟨b1, o1 + i, none⟩ = some (.int .i64 ss[i]) := ((unhide HB).cell (p := ⟨b1, o1 + i, none⟩) hb1).trans (hc1 i _ (List.getElem?_eq_getElem h1))
      have p2 : W.cell? ⟨b2, o2 + i, none⟩ = some (.int .i64 f.args[i]) := by
        have := (hc2 i h2 _ (List.getElem?_eq_getElem h2)).1
        rw [Nat.mul_one] at this
        exact ((unhide HB).cell (p := ⟨b2, o2 + i, none⟩) (Nat.lt_of_lt_of_le hb2 (unhide HBw))).trans this
      have hnx := take_eq_of (by have := unhide HL; have := unhide HN; omega) hpre h1 h2
      have hno : ¬ ss[i] = f.args[i] → ¬ ss = f.args := fun h e => h (by subst e; rfl)
      have HP := hide (And.intro hpre (And.intro hnx hno))
      clear hpre hnx hno hRow hcell hc1 hc2
      generalize ss[i] = x at *
      generalize f.args[i] = y at *
      by_cases hxy : x = y
      · subst hxy
        go_wp2
        obtain ⟨hpre, hnx, hno⟩ := unhide HP
        exact ⟨⟨i + 1, by omega, rfl, hnx rfl⟩, by simp only [intOf]; omega⟩
      · have exy : (x != y) = true := by simp [hxy]
        have HXY := hide hxy
        clear hxy
        go_wp2
        go_ret2
        obtain ⟨hpre, hnx, hno⟩ := unhide HP
        refine ⟨?_, unhide HB⟩
        unfold appliedT
        rw [if_neg (fun h => hno (unhide HXY) h.1)]
        rfl
    · have hin : i = n := by omega
      have hd1 : decide ((i : Int) < (n : Int)) = false := by simp; omega
      have hall : ss = f.args := by
        have h := hpre
        rw [List.take_of_length_le (by have := unhide HN; omega), List.take_of_length_le (by have := unhide HN; have := unhide HL; omega)] at h
        exact h
      have HA := hide hall
      clear hall hpre hin
      cases hq : sortB f.out with
      | true =>
        have HQ := hide hq
        unfold sortB at hq
        rw [hq] at HS
        clear hq
        go_wp2_with fail
        refine (unhide HS).mono ?_
        rintro e w' ⟨rfl, rfl⟩
        go_wp2
        go_ret2
        refine ⟨?_, unhide HB⟩
        unfold appliedT
        rw [if_pos ⟨unhide HA, unhide HQ⟩]
        rfl
      | false =>
        have HQ := hide hq
        unfold sortB at hq
        rw [hq] at HS
        clear hq
        go_wp2_with fail
        refine (unhide HS).mono ?_
        rintro e w' ⟨rfl, rfl⟩
        go_wp2
        go_ret2
        refine ⟨?_, unhide HB⟩
        unfold appliedT
        rw [if_neg (fun h => by rw [unhide HQ] at h; cases h.2)]
        rfl
end Go.Proofs.YtegmckpcchhmdaaDoor

/- Sorts out of operands' sorts: operators. -/
namespace Go.Proofs.YtegmckpcchhmdaaDoor
open Go Go.RowKit
set_option maxRecDepth 1000000 in
set_option maxHeartbeats 16000000 in
theorem operated_ite {w : World} {vs : Value} {s0 s1 s2 : Int} (hS : Ints w vs [s0, s1, s2]) :
    Calls Tryd.prog 61 #[.int .i64 16, vs] w (VPost (optV (operatedT 16 [s0, s1, s2])) w) := by
  obtain ⟨a, c, rfl, hmax, hcell⟩ := hS
  obtain ⟨b, off, rfl, hb, hc⟩ := hcell (by simp)
  have p0 : w.cell? ⟨b, off, none⟩ = some (.int .i64 s0) := hc 0 _ rfl
  have p1 : w.cell? ⟨b, off + 1, none⟩ = some (.int .i64 s1) := hc 1 _ rfl
  have p2 : w.cell? ⟨b, off + 2, none⟩ = some (.int .i64 s2) := hc 2 _ rfl
  have hT : operatedT 16 [s0, s1, s2] = if s0 = 2 ∧ s1 = s2 then some s1 else none := rfl
  rw [hT]
  clear hc hcell hT hmax
  rw [show ([s0, s1, s2] : List Int).length = 3 from rfl]
  by_cases h0 : s0 = 2
  · by_cases h1 : s1 = s2
    · subst h0 h1
      rw [if_pos ⟨rfl, rfl⟩]
      go_enter Tryd.func61, Tryd.ntmps61
      go_wp2
      go_quiet (fail)
      go_wp2
      go_ret2
      exact ⟨rfl, below_drewN (Below.refl _ w) _⟩
    · rw [if_neg (fun h => h1 h.2)]
      subst h0
      have e1 : (s1 != s2) = true := by simp [h1]
      clear h1
      go_enter Tryd.func61, Tryd.ntmps61
      go_wp2
      go_quiet (fail)
      go_wp2
      go_ret2
      exact ⟨rfl, below_drewN (Below.refl _ w) _⟩
  · rw [if_neg (fun h => h0 h.1)]
    have e0 : (s0 != 2) = true := by simp [h0]
    clear h0
    go_enter Tryd.func61, Tryd.ntmps61
    go_wp2
    go_quiet (fail)
    go_wp2
    go_ret2
    exact ⟨rfl, below_drewN (Below.refl _ w) _⟩
theorem all_take {ss : List Int} {E : Int} {i : Nat} (h : i < ss.length) : ((ss.take (i + 1)).all fun s => s == E) = (((ss.take i).all fun s => s == E) && ss[i] == E) := by
  rw [take_more h, List.all_append]
  simp
set_option maxRecDepth 1000000 in
set_option maxHeartbeats 16000000 in
theorem operated_op {w : World} {vs : Value} {k : Nat} {ss : List Int} (h0 : 0 < w.heap.size) (hR : RL w) (hS : Ints w vs ss) (hk1 : 4 ≤ k) (hk2 : k < 16) (hn0 : opEach k = 0 → ss.length ≠ 0) :
    Calls Tryd.prog 61 #[.int .i64 k, vs] w (VPost (optV (operatedT k ss)) w) := by
  obtain ⟨a, c, rfl, hmax, hcell⟩ := hS
  obtain ⟨r0, r1, r2, r3⟩ := hR k hk1 (by omega)
  have hT : operatedT k ss = if ss.all fun s => s == (if opEach k = 0 then ss.getD 0 0 else opEach k) then some (opOwn k) else none := by unfold operatedT; rw [if_neg (by omega)]
  generalize hE : (if opEach k = 0 then ss.getD 0 0 else opEach k) = E at *
  have HT := hide hT
  obtain ⟨W, eW, hbW, hsW, hcW, hhW⟩ := box_new w #[.string ⟨(opWord k).toArray⟩, .int .i64 (opCount k), .int .i64 (opEach k), .int .i64 (opOwn k)] 157
  have q2 : W.cell? ⟨w.heap.size, 2, none⟩ = some (.int .i64 (opEach k)) := hcW 2 _ rfl
  have q3 : W.cell? ⟨w.heap.size, 3, none⟩ = some (.int .i64 (opOwn k)) := hcW 3 _ rfl
  have hki : (k : Int) < 17 := by omega
  have hk16 : ((k : Int) == 16) = false := by simp; omega
  have HB := hide hbW
  have HC := hide hcell
  have HE := hide hE
  have HN0 := hide hn0
  clear hbW hsW hcW hhW hT hcell hE hn0 hR
  generalize hn : ss.length = n at *
  have HN := hide hn
  clear hn
  generalize opWord k = ow at *
  generalize opCount k = oc at *
  have hmain : ∀ (Q : Prop), (Q → Q) := fun _ h => h
  by_cases he : opEach k = 0
  · have hpos : (0 : Int) < (n : Int) := by have := unhide HN0 he; omega
    obtain ⟨b, off, rfl, hb, hc⟩ := unhide HC (by omega)
    have hE2 := unhide HE
    rw [if_pos he] at hE2
    have hs0 : ss[0]? = some E := by
      have : 0 < ss.length := by have := unhide HN; omega
      rw [List.getD_eq_getElem?_getD] at hE2
      rw [List.getElem?_eq_getElem this] at hE2 ⊢
      simp at hE2
      rw [hE2]
    have p0 : W.cell? ⟨b, off, none⟩ = some (.int .i64 E) := ((unhide HB).cell (p := ⟨b, off, none⟩) hb).trans (hc 0 _ hs0)
    have HCC := hide (And.intro hb hc)
    have eE : (opEach k == 0) = true := by simp [he]
    generalize opEach k = oe at *
    clear hE2 hs0 hc he hmain
    go_enter Tryd.func61, Tryd.ntmps61
    go_wp2
    go_loop [40] (fun iv => ∃ i : Nat, i ≤ n ∧ iv = .int .i64 (i : Int) ∧ ((ss.take i).all fun s => s == E) = true) (fun iv => (n - (intOf iv).toNat))
    case atStart => exact ⟨0, Nat.zero_le _, rfl, rfl⟩
    case round =>
      obtain ⟨i, hi, rfl, hpre⟩ := hrel
      clear hpos p0 eE q2 r0 r1 r2 r3 eW HN0 HE hki hk16 hk1 hk2
      by_cases hlt : i < n
      · have h1 : i < ss.length := by have := unhide HN; omega
        have hd1 : decide ((i : Int) < (n : Int)) = true := by simp; omega
        have hXi : (i : Int) < (n : Int) := by omega
        have hcap : (i : Int) < 281474976710656 := by omega
        have p1 : W.cell? ⟨b, off + i, none⟩ = some (.int .i64 ss[i]) := ((unhide HB).cell (p := ⟨b, off + i, none⟩) (unhide HCC).1).trans ((unhide HCC).2 i _ (List.getElem?_eq_getElem h1))
        have hmo := all_take (E := E) h1
        have hno : ¬ ss[i] = E → ¬ (ss.all fun s => s == E) = true := fun h e => h (by simpa using List.all_eq_true.1 e _ (List.getElem_mem h1))
        have HP := hide (And.intro hpre (And.intro hmo hno))
        clear hpre hmo hno
        generalize ss[i] = x at *
        by_cases hxy : x = E
        · subst hxy
          go_wp2
          obtain ⟨hpre, hmo, _⟩ := unhide HP
          exact ⟨⟨i + 1, by omega, rfl, by rw [hmo, hpre]; simp⟩, by simp only [intOf]; omega⟩
        · have exy : (x != E) = true := by simp [hxy]
          have HXY := hide hxy
          clear hxy
          go_wp2
          go_ret2
          refine ⟨?_, unhide HB⟩
          rw [unhide HT, if_neg ((unhide HP).2.2 (unhide HXY))]
          rfl
      · have hin : i = n := by omega
        have hd1 : decide ((i : Int) < (n : Int)) = false := by simp; omega
        rw [List.take_of_length_le (by have := unhide HN; omega)] at hpre
        have HA := hide hpre
        clear hpre hin
        go_wp2
        go_ret2
        refine ⟨?_, unhide HB⟩
        rw [unhide HT, if_pos (unhide HA)]
        rfl
  · have hE2 := unhide HE
    rw [if_neg he] at hE2
    have eE : (opEach k == 0) = false := by simp [he]
    rw [hE2] at eE q2
    have HCC := HC
    clear hE2 he hmain
    generalize opEach k = oe at *
    clear HE
    go_enter Tryd.func61, Tryd.ntmps61
    go_wp2
    go_loop [40] (fun iv => ∃ i : Nat, i ≤ n ∧ iv = .int .i64 (i : Int) ∧ ((ss.take i).all fun s => s == E) = true) (fun iv => (n - (intOf iv).toNat))
    case atStart => exact ⟨0, Nat.zero_le _, rfl, rfl⟩
    case round =>
      obtain ⟨i, hi, rfl, hpre⟩ := hrel
      by_cases hlt : i < n
      · have h1 : i < ss.length := by have := unhide HN; omega
        have hd1 : decide ((i : Int) < (n : Int)) = true := by simp; omega
        have hXi : (i : Int) < (n : Int) := by omega
        have hcap : (i : Int) < 281474976710656 := by omega
        obtain ⟨b, off, rfl, hb, hc⟩ := unhide HCC (by omega)
        have p1 : W.cell? ⟨b, off + i, none⟩ = some (.int .i64 ss[i]) := ((unhide HB).cell (p := ⟨b, off + i, none⟩) hb).trans (hc i _ (List.getElem?_eq_getElem h1))
        have hmo := all_take (E := E) h1
        have hno : ¬ ss[i] = E → ¬ (ss.all fun s => s == E) = true := fun h e => h (by simpa using List.all_eq_true.1 e _ (List.getElem_mem h1))
        have HP := hide (And.intro hpre (And.intro hmo hno))
        clear hpre hmo hno hc
        generalize ss[i] = x at *
        by_cases hxy : x = E
        · subst hxy
          go_wp2
          obtain ⟨hpre, hmo, _⟩ := unhide HP
          exact ⟨⟨i + 1, by omega, rfl, by rw [hmo, hpre]; simp⟩, by simp only [intOf]; omega⟩
        · have exy : (x != E) = true := by simp [hxy]
          have HXY := hide hxy
          clear hxy
          go_wp2
          go_ret2
          refine ⟨?_, unhide HB⟩
          rw [unhide HT, if_neg ((unhide HP).2.2 (unhide HXY))]
          rfl
      · have hin : i = n := by omega
        have hd1 : decide ((i : Int) < (n : Int)) = false := by simp; omega
        rw [List.take_of_length_le (by have := unhide HN; omega)] at hpre
        have HA := hide hpre
        clear hpre hin
        go_wp2
        go_ret2
        refine ⟨?_, unhide HB⟩
        rw [unhide HT, if_pos (unhide HA)]
        rfl
end Go.Proofs.YtegmckpcchhmdaaDoor

/- The sort of a node out of its operands'. -/
namespace Go.Proofs.YtegmckpcchhmdaaDoor
open Go Go.RowKit
theorem optV_form (o : Option Int) : ∃ x y, optV o = .tuple #[.int .i64 x, .bool y] := by
  cases o with
  | none => exact ⟨_, _, rfl⟩
  | some s => exact ⟨_, _, rfl⟩
set_option maxRecDepth 1000000 in
set_option maxHeartbeats 16000000 in
theorem sortOf_app {w : World} {B r rf rb b o : Nat} {name : ByteArray} {sig : List Fn} {env : ByteArray → List Int} {vs : Value} {ss : List Int} {f : Fn} (hK : KS w B r rf rb sig env) (hb : b < w.heap.size) (c1 : w.cell? ⟨b, o + 1, none⟩ = some (.string name)) (hS : Ints w vs ss) (hf : findF name sig = some f) (hl : ss.length = f.args.length) :
    Calls Tryd.prog 40 #[.pointer (some ⟨r, 0, none⟩), .iface 134 (.agg #[.pointer (some ⟨b, o, none⟩)]), vs] w (VPost (optV (appliedT f ss)) w) := by
  have hBw : B ≤ w.heap.size := by have := hK.r_lt; have := hK.hr; omega
  have ta0 := fun w => ta_yes (ty := 134) (v := .agg #[.pointer (some ⟨b, o, none⟩)]) (w := w) rfl rfl
  obtain ⟨W, eW, hbW, hsW, hcW, hhW⟩ := box_new w #[.pointer (some ⟨b, o, none⟩)] 134
  have hKW : KS W B r rf rb sig env := hK.below hbW (Nat.le_refl _)
  have hqlt : w.heap.size < W.heap.size := (blk hhW).1
  obtain ⟨v, hv, _, hlk⟩ := hKW.fm.asked name
  have hFv : FnV W B v f := by
    rcases hv with ⟨e, _⟩ | ⟨g, e, h⟩
    · rw [hf] at e; cases e
    · rw [hf] at e; cases e; exact h
  have hSW := hS.below hbW
  have HAp : Hid (∀ w', Below W.heap.size W w' → Calls Tryd.prog 60 #[v, vs] w' (VPost (optV (appliedT f ss)) w')) := fun w' h => applied_any (hFv.below (h.mono (Nat.le_trans hBw hbW.size))) (hSW.below h) (Nat.le_trans hBw (Nat.le_trans hbW.size h.size)) hl
  have HSS : Hid (∀ w', Below W.heap.size W w' → (Below W.heap.size W w' ∧ w'.cell? ⟨r, 0, none⟩ = some (.map (some rf)) ∧ w'.cell? ⟨w.heap.size, 0, none⟩ = some (.pointer (some ⟨b, o, none⟩)) ∧ w'.cell? ⟨b, o + 1, none⟩ = some (.string name) ∧ (Instr.lookup 95 (.map (some rf)) (.string name) false).run Tryd.prog w' = .ok v w')) := fun w' h => by
    refine ⟨h, (hKW.below h (Nat.le_refl _)).cells.1, (h.cell (p := ⟨w.heap.size, 0, none⟩) hqlt).trans ((blk hhW).2.1 0 _ rfl), ((hbW.trans (h.mono hbW.size)).cell (p := ⟨b, o + 1, none⟩) hb).trans c1, ?_⟩
    obtain ⟨es, h1, h2⟩ := hKW.fm
    have hl := nm_lookup (k := name) umF ukS (zF w') (h1.below h h1.lt)
    have hl0 := nm_lookup (k := name) umF ukS (zF W) h1
    rw [hl0.2] at hlk
    injection hlk with e
    rw [hl.2, e]
  have HB := hide hbW
  obtain ⟨a, c, rfl, hmax, hcell⟩ := hS
  obtain ⟨fa, fc, rfl, hfo, hRow⟩ := hFv
  clear hK hb c1 hf hl hBw hbW hsW hcW hhW hKW hqlt hv hlk hSW hmax hcell hfo hRow
  obtain ⟨x, y, hxy⟩ := optV_form (appliedT f ss)
  rw [hxy] at HAp
  have HXY := hide hxy
  clear hxy
  generalize ss.length = n at *
  generalize f.args.length = m at *
  obtain ⟨_, m0, q0, n0, _⟩ := unhide HSS W (Below.refl _ W)
  go_enter Tryd.func40, Tryd.ntmps40
  go_wp2
  go_region_held3 (fun w' => Below W.heap.size W w' ∧ w'.cell? ⟨r, 0, none⟩ = some (.map (some rf)) ∧ w'.cell? ⟨w.heap.size, 0, none⟩ = some (.pointer (some ⟨b, o, none⟩)) ∧ w'.cell? ⟨b, o + 1, none⟩ = some (.string name) ∧ (Instr.lookup 95 (.map (some rf)) (.string name) false).run Tryd.prog w' = .ok (.agg #[.string f.name, .slice fa m fc, .int .i64 f.out]) w') (first | assumption | exact unhide HSS _ hT1 | exact unhide HSS _ (keep0 _) | exact unhide HSS _ (keepC (by assumption) (by assumption))) ((go_at_call 60; refine (unhide HAp _ (keep0 _)).mono ?_; rintro e v1 ⟨rfl, hv1⟩; have hT1 : Below W.heap.size W v1 := (keep0 W).trans hv1; clear hv1))
  all_goals
    have HT := hide hT1
    clear hT1
    go_wp2
    go_ret2
    exact ⟨by rw [unhide HXY]; rfl, (unhide HB).trans ((unhide HT).mono (unhide HB).size)⟩
theorem sortOfT_app {sig : List Fn} {name : ByteArray} {ss : List Int} {f : Fn} (hf : findF name sig = some f) : sortOfT sig 17 name ss = appliedT f ss := by
  unfold sortOfT
  rw [if_pos rfl, hf]
  rfl
set_option maxRecDepth 1000000 in
set_option maxHeartbeats 16000000 in
theorem sortOf_op {w : World} {r b o k : Nat} {vs : Value} {ss : List Int} {res : Option Int} (hb : b < w.heap.size) (c0 : w.cell? ⟨b, o, none⟩ = some (.int .i64 k)) (hS : Ints w vs ss)
    (hO : ∀ W, Below w.heap.size w W → Calls Tryd.prog 61 #[.int .i64 k, vs] W (VPost (optV res) W)) :
    Calls Tryd.prog 40 #[.pointer (some ⟨r, 0, none⟩), .iface 133 (.agg #[.pointer (some ⟨b, o, none⟩)]), vs] w (VPost (optV res) w) := by
  have ta0 := fun w => ta_no (k := 133) (ty := 134) (v := .agg #[.pointer (some ⟨b, o, none⟩)]) (z := .agg #[.pointer none]) (w := w) (by decide) rfl rfl (by go_simp)
  have ta1 := fun w => ta_yes (ty := 133) (v := .agg #[.pointer (some ⟨b, o, none⟩)]) (w := w) rfl rfl
  obtain ⟨a, c, rfl, hmax, hcell⟩ := hS
  obtain ⟨x, y, hxy⟩ := optV_form res
  rw [hxy] at hO ⊢
  have HO := hide hO
  clear hO hxy hmax hcell
  go_enter Tryd.func40, Tryd.ntmps40
  go_wp2_with fail
  have hBB : ∀ o1 o2 : Obj, Below w.heap.size w ((w.alloc o1).alloc o2) := fun o1 o2 => ((Below.refl _ w).alloc (Nat.le_refl _) _).alloc (by simp) _
  refine (unhide HO _ (hBB _ _)).mono ?_
  rintro e w2 ⟨rfl, hb2⟩
  have HB := hide (show Below w.heap.size w w2 from (hBB _ _).trans (hb2.mono (by simp; omega)))
  clear hb2 hBB
  go_wp2
  go_ret2
  exact ⟨rfl, unhide HB⟩
set_option maxRecDepth 1000000 in
set_option maxHeartbeats 16000000 in
theorem sortOf_num {w : World} {r b o : Nat} {vs : Value} :
    Calls Tryd.prog 40 #[.pointer (some ⟨r, 0, none⟩), .iface 108 (.agg #[.pointer (some ⟨b, o, none⟩)]), vs] w (VPost (optV (some 1)) w) := by
  have ta0 := fun w => ta_no (k := 108) (ty := 134) (v := .agg #[.pointer (some ⟨b, o, none⟩)]) (z := .agg #[.pointer none]) (w := w) (by decide) rfl rfl (by go_simp)
  have ta1 := fun w => ta_no (k := 108) (ty := 133) (v := .agg #[.pointer (some ⟨b, o, none⟩)]) (z := .agg #[.pointer none]) (w := w) (by decide) rfl rfl (by go_simp)
  have ta2 := fun w => ta_yes (ty := 108) (v := .agg #[.pointer (some ⟨b, o, none⟩)]) (w := w) rfl rfl
  go_enter Tryd.func40, Tryd.ntmps40
  go_wp2
  go_ret2
  exact ⟨rfl, three (Below.refl _ w) (Nat.le_refl _) _ _ _⟩
set_option maxRecDepth 1000000 in
set_option maxHeartbeats 16000000 in
theorem sortOf_truth {w : World} {r b o : Nat} {vs : Value} :
    Calls Tryd.prog 40 #[.pointer (some ⟨r, 0, none⟩), .iface 132 (.agg #[.pointer (some ⟨b, o, none⟩)]), vs] w (VPost (optV (some 2)) w) := by
  have ta0 := fun w => ta_no (k := 132) (ty := 134) (v := .agg #[.pointer (some ⟨b, o, none⟩)]) (z := .agg #[.pointer none]) (w := w) (by decide) rfl rfl (by go_simp)
  have ta1 := fun w => ta_no (k := 132) (ty := 133) (v := .agg #[.pointer (some ⟨b, o, none⟩)]) (z := .agg #[.pointer none]) (w := w) (by decide) rfl rfl (by go_simp)
  have ta2 := fun w => ta_no (k := 132) (ty := 108) (v := .agg #[.pointer (some ⟨b, o, none⟩)]) (z := .agg #[.pointer none]) (w := w) (by decide) rfl rfl (by go_simp)
  go_enter Tryd.func40, Tryd.ntmps40
  go_wp2
  go_ret2
  exact ⟨rfl, three (Below.refl _ w) (Nat.le_refl _) _ _ _⟩
end Go.Proofs.YtegmckpcchhmdaaDoor

namespace Go.Proofs.YtegmckpcchhmdaaDoor
open Go Go.RowKit
theorem appE_ok {sig : List Fn} {name : ByteArray} {n : Nat} (h : appE sig name n = 0) : ∃ f, findF name sig = some f ∧ n = f.args.length := by
  unfold appE at h
  split at h
  · cases hf : findF name sig with
    | none => rw [hf] at h; simp at h
    | some f =>
      rw [hf] at h
      simp only at h
      split at h
      · exact ⟨f, rfl, by assumption⟩
      · simp at h
  · simp at h
theorem operandsB_ok {k n : Nat} {h : Int} (hk1 : 4 ≤ k) (hk2 : k ≤ 16) (hb : operandsB (k : Int) n h = true) : (k = 16 → n = 3) ∧ (opEach k = 0 → n ≠ 0) := by
  unfold operandsB at hb
  simp only [Bool.and_eq_true, Bool.or_eq_true, beq_iff_eq] at hb
  rw [show ((k : Int)).toNat = k by omega] at hb
  have h1 := hb.1
  constructor
  · intro e
    subst e
    have e2 : opCount 16 = 3 := rfl
    rw [e2] at h1
    omega
  · intro e
    have : k = 9 ∨ k = 16 := by
      unfold opEach at e
      by_cases h9 : k = 9 ∨ k = 16
      · exact h9
      · rw [if_neg h9] at e
        split at e <;> simp at e
    rcases this with rfl | rfl
    · have e2 : opCount 9 = 2 := rfl
      rw [e2] at h1
      omega
    · have e2 : opCount 16 = 3 := rfl
      rw [e2] at h1
      omega
theorem shapeE_zero {rt : ByteArray → Bool} {sig : List Fn} {op : Int} {name num : ByteArray} {n : Nat} {hd : Int} {vars : List (ByteArray × Int)} {np : Nat} (h17 : op ≠ 17) (h : shapeE rt sig op name num n hd vars np = 0) : shapeB rt op name num n hd vars np = true := by
  unfold shapeE at h
  rw [if_neg h17] at h
  cases hs : shapeB rt op name num n hd vars np with
  | true => rfl
  | false => rw [hs] at h; simp at h
theorem three_of {ss : List Int} (h : ss.length = 3) : ∃ a b c, ss = [a, b, c] := by
  match ss, h with
  | [a, b, c], _ => exact ⟨a, b, c, rfl⟩
theorem sortOf_any {rt : ByteArray → Bool} {w : World} {B r rf rb d b o : Nat} {t : Tm} {sig : List Fn} {env : ByteArray → List Int} {vs : Value} {ss : List Int} (hK : KS w B r rf rb sig env) (hT : TmAt w B d b o t) (hR : RL w) (hS : Ints w vs ss) (hl : ss.length = t.l.length)
    (hE : shapeE rt sig t.op t.name t.num t.l.length (headOp t.l) t.vars t.pat.length = 0) (h18 : t.op ≠ 18) (h19 : t.op ≠ 19) :
    Calls Tryd.prog 40 #[.pointer (some ⟨r, 0, none⟩), .iface (kindOf t.op) (.agg #[.pointer (some ⟨b, o, none⟩)]), vs] w (VPost (optV (sortOfT sig t.op t.name ss)) w) := by
  cases d with
  | zero => exact hT.elim
  | succ d =>
  have hBw : B ≤ w.heap.size := by have := hK.r_lt; have := hK.hr; omega
  obtain ⟨hb, _, _, aL, aV, aP, cL, cV, cP, hrg, hL, hV, hP, _⟩ := hT
  have hbw : b < w.heap.size := by omega
  have h0 : 0 < w.heap.size := by omega
  rcases op_kind (op := t.op) with ⟨h', e⟩ | ⟨h', e⟩ | ⟨h', e⟩ | ⟨h', e⟩ | ⟨h', e⟩ | ⟨h', e⟩ | ⟨h', e⟩
  · rw [e, h', show sortOfT sig 1 t.name ss = some 1 from rfl]; exact sortOf_num
  · rw [e]
    have : sortOfT sig t.op t.name ss = some 2 := by unfold sortOfT; rw [if_neg (by omega), if_neg (by omega), if_neg (by omega)]
    rw [this]
    exact sortOf_truth
  · rw [e]
    obtain ⟨k, hk⟩ : ∃ k : Nat, t.op = (k : Int) := ⟨t.op.toNat, by omega⟩
    have hk1 : 4 ≤ k := by omega
    have hk2 : k ≤ 16 := by omega
    have hs : sortOfT sig t.op t.name ss = operatedT k ss := by
      unfold sortOfT
      rw [if_neg (by omega), if_pos h', hk]
      rfl
    have hop : operandsB (k : Int) t.l.length (headOp t.l) = true := by
      have hE2 := shapeE_zero (by omega) hE
      unfold shapeB at hE2
      rw [if_neg (by omega), if_neg (by omega), if_pos h', hk] at hE2
      exact hE2
    have hc := operandsB_ok hk1 hk2 hop
    rw [hs]
    have c0 : w.cell? ⟨b, o, none⟩ = some (.int .i64 (k : Int)) := by rw [← hk]; exact hrg 0 _ rfl
    refine sortOf_op hbw c0 hS fun W hW => ?_
    by_cases h16 : k = 16
    · subst h16
      obtain ⟨x, y, z, rfl⟩ := three_of (hl.trans (hc.1 rfl))
      exact operated_ite (hS.below hW)
    · exact operated_op (Nat.lt_of_lt_of_le h0 hW.size) (hR.below hW h0) (hS.below hW) hk1 (by omega) (fun h => by rw [hl]; exact hc.2 h)
  · rw [e]
    have hA : appE sig t.name t.l.length = 0 := by
      unfold shapeE at hE
      rw [if_pos h'] at hE
      exact hE
    obtain ⟨f, hf, hn⟩ := appE_ok hA
    rw [h', sortOfT_app hf]
    exact sortOf_app hK hbw (hrg 1 _ rfl) hS hf (hl.trans hn)
  · exact absurd h' h18
  · exact absurd h' h19
  · have hE2 := shapeE_zero (by omega) hE
    unfold shapeB at hE2
    rw [if_neg (by omega), if_neg (by omega), if_neg (by omega), if_neg (by omega), if_neg (by omega)] at hE2
    cases hE2
/-- What the map of bound names answers. -/
theorem BM.asked {w : World} {B rb : Nat} {env : ByteArray → List Int} (h : BM w B rb env) (name : ByteArray) (hlen : (env name).length ≤ 281474976710656) : ∃ v, Ints w v (env name) ∧ w.ownsRow B 3 1 v (env name).length ((env name).map (Value.int .i64)) ∧ (Instr.lookup 96 (.map (some rb)) (.string name) false).run Tryd.prog w = .ok v w := by
  obtain ⟨es, h1, h2, _⟩ := h
  have hl := nm_lookup (k := name) umB ukS (zB w) h1
  rcases h2 name with ⟨e1, e2⟩ | ⟨v, e1, e2, e3⟩
  · rw [e1] at hl
    refine ⟨.slice none 0 0, ?_, ?_, hl.2⟩
    · rw [e2]
      exact ⟨none, 0, rfl, by simp, fun h => absurd rfl h⟩
    · rw [e2]
      exact ⟨rfl, .inl ⟨rfl, rfl⟩⟩
  · rw [e1] at hl
    refine ⟨v, ?_, e2, hl.2⟩
    rcases e2.2 with ⟨rfl, e4⟩ | ⟨g, cap, cur, rfl, hB, hg, hn, hcap, hsz, htk⟩
    · refine ⟨none, 0, by rw [e4], by omega, fun h => absurd e4 h⟩
    · refine ⟨_, cap, rfl, hlen, fun _ => ⟨g, 0, rfl, (Array.getElem?_eq_some_iff.1 hg).1, fun j x hx => ?_⟩⟩
      have hj : j < (env name).length := (List.getElem?_eq_some_iff.1 hx).1
      have e5 : cur[j]? = some (.int .i64 x) := by
        have : (cur.toList.take ((env name).length * 1))[j]? = some (.int .i64 x) := by rw [htk, List.getElem?_map, hx]; rfl
        rw [List.getElem?_take] at this
        rw [if_pos (by omega)] at this
        simpa using this
      simp only [Nat.zero_add]
      exact (blk hg).2.1 j _ e5
end Go.Proofs.YtegmckpcchhmdaaDoor
