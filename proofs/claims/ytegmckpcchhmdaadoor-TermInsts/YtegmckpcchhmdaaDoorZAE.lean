/- The comparer's keep; slices.Equal of bound variables. -/
import Derived.Test.YtegmckpcchhmdaaDoorZAD
import Derived.Test.YtegmckpcchhmdaaDoorZAA
import Derived.Test.YtegmckpcchhmdaaDoorZAB
import Derived.Handy
set_option linter.unusedVariables false
set_option linter.unusedSimpArgs false

/- What a term's text is; words; numbers. -/
namespace Go.Proofs.YtegmckpcchhmdaaDoor
open Go Go.RowKit
def sp : List (List UInt8) → List UInt8
  | [] => []
  | x :: l => 32 :: (x ++ sp l)
/-- Texts, a space between. -/
def joinT : List (List UInt8) → List UInt8
  | [] => []
  | x :: l => x ++ sp l
theorem sp_snoc (l : List (List UInt8)) (x : List UInt8) : sp (l ++ [x]) = sp l ++ 32 :: x := by
  induction l with
  | nil => simp [sp]
  | cons y l ih => simp [sp, ih]
theorem joinT_snoc (l : List (List UInt8)) (x : List UInt8) : joinT (l ++ [x]) = joinT l ++ ((if l = [] then [] else [32]) ++ x) := by
  cases l with
  | nil => simp [joinT, sp]
  | cons y l => simp [joinT, sp_snoc]
def opWord (n : Nat) : List UInt8 :=
  if n = 4 then [110, 111, 116] else if n = 5 then [97, 110, 100] else if n = 6 then [111, 114] else if n = 7 then [61, 62] else if n = 8 then [105, 102, 102] else if n = 9 then [61] else if n = 10 then [60, 61] else if n = 11 then [60] else if n = 12 then [43] else if n = 13 then [45] else if n = 14 then [110, 101, 103] else if n = 15 then [42] else [105, 116, 101]
def opCount (n : Nat) : Int := if n = 4 ∨ n = 14 then 1 else if n = 5 ∨ n = 6 ∨ n = 12 then -1 else if n = 16 then 3 else 2
def opEach (n : Nat) : Int := if n = 9 ∨ n = 16 then 0 else if n ≤ 8 then 2 else 1
def opOwn (n : Nat) : Int := if n = 16 then 0 else if n ≤ 11 then 2 else 1
/-- The table of rules, where the program has it. -/
def RL (w : World) : Prop := ∀ n, 4 ≤ n → n ≤ 16 → w.cell? ⟨0, n * 4, none⟩ = some (.string ⟨(opWord n).toArray⟩) ∧ w.cell? ⟨0, n * 4 + 1, none⟩ = some (.int .i64 (opCount n)) ∧ w.cell? ⟨0, n * 4 + 2, none⟩ = some (.int .i64 (opEach n)) ∧ w.cell? ⟨0, n * 4 + 3, none⟩ = some (.int .i64 (opOwn n))
theorem RL.below {w w' : World} {B : Nat} (h : RL w) (hb : Below B w w') (hB : 0 < B) : RL w' := fun n h1 h2 => by
  obtain ⟨a, b, c, d⟩ := h n h1 h2
  exact ⟨(hb.cell (p := ⟨0, n * 4, none⟩) hB).trans a, (hb.cell (p := ⟨0, n * 4 + 1, none⟩) hB).trans b, (hb.cell (p := ⟨0, n * 4 + 2, none⟩) hB).trans c, (hb.cell (p := ⟨0, n * 4 + 3, none⟩) hB).trans d⟩
/-- A term's word. -/
def wordT (op : Int) (name : ByteArray) : ByteArray :=
  if op = 2 then ⟨#[116, 114, 117, 101]⟩ else if op = 3 then ⟨#[102, 97, 108, 115, 101]⟩ else if op = 18 ∨ op = 17 then name else if 4 ≤ op ∧ op ≤ 16 then ⟨(opWord op.toNat).toArray⟩ else ⟨#[63]⟩
def aloneT (op : Int) (n : Nat) : Bool := op == 2 || op == 3 || op == 18 || (op == 17 && n == 0)
def numT (s : ByteArray) : List UInt8 := if s.data.toList.head? = some 45 then [40, 45, 32] ++ (s.data.toList.drop 1 ++ [41]) else s.data.toList
def sortT (x : Int) : List UInt8 := if x = 1 then [105, 110, 116] else if x = 2 then [98, 111, 111, 108] else if x = 3 then [111, 98, 106] else [63]
def varT (u : ByteArray × Int) : List UInt8 := u.1.data.toList ++ (32 :: sortT u.2)
def bodyT (op : Int) (name num : ByteArray) (n : Nat) (jl : List UInt8) (vars : List (ByteArray × Int)) (jp : List UInt8) : List UInt8 :=
  if op = 1 then numT num
  else if op = 19 then [40, 102, 111, 114, 97, 108, 108, 32, 40] ++ (joinT (vars.map varT) ++ ([41, 32, 40, 112, 97, 116, 116, 101, 114, 110, 32] ++ (jp ++ ([41, 32] ++ (jl ++ [41])))))
  else if aloneT op n then (wordT op name).data.toList
  else 40 :: ((wordT op name).data.toList ++ ((if n = 0 then [] else [32]) ++ (jl ++ [41])))
def Tm.text : Tm → List UInt8 | ⟨op, name, _, num, l, vars, pat⟩ => bodyT op name num l.length (joinT (l.map fun u => Tm.text u)) vars (joinT (pat.map fun u => Tm.text u))
theorem Tm.text_eq (t : Tm) : t.text = bodyT t.op t.name t.num t.l.length (joinT (t.l.map Tm.text)) t.vars (joinT (t.pat.map Tm.text)) := by
  cases t
  rw [Tm.text]
set_option maxRecDepth 100000 in
set_option maxHeartbeats 4000000 in
theorem hasPrefix_any (s : ByteArray) (w : World) : Calls Tryd.prog 84 #[.string s, .string ⟨#[45]⟩] w fun e w' => e = .returned (.bool (decide (s.data.toList.head? = some 45))) ∧ w' = w := by
  obtain ⟨l, rfl⟩ : ∃ l : List UInt8, s = ⟨l.toArray⟩ := ⟨s.data.toList, rfl⟩
  cases l with
  | nil =>
    go_enter Tryd.func84, Tryd.ntmps84
    go_wp2
    go_ret
    exact ⟨by simp, rfl⟩
  | cons c l =>
    have hs : (⟨(c :: l).toArray⟩ : ByteArray).size = l.length + 1 := rfl
    have hx : ((⟨(c :: l).toArray⟩ : ByteArray).extract 0 1) = ⟨#[c]⟩ := by
      apply ByteArray.ext
      simp [ByteArray.data_extract]
    generalize hS : (⟨(c :: l).toArray⟩ : ByteArray) = S at *
    have hsz : (1 : Int) ≤ (S.size : Int) := by omega
    have HS := hide (And.intro hS hs)
    clear hS hs
    have hc : ((⟨#[c]⟩ : ByteArray).toList == (⟨#[45]⟩ : ByteArray).toList) = decide (c = 45) := by
      rw [ByteArray.toList_eq, ByteArray.toList_eq]
      by_cases h : c = 45 <;> simp [h]
    go_enter Tryd.func84, Tryd.ntmps84
    go_wp2
    go_ret
    refine ⟨?_, rfl⟩
    rw [← (unhide HS).1]
    by_cases h : c = 45 <;> simp [h]
set_option maxRecDepth 100000 in
set_option maxHeartbeats 4000000 in
theorem cut_any (s : ByteArray) (w : World) : Calls Tryd.prog 62 #[.string s, .string ⟨#[45]⟩] w fun e w' => e = .returned (.tuple #[.string (if s.data.toList.head? = some 45 then ⟨(s.data.toList.drop 1).toArray⟩ else s), .bool (decide (s.data.toList.head? = some 45))]) ∧ w' = w := by
  have hP := hasPrefix_any s w
  by_cases h : s.data.toList.head? = some 45
  · have hd : decide (s.data.toList.head? = some 45) = true := by simp [h]
    rw [if_pos h]
    rw [hd] at hP ⊢
    have hsz : (1 : Int) ≤ (s.size : Int) := by
      have : s.size = s.data.toList.length := rfl
      cases hl : s.data.toList with
      | nil => rw [hl] at h; simp at h
      | cons c l => rw [hl] at this; simp at this; omega
    have hx : s.extract 1 s.size = ⟨(s.data.toList.drop 1).toArray⟩ := by
      apply ByteArray.ext
      apply Array.ext'
      rw [ByteArray.data_extract, Array.toList_extract]
      show (s.data.toList.drop 1).take (s.size - 1) = _
      exact List.take_of_length_le (by rw [List.length_drop, Array.length_toList]; exact Nat.le_refl _)
    have HP := hide hP
    have HX := hide hx
    clear h hd hP hx
    go_enter Tryd.func62, Tryd.ntmps62
    go_wp2_with fail
    have hCut : Calls Tryd.prog 74 #[.string s, .string ⟨#[45]⟩] w fun e w' => e = .returned (.tuple #[.string (s.extract 1 s.size), .bool true]) ∧ w' = w := by
      go_enter Tryd.func74, Tryd.ntmps74
      go_wp2_with fail
      refine (unhide HP).mono ?_
      rintro e w' ⟨rfl, rfl⟩
      go_wp2
      go_ret2
      exact ⟨rfl, rfl⟩
    refine hCut.mono ?_
    rintro e w' ⟨rfl, rfl⟩
    go_wp2
    go_ret2
    exact ⟨by rw [unhide HX]; rfl, rfl⟩
  · have hd : decide (s.data.toList.head? = some 45) = false := by simp [h]
    rw [if_neg h]
    rw [hd] at hP ⊢
    have HP := hide hP
    clear h hd hP
    go_enter Tryd.func62, Tryd.ntmps62
    go_wp2_with fail
    have hCut : Calls Tryd.prog 74 #[.string s, .string ⟨#[45]⟩] w fun e w' => e = .returned (.tuple #[.string s, .bool false]) ∧ w' = w := by
      go_enter Tryd.func74, Tryd.ntmps74
      go_wp2_with fail
      refine (unhide HP).mono ?_
      rintro e w' ⟨rfl, rfl⟩
      go_wp2
      go_ret2
      exact ⟨rfl, rfl⟩
    refine hCut.mono ?_
    rintro e w' ⟨rfl, rfl⟩
    go_wp2
    go_ret2
    exact ⟨rfl, rfl⟩
/-- Behind a writing that answers nothing. -/
def TP (B r : Nat) (l : List UInt8) (w : World) (e : Ending) (w' : World) : Prop := e = .returned (.tuple #[]) ∧ WB w' B r l ∧ WF B r w w'
set_option maxRecDepth 100000 in
set_option maxHeartbeats 4000000 in
theorem number_any (B r : Nat) (l : List UInt8) (s : ByteArray) (w : World) (h : WB w B r l) (hl : l.length + (numT s).length ≤ 140737488355328) : Calls Tryd.prog 41 #[.pointer (some ⟨r, 0, none⟩), .string s] w (TP B r (l ++ numT s) w) := by
  have HW := hide h
  have HC := hide (cut_any s w)
  clear h
  unfold numT at hl ⊢
  by_cases hh : s.data.toList.head? = some 45
  · rw [if_pos hh] at hl ⊢
    rw [show decide (s.data.toList.head? = some 45) = true by simp [hh], if_pos hh] at HC
    obtain ⟨D, hD⟩ : ∃ D : ByteArray, (⟨(s.data.toList.drop 1).toArray⟩ : ByteArray) = D := ⟨_, rfl⟩
    have hDl : D.data.toList = s.data.toList.drop 1 := by rw [← hD]
    rw [hD] at HC
    rw [← hDl] at hl ⊢
    have hds : D.size + 4 ≤ 140737488355328 := by
      have e : D.size = D.data.toList.length := rfl
      simp only [List.length_append, List.length_cons, List.length_nil] at hl
      omega
    have HL := hide hl
    clear hh hl hD hDl
    go_enter Tryd.func41, Tryd.ntmps41
    go_wp2_with fail
    refine (unhide HC).mono ?_
    rintro e w' ⟨rfl, rfl⟩
    have hds1 : D.size ≤ 140737488355328 := by omega
    have hds2 : ((⟨#[40, 45, 32]⟩ : ByteArray) ++ D).size ≤ 140737488355328 := by rw [ByteArray.size_append]; show 3 + D.size ≤ _; omega
    go_wp2_with fail
    have hw := wstr_any B r l ((⟨#[40, 45, 32]⟩ : ByteArray) ++ D ++ ⟨#[41]⟩) _ (unhide HW) (by
      have := unhide HL
      simp only [List.length_append, List.length_cons, List.length_nil] at this
      have e0 : D.size = D.data.toList.length := rfl
      have e : ((⟨#[40, 45, 32]⟩ : ByteArray) ++ D ++ ⟨#[41]⟩).size = D.size + 4 := by
        rw [ByteArray.size_append, ByteArray.size_append]
        show 3 + D.size + 1 = _
        omega
      omega)
    refine hw.mono ?_
    rintro e w1 ⟨rfl, h1, h2⟩
    have H1 := hide (And.intro h1 h2)
    clear h1 h2 hw
    go_wp2
    go_end0
    refine ⟨rfl, ?_, (unhide H1).2⟩
    have := (unhide H1).1
    simpa [ByteArray.data_append] using this
  · rw [if_neg hh] at hl ⊢
    rw [show decide (s.data.toList.head? = some 45) = false by simp [hh], if_neg hh] at HC
    have HL := hide hl
    clear hh hl
    go_enter Tryd.func41, Tryd.ntmps41
    go_wp2_with fail
    refine (unhide HC).mono ?_
    rintro e w' ⟨rfl, rfl⟩
    go_wp2_with fail
    refine (wstr_any B r l s _ (unhide HW) (unhide HL)).mono ?_
    rintro e w1 ⟨rfl, h1, h2⟩
    have H1 := hide (And.intro h1 h2)
    clear h1 h2
    go_wp2
    go_end0
    exact ⟨rfl, (unhide H1).1, (unhide H1).2⟩
end Go.Proofs.YtegmckpcchhmdaaDoor

/- Parse at right texts. -/
namespace Go.Proofs.YtegmckpcchhmdaaDoor.Nm
open Go.RowKit

/-- A text: a minus or none, and digits. -/
def txt (neg : Bool) (D : List UInt8) : List UInt8 := if neg then 45 :: D else D
theorem cut_txt (neg : Bool) (D : List UInt8) (hD : Dg D) : Lib.trimPrefix (txt neg D) [45] = D ∧ Lib.hasPrefix (txt neg D) [45] = neg := by
  cases neg with
  | true => simp [txt, Lib.trimPrefix, Lib.hasPrefix]
  | false =>
    cases D with
    | nil => simp [txt, Lib.trimPrefix, Lib.hasPrefix]
    | cons b D =>
      have := hD b (by simp)
      have hb : b ≠ 45 := by rintro rfl; simp at this
      have e : ([45] : List UInt8).isPrefixOf (b :: D) = false := by simp [List.isPrefixOf, Ne.symm hb]
      simp [txt, Lib.trimPrefix, Lib.hasPrefix, e]

set_option maxRecDepth 100000 in
set_option maxHeartbeats 800000 in
theorem parse_yes (neg : Bool) (D : List UInt8) (w : World) (hD : Dg D) (hne : D ≠ []) (hz : D.head? = some 48 → D = [48] ∧ neg = false) (hl : D.length ≤ 2000) :
    Calls Tryd.prog 69 #[.string ⟨(txt neg D).toArray⟩] w fun e w' => ∃ r, e = .returned (.tuple #[r, .bool true]) ∧ Below w.heap.size w w' ∧ IsI w' r (if neg then - dec D else dec D) := by
  obtain ⟨z, hzz⟩ : ∃ z, z = (if neg then - dec D else dec D) := ⟨_, rfl⟩
  rw [← hzz]
  have HZZ := hide hzz
  clear hzz
  obtain ⟨hc1, hc2⟩ := cut_txt neg D hD
  have hcut : ∀ w, Calls Tryd.prog 62 #[.string ⟨(txt neg D).toArray⟩, .string ⟨#[45]⟩] w fun e w' => e = .returned (.tuple #[.string ⟨D.toArray⟩, .bool neg]) ∧ w' = w := fun w => by
    have h := Go.Proofs.YtegmckpcchhmdaaDoor.cut_any ⟨(txt neg D).toArray⟩ w
    cases neg with
    | true => simpa [txt] using h
    | false =>
      have h45 : D.head? ≠ some 45 := by
        cases D with
        | nil => simp
        | cons b D =>
          have := hD b (by simp)
          intro e
          simp at e
          subst e
          simp at this
      simpa [txt, h45] using h
  obtain ⟨S, hS⟩ : ∃ S : ByteArray, S = ⟨D.toArray⟩ := ⟨_, rfl⟩
  obtain ⟨T, hT⟩ : ∃ T : ByteArray, T = ⟨(txt neg D).toArray⟩ := ⟨_, rfl⟩
  have hSD : S.data.toList = D := by rw [hS]
  have hSn : S.size = D.length := by rw [hS]; simp [ByteArray.size]
  rw [← hS, ← hT] at hcut
  rw [← hT]
  clear hS hT
  have HCUT := hide hcut
  clear hcut hc1 hc2
  have hpos : 0 < S.size := by rw [hSn]; exact List.length_pos_iff.2 hne
  have hgS : Dg S.data.toList := by rw [hSD]; exact hD
  have hls : S.size ≤ 4000 := by omega
  have hbox := Bx.new w 0 none 0 0
  have hbw : Below w.heap.size w (w.alloc (.cells #[.int .i64 0, .slice none 0 0] 170)) := (Below.refl _ w).alloc (Nat.le_refl _) _
  have hfirst : (((S[0]'hpos).toNat : Int) = 48 → D = [48] ∧ neg = false) := by
    intro h
    apply hz
    cases D with
    | nil => exact absurd rfl hne
    | cons b D' =>
      have h2 := get_toList S 0 hpos (by rw [hSD]; simp)
      simp only [hSD, List.getElem_cons_zero] at h2
      rw [← h2] at h
      simp only [List.head?_cons, Option.some.injEq]
      exact UInt8.toNat_inj.1 (by show b.toNat = 48; omega)
  go_enter Tryd.func69, Tryd.ntmps69
  go_wp2_with fail
  refine (unhide HCUT _).mono ?_
  rintro e w1 ⟨rfl, rfl⟩
  go_wp2_with fail
  refine (areDigits_yes S _ hgS hpos hls).mono ?_
  rintro e w2 ⟨rfl, hb2⟩
  by_cases h48 : ((S[0]'hpos).toNat : Int) = 48
  · obtain ⟨rfl, rfl⟩ := hfirst h48
    have hsz1 : (S.size : Int) = 1 := by rw [hSn]; rfl
    go_wp2_with fail
    refine (parseMag_any S w2 hgS hls).mono ?_
    rintro e w3 ⟨v3, xs, rfl, hb3, hm3, hd3, hn3, hv3, hl3⟩
    have HV3 := hide hv3
    clear hv3
    go_wp2_with fail
    refine (ofMag_any false v3 xs w3 hm3 hd3 hn3 (by omega)).mono ?_
    rintro e w4 ⟨r, rfl, hb4, hI⟩
    obtain ⟨n4, a4, l4, c4, rfl⟩ := hI.form
    have hbx := ((hbox.below hb2).below hb3).below hb4
    obtain ⟨kR0, kR1, kRf0, kRf1⟩ := hbx.facts
    have hbel := ((hbw.trans (hb2.mono hbw.size)).trans (hb3.mono (Nat.le_trans hbw.size hb2.size))).trans (hb4.mono (Nat.le_trans (Nat.le_trans hbw.size hb2.size) hb3.size))
    have HI := hide hI
    clear hI
    go_wp2
    refine bodyPost_ret (v := .tuple #[.agg #[.int .i64 n4, .slice a4 l4 c4], .bool true]) ?_ rfl ?_
    · simp [results, Tryd.results69, go_sem, kR0, kR1]
    · refine ⟨_, rfl, below_put hbel (Nat.le_refl _) _ _, ?_⟩
      have h9 := (unhide HI).put hbx (.int .i64 n4) (.slice a4 l4 c4)
      rw [unhide HV3, hSD] at h9
      rw [unhide HZZ]
      exact h9
  · go_wp2_with fail
    refine (parseMag_any S w2 hgS hls).mono ?_
    rintro e w3 ⟨v3, xs, rfl, hb3, hm3, hd3, hn3, hv3, hl3⟩
    have HV3 := hide hv3
    clear hv3
    go_wp2_with fail
    refine (ofMag_any neg v3 xs w3 hm3 hd3 hn3 (by omega)).mono ?_
    rintro e w4 ⟨r, rfl, hb4, hI⟩
    obtain ⟨n4, a4, l4, c4, rfl⟩ := hI.form
    have hbx := ((hbox.below hb2).below hb3).below hb4
    obtain ⟨kR0, kR1, kRf0, kRf1⟩ := hbx.facts
    have hbel := ((hbw.trans (hb2.mono hbw.size)).trans (hb3.mono (Nat.le_trans hbw.size hb2.size))).trans (hb4.mono (Nat.le_trans (Nat.le_trans hbw.size hb2.size) hb3.size))
    have HI := hide hI
    clear hI
    go_wp2
    refine bodyPost_ret (v := .tuple #[.agg #[.int .i64 n4, .slice a4 l4 c4], .bool true]) ?_ rfl ?_
    · simp [results, Tryd.results69, go_sem, kR0, kR1]
    · refine ⟨_, rfl, below_put hbel (Nat.le_refl _) _ _, ?_⟩
      have h9 := (unhide HI).put hbx (.int .i64 n4) (.slice a4 l4 c4)
      rw [unhide HV3, hSD] at h9
      rw [unhide HZZ]
      exact h9

end Go.Proofs.YtegmckpcchhmdaaDoor.Nm

/- Labels. -/
namespace Go.Proofs.YtegmckpcchhmdaaDoor
open Go Go.RowKit
set_option maxRecDepth 100000 in
set_option maxHeartbeats 16000000 in
theorem baseTerm_any (p : Option Addr) (w : World) : Calls Tryd.prog 108 #[.agg #[.pointer p]] w (VPost (.pointer p) w) := by
  go_enter Tryd.func108, Tryd.ntmps108
  go_wp2
  go_ret
  exact ⟨rfl, (Below.refl _ w).alloc (Nat.le_refl _) _⟩
theorem fill4 {w : World} {q : Nat} {a b c d x y z u : Value} {ty : TypeId} (h : w.heap[q]? = some (.cells #[a, b, c, d] ty)) : ((((w.setCell ⟨q, 0, none⟩ x).setCell ⟨q, 1, none⟩ y).setCell ⟨q, 2, none⟩ z).setCell ⟨q, 3, none⟩ u).heap[q]? = some (.cells #[x, y, z, u] ty) := set_block (set_block (set_block (set_block h _) _) _) _
theorem new_block (w : World) (cs : Array Value) (ty : TypeId) : (w.alloc (.cells cs ty)).heap[w.heap.size]? = some (.cells cs ty) := by
  obtain ⟨w0, e, _, _, _, h⟩ := box_new w cs ty
  rw [e]
  exact h
theorem asize (w : World) (o : Obj) : (w.alloc o).heap.size = w.heap.size + 1 := by simp
theorem four {w w2 : World} {q : Nat} (h : Below q w w2) (hq : q ≤ w2.heap.size) (a b c d : Obj) : Below q w ((((w2.alloc a).alloc b).alloc c).alloc d) := by
  have e : ∀ (w : World) (o : Obj), q ≤ w.heap.size → q ≤ (w.alloc o).heap.size := fun w o h => by
    have := (Below.refl _ w).alloc (Nat.le_refl _) o
    exact Nat.le_trans h this.size
  exact (((h.alloc hq a).alloc (e _ _ hq) b).alloc (e _ _ (e _ _ hq)) c).alloc (e _ _ (e _ _ (e _ _ hq))) d
theorem three {w w2 : World} {q : Nat} (h : Below q w w2) (hq : q ≤ w2.heap.size) (a b c : Obj) : Below q w (((w2.alloc a).alloc b).alloc c) := by
  have e : ∀ (w : World) (o : Obj), q ≤ w.heap.size → q ≤ (w.alloc o).heap.size := fun w o h => by
    have := (Below.refl _ w).alloc (Nat.le_refl _) o
    exact Nat.le_trans h this.size
  exact ((h.alloc hq a).alloc (e _ _ hq) b).alloc (e _ _ (e _ _ hq)) c
set_option maxRecDepth 100000 in
set_option maxHeartbeats 16000000 in
theorem label_numeral {w : World} {b o : Nat} {t : Tm} (c0 : w.cell? ⟨b, o, none⟩ = some (.int .i64 t.op)) (c1 : w.cell? ⟨b, o + 1, none⟩ = some (.string t.name)) (c2 : w.cell? ⟨b, o + 2, none⟩ = some (.int .i64 t.sort)) (c3 : w.cell? ⟨b, o + 3, none⟩ = some (.string t.num)) (hb : b < w.heap.size) :
    Calls Tryd.prog 53 #[.iface 108 (.agg #[.pointer (some ⟨b, o, none⟩)])] w (VPost (.agg #[.int .i64 t.op, .string .empty, .string t.num, .int .i64 0]) w) := by
  go_enter Tryd.func53, Tryd.ntmps53
  go_wp2_with fail
  obtain ⟨w1, e1, hb1, hs1, _, hh1⟩ := box_new w #[.int .i64 0, .string .empty, .string .empty, .int .i64 0] 141
  rw [show w.alloc (.cells #[.int .i64 0, .string .empty, .string .empty, .int .i64 0] 141) = w.alloc (.cells #[.int .i64 0, .string { data := #[] }, .string { data := #[] }, .int .i64 0] 141) from rfl] at e1
  rw [e1]
  refine (baseTerm_any (some ⟨b, o, none⟩) w1).mono ?_
  rintro e w2 ⟨rfl, hb2⟩
  have hq2 := (hb2.block w.heap.size (by omega)).trans hh1
  obtain ⟨hql, hqc, hqf⟩ := blk hq2
  have q0 : w2.cell? ⟨w.heap.size, 0, none⟩ = some (.int .i64 0) := hqc 0 _ rfl
  have q1 : w2.cell? ⟨w.heap.size, 1, none⟩ = some (.string .empty) := hqc 1 _ rfl
  have q2 : w2.cell? ⟨w.heap.size, 2, none⟩ = some (.string .empty) := hqc 2 _ rfl
  have q3 : w2.cell? ⟨w.heap.size, 3, none⟩ = some (.int .i64 0) := hqc 3 _ rfl
  have f0 := hqf 0
  have f1 := hqf 1
  have f2 := hqf 2
  have f3 := hqf 3
  have hbb : Below w.heap.size w w2 := hb1.trans (hb2.mono (by omega))
  have c0' := (hbb.cell (p := ⟨b, o, none⟩) hb).trans c0
  have c1' := (hbb.cell (p := ⟨b, o + 1, none⟩) hb).trans c1
  have c2' := (hbb.cell (p := ⟨b, o + 2, none⟩) hb).trans c2
  have c3' := (hbb.cell (p := ⟨b, o + 3, none⟩) hb).trans c3
  have hb2w : b < w2.heap.size := by have := hbb.size; omega
  have hne : w2.heap.size ≠ w.heap.size := by omega
  have hne2 : w.heap.size ≠ w2.heap.size := by omega
  have hbn : b ≠ w2.heap.size := by omega
  have hbn2 : b ≠ w.heap.size := by omega
  have HB := hide hbb
  have HQ := hide hq2
  clear e1 hb1 hb2 hs1 hh1 hq2 hqc hqf hbb c0 c1 c2 c3 hb
  have ta0 := fun w => ta_yes (ty := 108) (v := .agg #[.pointer (some ⟨b, o, none⟩)]) (w := w) rfl rfl
  have ta1 := fun w => ta_no (k := 108) (ty := 134) (v := .agg #[.pointer (some ⟨b, o, none⟩)]) (z := .agg #[.pointer none]) (w := w) (by decide) rfl rfl (by go_simp)
  have ta2 := fun w => ta_no (k := 108) (ty := 101) (v := .agg #[.pointer (some ⟨b, o, none⟩)]) (z := .agg #[.pointer none]) (w := w) (by decide) rfl rfl (by go_simp)
  have HX : ∀ o1 o2 o3 o4 : Obj, ((((w2.alloc o1).alloc o2).alloc o3).alloc o4).heap[w.heap.size]? = some (.cells #[.int .i64 0, .string .empty, .string .empty, .int .i64 0] 141) := fun _ _ _ _ => keep_alloc (keep_alloc (keep_alloc (keep_alloc (unhide HQ) _) _) _) _
  have x0 : ∀ o1 o2 o3 o4 : Obj, ((((w2.alloc o1).alloc o2).alloc o3).alloc o4).cell? ⟨w.heap.size, 0, none⟩ = some (.int .i64 0) := fun _ _ _ _ => (blk (HX _ _ _ _)).2.1 0 _ rfl
  have x1 : ∀ o1 o2 o3 o4 : Obj, ((((w2.alloc o1).alloc o2).alloc o3).alloc o4).cell? ⟨w.heap.size, 1, none⟩ = some (.string .empty) := fun _ _ _ _ => (blk (HX _ _ _ _)).2.1 1 _ rfl
  have x2 : ∀ o1 o2 o3 o4 : Obj, ((((w2.alloc o1).alloc o2).alloc o3).alloc o4).cell? ⟨w.heap.size, 2, none⟩ = some (.string .empty) := fun _ _ _ _ => (blk (HX _ _ _ _)).2.1 2 _ rfl
  have x3 : ∀ o1 o2 o3 o4 : Obj, ((((w2.alloc o1).alloc o2).alloc o3).alloc o4).cell? ⟨w.heap.size, 3, none⟩ = some (.int .i64 0) := fun _ _ _ _ => (blk (HX _ _ _ _)).2.1 3 _ rfl
  have y : ∀ (o1 o2 o3 o4 : Obj) (o : Nat), ((((w2.alloc o1).alloc o2).alloc o3).alloc o4).frozen? ⟨w.heap.size, o, none⟩ = false := fun _ _ _ _ o => (blk (HX _ _ _ _)).2.2 o
  have HY := hide HX
  clear HX q0 q1 q2 q3 f0 f1 f2 f3
  go_wp2
  exact ⟨rfl, _, res_row (cs := [.int .i64 t.op, .string .empty, .string t.num, .int .i64 0]) rfl rfl (range_block (fill4 (unhide HY _ _ _ _))) rfl rfl rfl, rfl, ((((four (unhide HB) (Nat.le_of_lt hql) _ _ _ _).setCell (Nat.le_refl _) _).setCell (Nat.le_refl _) _).setCell (Nat.le_refl _) _).setCell (Nat.le_refl _) _⟩
set_option maxRecDepth 100000 in
set_option maxHeartbeats 16000000 in
theorem label_application {w : World} {b o : Nat} {t : Tm} (c0 : w.cell? ⟨b, o, none⟩ = some (.int .i64 t.op)) (c1 : w.cell? ⟨b, o + 1, none⟩ = some (.string t.name)) (c2 : w.cell? ⟨b, o + 2, none⟩ = some (.int .i64 t.sort)) (c3 : w.cell? ⟨b, o + 3, none⟩ = some (.string t.num)) (hb : b < w.heap.size) :
    Calls Tryd.prog 53 #[.iface 134 (.agg #[.pointer (some ⟨b, o, none⟩)])] w (VPost (.agg #[.int .i64 t.op, .string t.name, .string .empty, .int .i64 0]) w) := by
  go_enter Tryd.func53, Tryd.ntmps53
  go_wp2_with fail
  obtain ⟨w1, e1, hb1, hs1, _, hh1⟩ := box_new w #[.int .i64 0, .string .empty, .string .empty, .int .i64 0] 141
  rw [show w.alloc (.cells #[.int .i64 0, .string .empty, .string .empty, .int .i64 0] 141) = w.alloc (.cells #[.int .i64 0, .string { data := #[] }, .string { data := #[] }, .int .i64 0] 141) from rfl] at e1
  rw [e1]
  refine (baseTerm_any (some ⟨b, o, none⟩) w1).mono ?_
  rintro e w2 ⟨rfl, hb2⟩
  have hq2 := (hb2.block w.heap.size (by omega)).trans hh1
  obtain ⟨hql, hqc, hqf⟩ := blk hq2
  have q0 : w2.cell? ⟨w.heap.size, 0, none⟩ = some (.int .i64 0) := hqc 0 _ rfl
  have q1 : w2.cell? ⟨w.heap.size, 1, none⟩ = some (.string .empty) := hqc 1 _ rfl
  have q2 : w2.cell? ⟨w.heap.size, 2, none⟩ = some (.string .empty) := hqc 2 _ rfl
  have q3 : w2.cell? ⟨w.heap.size, 3, none⟩ = some (.int .i64 0) := hqc 3 _ rfl
  have f0 := hqf 0
  have f1 := hqf 1
  have f2 := hqf 2
  have f3 := hqf 3
  have hbb : Below w.heap.size w w2 := hb1.trans (hb2.mono (by omega))
  have c0' := (hbb.cell (p := ⟨b, o, none⟩) hb).trans c0
  have c1' := (hbb.cell (p := ⟨b, o + 1, none⟩) hb).trans c1
  have c2' := (hbb.cell (p := ⟨b, o + 2, none⟩) hb).trans c2
  have c3' := (hbb.cell (p := ⟨b, o + 3, none⟩) hb).trans c3
  have hb2w : b < w2.heap.size := by have := hbb.size; omega
  have hne : w2.heap.size ≠ w.heap.size := by omega
  have hne2 : w.heap.size ≠ w2.heap.size := by omega
  have hbn : b ≠ w2.heap.size := by omega
  have hbn2 : b ≠ w.heap.size := by omega
  have HB := hide hbb
  have HQ := hide hq2
  clear e1 hb1 hb2 hs1 hh1 hq2 hqc hqf hbb c0 c1 c2 c3 hb
  have ta0 := fun w => ta_no (k := 134) (ty := 108) (v := .agg #[.pointer (some ⟨b, o, none⟩)]) (z := .agg #[.pointer none]) (w := w) (by decide) rfl rfl (by go_simp)
  have ta1 := fun w => ta_yes (ty := 134) (v := .agg #[.pointer (some ⟨b, o, none⟩)]) (w := w) rfl rfl
  have ta2 := fun w => ta_no (k := 134) (ty := 101) (v := .agg #[.pointer (some ⟨b, o, none⟩)]) (z := .agg #[.pointer none]) (w := w) (by decide) rfl rfl (by go_simp)
  have HX : ∀ o1 o2 o3 o4 : Obj, ((((w2.alloc o1).alloc o2).alloc o3).alloc o4).heap[w.heap.size]? = some (.cells #[.int .i64 0, .string .empty, .string .empty, .int .i64 0] 141) := fun _ _ _ _ => keep_alloc (keep_alloc (keep_alloc (keep_alloc (unhide HQ) _) _) _) _
  have x0 : ∀ o1 o2 o3 o4 : Obj, ((((w2.alloc o1).alloc o2).alloc o3).alloc o4).cell? ⟨w.heap.size, 0, none⟩ = some (.int .i64 0) := fun _ _ _ _ => (blk (HX _ _ _ _)).2.1 0 _ rfl
  have x1 : ∀ o1 o2 o3 o4 : Obj, ((((w2.alloc o1).alloc o2).alloc o3).alloc o4).cell? ⟨w.heap.size, 1, none⟩ = some (.string .empty) := fun _ _ _ _ => (blk (HX _ _ _ _)).2.1 1 _ rfl
  have x2 : ∀ o1 o2 o3 o4 : Obj, ((((w2.alloc o1).alloc o2).alloc o3).alloc o4).cell? ⟨w.heap.size, 2, none⟩ = some (.string .empty) := fun _ _ _ _ => (blk (HX _ _ _ _)).2.1 2 _ rfl
  have x3 : ∀ o1 o2 o3 o4 : Obj, ((((w2.alloc o1).alloc o2).alloc o3).alloc o4).cell? ⟨w.heap.size, 3, none⟩ = some (.int .i64 0) := fun _ _ _ _ => (blk (HX _ _ _ _)).2.1 3 _ rfl
  have y : ∀ (o1 o2 o3 o4 : Obj) (o : Nat), ((((w2.alloc o1).alloc o2).alloc o3).alloc o4).frozen? ⟨w.heap.size, o, none⟩ = false := fun _ _ _ _ o => (blk (HX _ _ _ _)).2.2 o
  have HY := hide HX
  clear HX q0 q1 q2 q3 f0 f1 f2 f3
  have e1 : ∀ o1 o2 o3 : Obj, (((w2.alloc o1).alloc o2).alloc o3).cell? ⟨b, o + 1, none⟩ = some (.string t.name) := fun _ _ _ => ((three (Below.refl _ w2) (Nat.le_refl _) _ _ _).cell (p := ⟨b, o + 1, none⟩) hb2w).trans c1'
  go_wp2
  exact ⟨rfl, _, res_row (cs := [.int .i64 t.op, .string t.name, .string .empty, .int .i64 0]) rfl rfl (range_block (fill4 (unhide HY _ _ _ _))) rfl rfl rfl, rfl, ((((four (unhide HB) (Nat.le_of_lt hql) _ _ _ _).setCell (Nat.le_refl _) _).setCell (Nat.le_refl _) _).setCell (Nat.le_refl _) _).setCell (Nat.le_refl _) _⟩
set_option maxRecDepth 100000 in
set_option maxHeartbeats 16000000 in
theorem label_variable {w : World} {b o : Nat} {t : Tm} (c0 : w.cell? ⟨b, o, none⟩ = some (.int .i64 t.op)) (c1 : w.cell? ⟨b, o + 1, none⟩ = some (.string t.name)) (c2 : w.cell? ⟨b, o + 2, none⟩ = some (.int .i64 t.sort)) (c3 : w.cell? ⟨b, o + 3, none⟩ = some (.string t.num)) (hb : b < w.heap.size) :
    Calls Tryd.prog 53 #[.iface 101 (.agg #[.pointer (some ⟨b, o, none⟩)])] w (VPost (.agg #[.int .i64 t.op, .string t.name, .string .empty, .int .i64 t.sort]) w) := by
  go_enter Tryd.func53, Tryd.ntmps53
  go_wp2_with fail
  obtain ⟨w1, e1, hb1, hs1, _, hh1⟩ := box_new w #[.int .i64 0, .string .empty, .string .empty, .int .i64 0] 141
  rw [show w.alloc (.cells #[.int .i64 0, .string .empty, .string .empty, .int .i64 0] 141) = w.alloc (.cells #[.int .i64 0, .string { data := #[] }, .string { data := #[] }, .int .i64 0] 141) from rfl] at e1
  rw [e1]
  refine (baseTerm_any (some ⟨b, o, none⟩) w1).mono ?_
  rintro e w2 ⟨rfl, hb2⟩
  have hq2 := (hb2.block w.heap.size (by omega)).trans hh1
  obtain ⟨hql, hqc, hqf⟩ := blk hq2
  have q0 : w2.cell? ⟨w.heap.size, 0, none⟩ = some (.int .i64 0) := hqc 0 _ rfl
  have q1 : w2.cell? ⟨w.heap.size, 1, none⟩ = some (.string .empty) := hqc 1 _ rfl
  have q2 : w2.cell? ⟨w.heap.size, 2, none⟩ = some (.string .empty) := hqc 2 _ rfl
  have q3 : w2.cell? ⟨w.heap.size, 3, none⟩ = some (.int .i64 0) := hqc 3 _ rfl
  have f0 := hqf 0
  have f1 := hqf 1
  have f2 := hqf 2
  have f3 := hqf 3
  have hbb : Below w.heap.size w w2 := hb1.trans (hb2.mono (by omega))
  have c0' := (hbb.cell (p := ⟨b, o, none⟩) hb).trans c0
  have c1' := (hbb.cell (p := ⟨b, o + 1, none⟩) hb).trans c1
  have c2' := (hbb.cell (p := ⟨b, o + 2, none⟩) hb).trans c2
  have c3' := (hbb.cell (p := ⟨b, o + 3, none⟩) hb).trans c3
  have hb2w : b < w2.heap.size := by have := hbb.size; omega
  have hne : w2.heap.size ≠ w.heap.size := by omega
  have hne2 : w.heap.size ≠ w2.heap.size := by omega
  have hbn : b ≠ w2.heap.size := by omega
  have hbn2 : b ≠ w.heap.size := by omega
  have HB := hide hbb
  have HQ := hide hq2
  clear e1 hb1 hb2 hs1 hh1 hq2 hqc hqf hbb c0 c1 c2 c3 hb
  have ta0 := fun w => ta_no (k := 101) (ty := 108) (v := .agg #[.pointer (some ⟨b, o, none⟩)]) (z := .agg #[.pointer none]) (w := w) (by decide) rfl rfl (by go_simp)
  have ta1 := fun w => ta_no (k := 101) (ty := 134) (v := .agg #[.pointer (some ⟨b, o, none⟩)]) (z := .agg #[.pointer none]) (w := w) (by decide) rfl rfl (by go_simp)
  have ta2 := fun w => ta_yes (ty := 101) (v := .agg #[.pointer (some ⟨b, o, none⟩)]) (w := w) rfl rfl
  have HX : ∀ o1 o2 o3 o4 : Obj, ((((w2.alloc o1).alloc o2).alloc o3).alloc o4).heap[w.heap.size]? = some (.cells #[.int .i64 0, .string .empty, .string .empty, .int .i64 0] 141) := fun _ _ _ _ => keep_alloc (keep_alloc (keep_alloc (keep_alloc (unhide HQ) _) _) _) _
  have x0 : ∀ o1 o2 o3 o4 : Obj, ((((w2.alloc o1).alloc o2).alloc o3).alloc o4).cell? ⟨w.heap.size, 0, none⟩ = some (.int .i64 0) := fun _ _ _ _ => (blk (HX _ _ _ _)).2.1 0 _ rfl
  have x1 : ∀ o1 o2 o3 o4 : Obj, ((((w2.alloc o1).alloc o2).alloc o3).alloc o4).cell? ⟨w.heap.size, 1, none⟩ = some (.string .empty) := fun _ _ _ _ => (blk (HX _ _ _ _)).2.1 1 _ rfl
  have x2 : ∀ o1 o2 o3 o4 : Obj, ((((w2.alloc o1).alloc o2).alloc o3).alloc o4).cell? ⟨w.heap.size, 2, none⟩ = some (.string .empty) := fun _ _ _ _ => (blk (HX _ _ _ _)).2.1 2 _ rfl
  have x3 : ∀ o1 o2 o3 o4 : Obj, ((((w2.alloc o1).alloc o2).alloc o3).alloc o4).cell? ⟨w.heap.size, 3, none⟩ = some (.int .i64 0) := fun _ _ _ _ => (blk (HX _ _ _ _)).2.1 3 _ rfl
  have y : ∀ (o1 o2 o3 o4 : Obj) (o : Nat), ((((w2.alloc o1).alloc o2).alloc o3).alloc o4).frozen? ⟨w.heap.size, o, none⟩ = false := fun _ _ _ _ o => (blk (HX _ _ _ _)).2.2 o
  have HY := hide HX
  clear HX q0 q1 q2 q3 f0 f1 f2 f3
  go_wp2
  obtain ⟨W, eW, hWb⟩ : ∃ W, ((((w2.alloc (.cells #[.int .i64 t.op, .string { data := #[] }, .string { data := #[] }, .int .i64 0] 141)).alloc (.cells #[.pointer none] 108)).alloc (.cells #[.pointer none] 134)).alloc (.cells #[.pointer (some ⟨b, o, none⟩)] 101)) = W ∧ Below w2.heap.size w2 W := ⟨_, rfl, four (Below.refl _ w2) (Nat.le_refl _) _ _ _ _⟩
  have a1 : W.heap[w2.heap.size]? = some (.cells #[.int .i64 t.op, .string .empty, .string .empty, .int .i64 0] 141) := by
    rw [← eW]
    exact keep_alloc (keep_alloc (keep_alloc (new_block _ _ _) _) _) _
  have a4 : W.heap[w2.heap.size + 1 + 1 + 1]? = some (.cells #[.pointer (some ⟨b, o, none⟩)] 101) := by
    rw [← eW]
    have h := fun o1 o2 o3 : Obj => new_block (((w2.alloc o1).alloc o2).alloc o3) #[.pointer (some ⟨b, o, none⟩)] 101
    simp only [asize] at h
    exact h _ _ _
  have aq : W.heap[w.heap.size]? = some (.cells #[.int .i64 0, .string .empty, .string .empty, .int .i64 0] 141) := by
    rw [← eW]
    exact unhide HY _ _ _ _
  have n1 : W.cell? ⟨b, o + 1, none⟩ = some (.string t.name) := (hWb.cell (p := ⟨b, o + 1, none⟩) hb2w).trans c1'
  have n2 : W.cell? ⟨b, o + 2, none⟩ = some (.int .i64 t.sort) := (hWb.cell (p := ⟨b, o + 2, none⟩) hb2w).trans c2'
  have HB2 := hide ((unhide HB).trans (hWb.mono (Nat.le_of_lt hql)))
  rw [eW]
  obtain ⟨z1, z2, z3⟩ := blk a1
  have p0 : W.cell? ⟨w2.heap.size, 0, none⟩ = some (.int .i64 t.op) := z2 0 _ rfl
  have p1 : W.cell? ⟨w2.heap.size, 1, none⟩ = some (.string .empty) := z2 1 _ rfl
  have p2 : W.cell? ⟨w2.heap.size, 2, none⟩ = some (.string .empty) := z2 2 _ rfl
  have p3 : W.cell? ⟨w2.heap.size, 3, none⟩ = some (.int .i64 0) := z2 3 _ rfl
  have u1 := z3 1
  have u3 := z3 3
  have pv : W.cell? ⟨w2.heap.size + 1 + 1 + 1, 0, none⟩ = some (.pointer (some ⟨b, o, none⟩)) := (blk a4).2.1 0 _ rfl
  obtain ⟨v1, v2, v3⟩ := blk aq
  have q0 : W.cell? ⟨w.heap.size, 0, none⟩ = some (.int .i64 0) := v2 0 _ rfl
  have q1 : W.cell? ⟨w.heap.size, 1, none⟩ = some (.string .empty) := v2 1 _ rfl
  have q2 : W.cell? ⟨w.heap.size, 2, none⟩ = some (.string .empty) := v2 2 _ rfl
  have q3 : W.cell? ⟨w.heap.size, 3, none⟩ = some (.int .i64 0) := v2 3 _ rfl
  have g0 := v3 0
  have g1 := v3 1
  have g2 := v3 2
  have g3 := v3 3
  have HA := hide aq
  clear x0 x1 x2 x3 y eW hWb a4 aq z2 z3 v2 v3 c0' c1' c2' c3'
  have HP := hide a1
  clear a1
  go_region
  obtain ⟨V, eV, hV1, hV2, hV3⟩ : ∃ V, ((W.setCell ⟨w2.heap.size, 1, none⟩ (.string t.name)).setCell ⟨w2.heap.size, 3, none⟩ (.int .i64 t.sort)).drew = V ∧ V.heap[w2.heap.size]? = some (.cells #[.int .i64 t.op, .string t.name, .string .empty, .int .i64 t.sort] 141) ∧ V.heap[w.heap.size]? = some (.cells #[.int .i64 0, .string .empty, .string .empty, .int .i64 0] 141) ∧ Below w.heap.size w V :=
    ⟨_, rfl, set_block (set_block (unhide HP) _) _, keep_set (keep_set (unhide HA) hne2 _) hne2 _, (((unhide HB2).setCell (Nat.le_of_lt hql) _).setCell (Nat.le_of_lt hql) _).drew⟩
  rw [eV]
  clear eV n1 n2 p0 p1 p2 p3 u1 u3 pv q0 q1 q2 q3 g0 g1 g2 g3 z1 v1 HB2 HP HA
  obtain ⟨z1, z2, z3⟩ := blk hV1
  have p0 : V.cell? ⟨w2.heap.size, 0, none⟩ = some (.int .i64 t.op) := z2 0 _ rfl
  have p1 : V.cell? ⟨w2.heap.size, 1, none⟩ = some (.string t.name) := z2 1 _ rfl
  have p2 : V.cell? ⟨w2.heap.size, 2, none⟩ = some (.string .empty) := z2 2 _ rfl
  have p3 : V.cell? ⟨w2.heap.size, 3, none⟩ = some (.int .i64 t.sort) := z2 3 _ rfl
  obtain ⟨v1, v2, v3⟩ := blk hV2
  have q0 : V.cell? ⟨w.heap.size, 0, none⟩ = some (.int .i64 0) := v2 0 _ rfl
  have q1 : V.cell? ⟨w.heap.size, 1, none⟩ = some (.string .empty) := v2 1 _ rfl
  have q2 : V.cell? ⟨w.heap.size, 2, none⟩ = some (.string .empty) := v2 2 _ rfl
  have q3 : V.cell? ⟨w.heap.size, 3, none⟩ = some (.int .i64 0) := v2 3 _ rfl
  have g0 := v3 0
  have g1 := v3 1
  have g2 := v3 2
  have g3 := v3 3
  have HA := hide hV2
  have HB2 := hide hV3
  clear z1 z2 z3 v1 v2 v3 hV1 hV2 hV3
  go_wp2
  exact ⟨rfl, _, res_row (cs := [.int .i64 t.op, .string t.name, .string .empty, .int .i64 t.sort]) rfl rfl (range_block (fill4 (unhide HA))) rfl rfl rfl, rfl, ((((unhide HB2).setCell (Nat.le_refl _) _).setCell (Nat.le_refl _) _).setCell (Nat.le_refl _) _).setCell (Nat.le_refl _) _⟩
set_option maxRecDepth 100000 in
set_option maxHeartbeats 16000000 in
theorem label_truth {w : World} {b o : Nat} {t : Tm} (c0 : w.cell? ⟨b, o, none⟩ = some (.int .i64 t.op)) (c1 : w.cell? ⟨b, o + 1, none⟩ = some (.string t.name)) (c2 : w.cell? ⟨b, o + 2, none⟩ = some (.int .i64 t.sort)) (c3 : w.cell? ⟨b, o + 3, none⟩ = some (.string t.num)) (hb : b < w.heap.size) :
    Calls Tryd.prog 53 #[.iface 132 (.agg #[.pointer (some ⟨b, o, none⟩)])] w (VPost (.agg #[.int .i64 t.op, .string .empty, .string .empty, .int .i64 0]) w) := by
  go_enter Tryd.func53, Tryd.ntmps53
  go_wp2_with fail
  obtain ⟨w1, e1, hb1, hs1, _, hh1⟩ := box_new w #[.int .i64 0, .string .empty, .string .empty, .int .i64 0] 141
  rw [show w.alloc (.cells #[.int .i64 0, .string .empty, .string .empty, .int .i64 0] 141) = w.alloc (.cells #[.int .i64 0, .string { data := #[] }, .string { data := #[] }, .int .i64 0] 141) from rfl] at e1
  rw [e1]
  refine (baseTerm_any (some ⟨b, o, none⟩) w1).mono ?_
  rintro e w2 ⟨rfl, hb2⟩
  have hq2 := (hb2.block w.heap.size (by omega)).trans hh1
  obtain ⟨hql, hqc, hqf⟩ := blk hq2
  have q0 : w2.cell? ⟨w.heap.size, 0, none⟩ = some (.int .i64 0) := hqc 0 _ rfl
  have q1 : w2.cell? ⟨w.heap.size, 1, none⟩ = some (.string .empty) := hqc 1 _ rfl
  have q2 : w2.cell? ⟨w.heap.size, 2, none⟩ = some (.string .empty) := hqc 2 _ rfl
  have q3 : w2.cell? ⟨w.heap.size, 3, none⟩ = some (.int .i64 0) := hqc 3 _ rfl
  have f0 := hqf 0
  have f1 := hqf 1
  have f2 := hqf 2
  have f3 := hqf 3
  have hbb : Below w.heap.size w w2 := hb1.trans (hb2.mono (by omega))
  have c0' := (hbb.cell (p := ⟨b, o, none⟩) hb).trans c0
  have c1' := (hbb.cell (p := ⟨b, o + 1, none⟩) hb).trans c1
  have c2' := (hbb.cell (p := ⟨b, o + 2, none⟩) hb).trans c2
  have c3' := (hbb.cell (p := ⟨b, o + 3, none⟩) hb).trans c3
  have hb2w : b < w2.heap.size := by have := hbb.size; omega
  have hne : w2.heap.size ≠ w.heap.size := by omega
  have hne2 : w.heap.size ≠ w2.heap.size := by omega
  have hbn : b ≠ w2.heap.size := by omega
  have hbn2 : b ≠ w.heap.size := by omega
  have HB := hide hbb
  have HQ := hide hq2
  clear e1 hb1 hb2 hs1 hh1 hq2 hqc hqf hbb c0 c1 c2 c3 hb
  have ta0 := fun w => ta_no (k := 132) (ty := 108) (v := .agg #[.pointer (some ⟨b, o, none⟩)]) (z := .agg #[.pointer none]) (w := w) (by decide) rfl rfl (by go_simp)
  have ta1 := fun w => ta_no (k := 132) (ty := 134) (v := .agg #[.pointer (some ⟨b, o, none⟩)]) (z := .agg #[.pointer none]) (w := w) (by decide) rfl rfl (by go_simp)
  have ta2 := fun w => ta_no (k := 132) (ty := 101) (v := .agg #[.pointer (some ⟨b, o, none⟩)]) (z := .agg #[.pointer none]) (w := w) (by decide) rfl rfl (by go_simp)
  have HX : ∀ o1 o2 o3 o4 : Obj, ((((w2.alloc o1).alloc o2).alloc o3).alloc o4).heap[w.heap.size]? = some (.cells #[.int .i64 0, .string .empty, .string .empty, .int .i64 0] 141) := fun _ _ _ _ => keep_alloc (keep_alloc (keep_alloc (keep_alloc (unhide HQ) _) _) _) _
  have x0 : ∀ o1 o2 o3 o4 : Obj, ((((w2.alloc o1).alloc o2).alloc o3).alloc o4).cell? ⟨w.heap.size, 0, none⟩ = some (.int .i64 0) := fun _ _ _ _ => (blk (HX _ _ _ _)).2.1 0 _ rfl
  have x1 : ∀ o1 o2 o3 o4 : Obj, ((((w2.alloc o1).alloc o2).alloc o3).alloc o4).cell? ⟨w.heap.size, 1, none⟩ = some (.string .empty) := fun _ _ _ _ => (blk (HX _ _ _ _)).2.1 1 _ rfl
  have x2 : ∀ o1 o2 o3 o4 : Obj, ((((w2.alloc o1).alloc o2).alloc o3).alloc o4).cell? ⟨w.heap.size, 2, none⟩ = some (.string .empty) := fun _ _ _ _ => (blk (HX _ _ _ _)).2.1 2 _ rfl
  have x3 : ∀ o1 o2 o3 o4 : Obj, ((((w2.alloc o1).alloc o2).alloc o3).alloc o4).cell? ⟨w.heap.size, 3, none⟩ = some (.int .i64 0) := fun _ _ _ _ => (blk (HX _ _ _ _)).2.1 3 _ rfl
  have y : ∀ (o1 o2 o3 o4 : Obj) (o : Nat), ((((w2.alloc o1).alloc o2).alloc o3).alloc o4).frozen? ⟨w.heap.size, o, none⟩ = false := fun _ _ _ _ o => (blk (HX _ _ _ _)).2.2 o
  have HY := hide HX
  clear HX q0 q1 q2 q3 f0 f1 f2 f3
  go_wp2
  exact ⟨rfl, _, res_row (cs := [.int .i64 t.op, .string .empty, .string .empty, .int .i64 0]) rfl rfl (range_block (fill4 (unhide HY _ _ _ _))) rfl rfl rfl, rfl, ((((four (unhide HB) (Nat.le_of_lt hql) _ _ _ _).setCell (Nat.le_refl _) _).setCell (Nat.le_refl _) _).setCell (Nat.le_refl _) _).setCell (Nat.le_refl _) _⟩
set_option maxRecDepth 100000 in
set_option maxHeartbeats 16000000 in
theorem label_operation {w : World} {b o : Nat} {t : Tm} (c0 : w.cell? ⟨b, o, none⟩ = some (.int .i64 t.op)) (c1 : w.cell? ⟨b, o + 1, none⟩ = some (.string t.name)) (c2 : w.cell? ⟨b, o + 2, none⟩ = some (.int .i64 t.sort)) (c3 : w.cell? ⟨b, o + 3, none⟩ = some (.string t.num)) (hb : b < w.heap.size) :
    Calls Tryd.prog 53 #[.iface 133 (.agg #[.pointer (some ⟨b, o, none⟩)])] w (VPost (.agg #[.int .i64 t.op, .string .empty, .string .empty, .int .i64 0]) w) := by
  go_enter Tryd.func53, Tryd.ntmps53
  go_wp2_with fail
  obtain ⟨w1, e1, hb1, hs1, _, hh1⟩ := box_new w #[.int .i64 0, .string .empty, .string .empty, .int .i64 0] 141
  rw [show w.alloc (.cells #[.int .i64 0, .string .empty, .string .empty, .int .i64 0] 141) = w.alloc (.cells #[.int .i64 0, .string { data := #[] }, .string { data := #[] }, .int .i64 0] 141) from rfl] at e1
  rw [e1]
  refine (baseTerm_any (some ⟨b, o, none⟩) w1).mono ?_
  rintro e w2 ⟨rfl, hb2⟩
  have hq2 := (hb2.block w.heap.size (by omega)).trans hh1
  obtain ⟨hql, hqc, hqf⟩ := blk hq2
  have q0 : w2.cell? ⟨w.heap.size, 0, none⟩ = some (.int .i64 0) := hqc 0 _ rfl
  have q1 : w2.cell? ⟨w.heap.size, 1, none⟩ = some (.string .empty) := hqc 1 _ rfl
  have q2 : w2.cell? ⟨w.heap.size, 2, none⟩ = some (.string .empty) := hqc 2 _ rfl
  have q3 : w2.cell? ⟨w.heap.size, 3, none⟩ = some (.int .i64 0) := hqc 3 _ rfl
  have f0 := hqf 0
  have f1 := hqf 1
  have f2 := hqf 2
  have f3 := hqf 3
  have hbb : Below w.heap.size w w2 := hb1.trans (hb2.mono (by omega))
  have c0' := (hbb.cell (p := ⟨b, o, none⟩) hb).trans c0
  have c1' := (hbb.cell (p := ⟨b, o + 1, none⟩) hb).trans c1
  have c2' := (hbb.cell (p := ⟨b, o + 2, none⟩) hb).trans c2
  have c3' := (hbb.cell (p := ⟨b, o + 3, none⟩) hb).trans c3
  have hb2w : b < w2.heap.size := by have := hbb.size; omega
  have hne : w2.heap.size ≠ w.heap.size := by omega
  have hne2 : w.heap.size ≠ w2.heap.size := by omega
  have hbn : b ≠ w2.heap.size := by omega
  have hbn2 : b ≠ w.heap.size := by omega
  have HB := hide hbb
  have HQ := hide hq2
  clear e1 hb1 hb2 hs1 hh1 hq2 hqc hqf hbb c0 c1 c2 c3 hb
  have ta0 := fun w => ta_no (k := 133) (ty := 108) (v := .agg #[.pointer (some ⟨b, o, none⟩)]) (z := .agg #[.pointer none]) (w := w) (by decide) rfl rfl (by go_simp)
  have ta1 := fun w => ta_no (k := 133) (ty := 134) (v := .agg #[.pointer (some ⟨b, o, none⟩)]) (z := .agg #[.pointer none]) (w := w) (by decide) rfl rfl (by go_simp)
  have ta2 := fun w => ta_no (k := 133) (ty := 101) (v := .agg #[.pointer (some ⟨b, o, none⟩)]) (z := .agg #[.pointer none]) (w := w) (by decide) rfl rfl (by go_simp)
  have HX : ∀ o1 o2 o3 o4 : Obj, ((((w2.alloc o1).alloc o2).alloc o3).alloc o4).heap[w.heap.size]? = some (.cells #[.int .i64 0, .string .empty, .string .empty, .int .i64 0] 141) := fun _ _ _ _ => keep_alloc (keep_alloc (keep_alloc (keep_alloc (unhide HQ) _) _) _) _
  have x0 : ∀ o1 o2 o3 o4 : Obj, ((((w2.alloc o1).alloc o2).alloc o3).alloc o4).cell? ⟨w.heap.size, 0, none⟩ = some (.int .i64 0) := fun _ _ _ _ => (blk (HX _ _ _ _)).2.1 0 _ rfl
  have x1 : ∀ o1 o2 o3 o4 : Obj, ((((w2.alloc o1).alloc o2).alloc o3).alloc o4).cell? ⟨w.heap.size, 1, none⟩ = some (.string .empty) := fun _ _ _ _ => (blk (HX _ _ _ _)).2.1 1 _ rfl
  have x2 : ∀ o1 o2 o3 o4 : Obj, ((((w2.alloc o1).alloc o2).alloc o3).alloc o4).cell? ⟨w.heap.size, 2, none⟩ = some (.string .empty) := fun _ _ _ _ => (blk (HX _ _ _ _)).2.1 2 _ rfl
  have x3 : ∀ o1 o2 o3 o4 : Obj, ((((w2.alloc o1).alloc o2).alloc o3).alloc o4).cell? ⟨w.heap.size, 3, none⟩ = some (.int .i64 0) := fun _ _ _ _ => (blk (HX _ _ _ _)).2.1 3 _ rfl
  have y : ∀ (o1 o2 o3 o4 : Obj) (o : Nat), ((((w2.alloc o1).alloc o2).alloc o3).alloc o4).frozen? ⟨w.heap.size, o, none⟩ = false := fun _ _ _ _ o => (blk (HX _ _ _ _)).2.2 o
  have HY := hide HX
  clear HX q0 q1 q2 q3 f0 f1 f2 f3
  go_wp2
  exact ⟨rfl, _, res_row (cs := [.int .i64 t.op, .string .empty, .string .empty, .int .i64 0]) rfl rfl (range_block (fill4 (unhide HY _ _ _ _))) rfl rfl rfl, rfl, ((((four (unhide HB) (Nat.le_of_lt hql) _ _ _ _).setCell (Nat.le_refl _) _).setCell (Nat.le_refl _) _).setCell (Nat.le_refl _) _).setCell (Nat.le_refl _) _⟩
set_option maxRecDepth 100000 in
set_option maxHeartbeats 16000000 in
theorem label_universal {w : World} {b o : Nat} {t : Tm} (c0 : w.cell? ⟨b, o, none⟩ = some (.int .i64 t.op)) (c1 : w.cell? ⟨b, o + 1, none⟩ = some (.string t.name)) (c2 : w.cell? ⟨b, o + 2, none⟩ = some (.int .i64 t.sort)) (c3 : w.cell? ⟨b, o + 3, none⟩ = some (.string t.num)) (hb : b < w.heap.size) :
    Calls Tryd.prog 53 #[.iface 82 (.agg #[.pointer (some ⟨b, o, none⟩)])] w (VPost (.agg #[.int .i64 t.op, .string .empty, .string .empty, .int .i64 0]) w) := by
  go_enter Tryd.func53, Tryd.ntmps53
  go_wp2_with fail
  obtain ⟨w1, e1, hb1, hs1, _, hh1⟩ := box_new w #[.int .i64 0, .string .empty, .string .empty, .int .i64 0] 141
  rw [show w.alloc (.cells #[.int .i64 0, .string .empty, .string .empty, .int .i64 0] 141) = w.alloc (.cells #[.int .i64 0, .string { data := #[] }, .string { data := #[] }, .int .i64 0] 141) from rfl] at e1
  rw [e1]
  refine (baseTerm_any (some ⟨b, o, none⟩) w1).mono ?_
  rintro e w2 ⟨rfl, hb2⟩
  have hq2 := (hb2.block w.heap.size (by omega)).trans hh1
  obtain ⟨hql, hqc, hqf⟩ := blk hq2
  have q0 : w2.cell? ⟨w.heap.size, 0, none⟩ = some (.int .i64 0) := hqc 0 _ rfl
  have q1 : w2.cell? ⟨w.heap.size, 1, none⟩ = some (.string .empty) := hqc 1 _ rfl
  have q2 : w2.cell? ⟨w.heap.size, 2, none⟩ = some (.string .empty) := hqc 2 _ rfl
  have q3 : w2.cell? ⟨w.heap.size, 3, none⟩ = some (.int .i64 0) := hqc 3 _ rfl
  have f0 := hqf 0
  have f1 := hqf 1
  have f2 := hqf 2
  have f3 := hqf 3
  have hbb : Below w.heap.size w w2 := hb1.trans (hb2.mono (by omega))
  have c0' := (hbb.cell (p := ⟨b, o, none⟩) hb).trans c0
  have c1' := (hbb.cell (p := ⟨b, o + 1, none⟩) hb).trans c1
  have c2' := (hbb.cell (p := ⟨b, o + 2, none⟩) hb).trans c2
  have c3' := (hbb.cell (p := ⟨b, o + 3, none⟩) hb).trans c3
  have hb2w : b < w2.heap.size := by have := hbb.size; omega
  have hne : w2.heap.size ≠ w.heap.size := by omega
  have hne2 : w.heap.size ≠ w2.heap.size := by omega
  have hbn : b ≠ w2.heap.size := by omega
  have hbn2 : b ≠ w.heap.size := by omega
  have HB := hide hbb
  have HQ := hide hq2
  clear e1 hb1 hb2 hs1 hh1 hq2 hqc hqf hbb c0 c1 c2 c3 hb
  have ta0 := fun w => ta_no (k := 82) (ty := 108) (v := .agg #[.pointer (some ⟨b, o, none⟩)]) (z := .agg #[.pointer none]) (w := w) (by decide) rfl rfl (by go_simp)
  have ta1 := fun w => ta_no (k := 82) (ty := 134) (v := .agg #[.pointer (some ⟨b, o, none⟩)]) (z := .agg #[.pointer none]) (w := w) (by decide) rfl rfl (by go_simp)
  have ta2 := fun w => ta_no (k := 82) (ty := 101) (v := .agg #[.pointer (some ⟨b, o, none⟩)]) (z := .agg #[.pointer none]) (w := w) (by decide) rfl rfl (by go_simp)
  have HX : ∀ o1 o2 o3 o4 : Obj, ((((w2.alloc o1).alloc o2).alloc o3).alloc o4).heap[w.heap.size]? = some (.cells #[.int .i64 0, .string .empty, .string .empty, .int .i64 0] 141) := fun _ _ _ _ => keep_alloc (keep_alloc (keep_alloc (keep_alloc (unhide HQ) _) _) _) _
  have x0 : ∀ o1 o2 o3 o4 : Obj, ((((w2.alloc o1).alloc o2).alloc o3).alloc o4).cell? ⟨w.heap.size, 0, none⟩ = some (.int .i64 0) := fun _ _ _ _ => (blk (HX _ _ _ _)).2.1 0 _ rfl
  have x1 : ∀ o1 o2 o3 o4 : Obj, ((((w2.alloc o1).alloc o2).alloc o3).alloc o4).cell? ⟨w.heap.size, 1, none⟩ = some (.string .empty) := fun _ _ _ _ => (blk (HX _ _ _ _)).2.1 1 _ rfl
  have x2 : ∀ o1 o2 o3 o4 : Obj, ((((w2.alloc o1).alloc o2).alloc o3).alloc o4).cell? ⟨w.heap.size, 2, none⟩ = some (.string .empty) := fun _ _ _ _ => (blk (HX _ _ _ _)).2.1 2 _ rfl
  have x3 : ∀ o1 o2 o3 o4 : Obj, ((((w2.alloc o1).alloc o2).alloc o3).alloc o4).cell? ⟨w.heap.size, 3, none⟩ = some (.int .i64 0) := fun _ _ _ _ => (blk (HX _ _ _ _)).2.1 3 _ rfl
  have y : ∀ (o1 o2 o3 o4 : Obj) (o : Nat), ((((w2.alloc o1).alloc o2).alloc o3).alloc o4).frozen? ⟨w.heap.size, o, none⟩ = false := fun _ _ _ _ o => (blk (HX _ _ _ _)).2.2 o
  have HY := hide HX
  clear HX q0 q1 q2 q3 f0 f1 f2 f3
  go_wp2
  exact ⟨rfl, _, res_row (cs := [.int .i64 t.op, .string .empty, .string .empty, .int .i64 0]) rfl rfl (range_block (fill4 (unhide HY _ _ _ _))) rfl rfl rfl, rfl, ((((four (unhide HB) (Nat.le_of_lt hql) _ _ _ _).setCell (Nat.le_refl _) _).setCell (Nat.le_refl _) _).setCell (Nat.le_refl _) _).setCell (Nat.le_refl _) _⟩
set_option maxRecDepth 100000 in
set_option maxHeartbeats 16000000 in
theorem label_stranger {w : World} {b o : Nat} {t : Tm} (c0 : w.cell? ⟨b, o, none⟩ = some (.int .i64 t.op)) (c1 : w.cell? ⟨b, o + 1, none⟩ = some (.string t.name)) (c2 : w.cell? ⟨b, o + 2, none⟩ = some (.int .i64 t.sort)) (c3 : w.cell? ⟨b, o + 3, none⟩ = some (.string t.num)) (hb : b < w.heap.size) :
    Calls Tryd.prog 53 #[.iface 135 (.agg #[.pointer (some ⟨b, o, none⟩)])] w (VPost (.agg #[.int .i64 t.op, .string .empty, .string .empty, .int .i64 0]) w) := by
  go_enter Tryd.func53, Tryd.ntmps53
  go_wp2_with fail
  obtain ⟨w1, e1, hb1, hs1, _, hh1⟩ := box_new w #[.int .i64 0, .string .empty, .string .empty, .int .i64 0] 141
  rw [show w.alloc (.cells #[.int .i64 0, .string .empty, .string .empty, .int .i64 0] 141) = w.alloc (.cells #[.int .i64 0, .string { data := #[] }, .string { data := #[] }, .int .i64 0] 141) from rfl] at e1
  rw [e1]
  refine (baseTerm_any (some ⟨b, o, none⟩) w1).mono ?_
  rintro e w2 ⟨rfl, hb2⟩
  have hq2 := (hb2.block w.heap.size (by omega)).trans hh1
  obtain ⟨hql, hqc, hqf⟩ := blk hq2
  have q0 : w2.cell? ⟨w.heap.size, 0, none⟩ = some (.int .i64 0) := hqc 0 _ rfl
  have q1 : w2.cell? ⟨w.heap.size, 1, none⟩ = some (.string .empty) := hqc 1 _ rfl
  have q2 : w2.cell? ⟨w.heap.size, 2, none⟩ = some (.string .empty) := hqc 2 _ rfl
  have q3 : w2.cell? ⟨w.heap.size, 3, none⟩ = some (.int .i64 0) := hqc 3 _ rfl
  have f0 := hqf 0
  have f1 := hqf 1
  have f2 := hqf 2
  have f3 := hqf 3
  have hbb : Below w.heap.size w w2 := hb1.trans (hb2.mono (by omega))
  have c0' := (hbb.cell (p := ⟨b, o, none⟩) hb).trans c0
  have c1' := (hbb.cell (p := ⟨b, o + 1, none⟩) hb).trans c1
  have c2' := (hbb.cell (p := ⟨b, o + 2, none⟩) hb).trans c2
  have c3' := (hbb.cell (p := ⟨b, o + 3, none⟩) hb).trans c3
  have hb2w : b < w2.heap.size := by have := hbb.size; omega
  have hne : w2.heap.size ≠ w.heap.size := by omega
  have hne2 : w.heap.size ≠ w2.heap.size := by omega
  have hbn : b ≠ w2.heap.size := by omega
  have hbn2 : b ≠ w.heap.size := by omega
  have HB := hide hbb
  have HQ := hide hq2
  clear e1 hb1 hb2 hs1 hh1 hq2 hqc hqf hbb c0 c1 c2 c3 hb
  have ta0 := fun w => ta_no (k := 135) (ty := 108) (v := .agg #[.pointer (some ⟨b, o, none⟩)]) (z := .agg #[.pointer none]) (w := w) (by decide) rfl rfl (by go_simp)
  have ta1 := fun w => ta_no (k := 135) (ty := 134) (v := .agg #[.pointer (some ⟨b, o, none⟩)]) (z := .agg #[.pointer none]) (w := w) (by decide) rfl rfl (by go_simp)
  have ta2 := fun w => ta_no (k := 135) (ty := 101) (v := .agg #[.pointer (some ⟨b, o, none⟩)]) (z := .agg #[.pointer none]) (w := w) (by decide) rfl rfl (by go_simp)
  have HX : ∀ o1 o2 o3 o4 : Obj, ((((w2.alloc o1).alloc o2).alloc o3).alloc o4).heap[w.heap.size]? = some (.cells #[.int .i64 0, .string .empty, .string .empty, .int .i64 0] 141) := fun _ _ _ _ => keep_alloc (keep_alloc (keep_alloc (keep_alloc (unhide HQ) _) _) _) _
  have x0 : ∀ o1 o2 o3 o4 : Obj, ((((w2.alloc o1).alloc o2).alloc o3).alloc o4).cell? ⟨w.heap.size, 0, none⟩ = some (.int .i64 0) := fun _ _ _ _ => (blk (HX _ _ _ _)).2.1 0 _ rfl
  have x1 : ∀ o1 o2 o3 o4 : Obj, ((((w2.alloc o1).alloc o2).alloc o3).alloc o4).cell? ⟨w.heap.size, 1, none⟩ = some (.string .empty) := fun _ _ _ _ => (blk (HX _ _ _ _)).2.1 1 _ rfl
  have x2 : ∀ o1 o2 o3 o4 : Obj, ((((w2.alloc o1).alloc o2).alloc o3).alloc o4).cell? ⟨w.heap.size, 2, none⟩ = some (.string .empty) := fun _ _ _ _ => (blk (HX _ _ _ _)).2.1 2 _ rfl
  have x3 : ∀ o1 o2 o3 o4 : Obj, ((((w2.alloc o1).alloc o2).alloc o3).alloc o4).cell? ⟨w.heap.size, 3, none⟩ = some (.int .i64 0) := fun _ _ _ _ => (blk (HX _ _ _ _)).2.1 3 _ rfl
  have y : ∀ (o1 o2 o3 o4 : Obj) (o : Nat), ((((w2.alloc o1).alloc o2).alloc o3).alloc o4).frozen? ⟨w.heap.size, o, none⟩ = false := fun _ _ _ _ o => (blk (HX _ _ _ _)).2.2 o
  have HY := hide HX
  clear HX q0 q1 q2 q3 f0 f1 f2 f3
  go_wp2
  exact ⟨rfl, _, res_row (cs := [.int .i64 t.op, .string .empty, .string .empty, .int .i64 0]) rfl rfl (range_block (fill4 (unhide HY _ _ _ _))) rfl rfl rfl, rfl, ((((four (unhide HB) (Nat.le_of_lt hql) _ _ _ _).setCell (Nat.le_refl _) _).setCell (Nat.le_refl _) _).setCell (Nat.le_refl _) _).setCell (Nat.le_refl _) _⟩
/-- A term's label: the operator, and the fields that it names. -/
def Tm.label (t : Tm) : Value :=
  .agg #[.int .i64 t.op, .string (if t.op = 17 ∨ t.op = 18 then t.name else .empty), .string (if t.op = 1 then t.num else .empty), .int .i64 (if t.op = 18 then t.sort else 0)]
theorem labelOf_any {w : World} {b o : Nat} {t : Tm} (c0 : w.cell? ⟨b, o, none⟩ = some (.int .i64 t.op)) (c1 : w.cell? ⟨b, o + 1, none⟩ = some (.string t.name)) (c2 : w.cell? ⟨b, o + 2, none⟩ = some (.int .i64 t.sort)) (c3 : w.cell? ⟨b, o + 3, none⟩ = some (.string t.num)) (hb : b < w.heap.size) :
    Calls Tryd.prog 53 #[.iface (kindOf t.op) (.agg #[.pointer (some ⟨b, o, none⟩)])] w (VPost t.label w) := by
  unfold kindOf Tm.label
  by_cases h1 : t.op = 1
  · rw [if_pos h1, if_pos h1, if_neg (by omega), if_neg (by omega)]
    exact label_numeral c0 c1 c2 c3 hb
  rw [if_neg h1, if_neg h1]
  by_cases h2 : t.op = 2 ∨ t.op = 3
  · rw [if_pos h2, if_neg (by omega), if_neg (by omega)]
    exact label_truth c0 c1 c2 c3 hb
  rw [if_neg h2]
  by_cases h3 : 4 ≤ t.op ∧ t.op ≤ 16
  · rw [if_pos h3, if_neg (by omega), if_neg (by omega)]
    exact label_operation c0 c1 c2 c3 hb
  rw [if_neg h3]
  by_cases h4 : t.op = 17
  · rw [if_pos h4, if_pos (Or.inl h4), if_neg (by omega)]
    exact label_application c0 c1 c2 c3 hb
  rw [if_neg h4]
  by_cases h5 : t.op = 18
  · rw [if_pos h5, if_pos (Or.inr h5), if_pos h5]
    exact label_variable c0 c1 c2 c3 hb
  rw [if_neg h5, if_neg (show ¬(t.op = 17 ∨ t.op = 18) by omega), if_neg h5]
  by_cases h6 : t.op = 19
  · rw [if_pos h6]
    exact label_universal c0 c1 c2 c3 hb
  · rw [if_neg h6]
    exact label_stranger c0 c1 c2 c3 hb
end Go.Proofs.YtegmckpcchhmdaaDoor

namespace Go.Proofs.YtegmckpcchhmdaaDoor
open Go Go.RowKit
theorem below_drewN {B : Nat} {w w' : World} (h : Below B w w') (n : Nat) : Below B w (w'.drewN n) := ⟨h.os, h.tape, h.output, h.size, h.block⟩
theorem str_ne {a b : ByteArray} (h : ¬ a = b) : (a.toList == b.toList) = false := by
  rw [ByteArray.toList_eq, ByteArray.toList_eq]
  cases a with
  | mk a =>
    cases b with
    | mk b =>
      cases a with
      | mk a =>
        cases b with
        | mk b =>
          rw [beq_eq_false_iff_ne]
          intro e
          have e' : a = b := e
          exact h (by rw [e'])
/-- The bound variables that a slice holds. -/
def BR (w : World) (x : List (ByteArray × Int)) (b o j : Nat) : Prop := ∀ u, x[j]? = some u → w.rangeAt b o [.string u.1, .int .i64 u.2] ∧ fits u.2
end Go.Proofs.YtegmckpcchhmdaaDoor
