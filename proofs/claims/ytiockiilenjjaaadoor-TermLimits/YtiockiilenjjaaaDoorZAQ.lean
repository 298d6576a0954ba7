/- Numbers of terms and of lists: plain facts; the keys that they are kept by. -/
import Derived.Test.YtiockiilenjjaaaDoorZAP
import Derived.Test.YtiockiilenjjaaaDoorZAH
import Derived.LaidEqlPtr
set_option linter.unusedVariables false
set_option linter.unusedSimpArgs false

/- Copies: all terms; what Inst's fill answers. -/
namespace Go.Proofs.YtiockiilenjjaaaDoor
open Go Go.RowKit
theorem yterm_no : ∀ d, YTermC (fun _ => none) 0 (.map none) d
  | 0 => fun _ _ _ _ _ _ _ _ _ h => h.elim
  | d + 1 => fun B r w b o t hid cp u hT hS hW hBr hcp hu hh => by
    have hr := rep_no hid t.op t.name
    by_cases h19 : t.op = 19
    · exact yterm_all (ylist_of (yterm_no d)) hT hS hW hBr hcp hu hh hr h19
    · exact yterm_plain (ylist_of (yterm_no d)) hT hS hW hBr hcp hu hh hr h19
theorem yterm_any {sub : ByteArray → Option Tm} (dl : Nat) (sv : Value) (hSub : ∀ k u, sub k = some u → u.wt ≤ 400000) : ∀ d, YTermC sub dl sv d
  | 0 => fun _ _ _ _ _ _ _ _ _ h => h.elim
  | d + 1 => fun B r w b o t hid cp u hT hS hW hBr hcp hu hh => by
    cases hr : rep sub hid t.op t.name with
    | some x => exact yterm_some (yterm_no dl) hSub hT hS hW hBr hcp hu hr
    | none =>
      by_cases h19 : t.op = 19
      · exact yterm_all (ylist_of (yterm_any dl sv hSub d)) hT hS hW hBr hcp hu hh hr h19
      · exact yterm_plain (ylist_of (yterm_any dl sv hSub d)) hT hS hW hBr hcp hu hh hr h19
/-- Two results, the first of which lies in memory. -/
theorem res_row2 {P : Program} {W : World} {fn : Func} {tmps : Array Value} {t b o t2 : Nat} {ty : TypeId} {cs : List Value} {d : TypeDesc} {v : Value} (hf : fn.results = #[.cell t ty, .tmp t2]) (ht : tmps[t]? = some (.pointer (some ⟨b, o, none⟩))) (h2 : tmps[t2]? = some v) (hr : W.rangeAt b o cs)
    (hu : P.underlying ty = some d) (hd : d.isRow = true) (hi : (P.info? ty).map (·.size) = some cs.length) : (results fn tmps).run P W = .ok (.tuple #[.agg cs.toArray, v]) W := by
  have h := run_loadVar_mid (P := P) W b o ty cs d hr hu hd hi
  simp [results, hf, ht, h2, asAddr, h]
/-- A term with nothing in it. -/
def zeroT : Value := .agg #[.int .i64 0, .string ⟨#[]⟩, .int .i64 0, .string ⟨#[]⟩, .slice none 0 0, .slice none 0 0, .slice none 0 0]
def FillR (T D : Nat) (t : Tm) (k : Nat) (w w' : World) (v : Value) (er : Int) : Prop := (50000 < T ∧ er = 34 ∧ v = zeroT) ∨ (T ≤ 50000 ∧ 200 < D ∧ er = 33 ∧ v = zeroT) ∨ (T ≤ 50000 ∧ D ≤ 200 ∧ er = 0 ∧ IsP w' (FB w.heap.size w') k v t)
set_option maxRecDepth 1000000 in
set_option maxHeartbeats 16000000 in
theorem fill_any {sub : ByteArray → Option Tm} {dl d : Nat} {sv : Value} (hSub : SubOk sub) (hSw : ∀ k u, sub k = some u → u.wt ≤ 400000) {B : Nat} {w : World} {b o : Nat} {t : Tm} (hT : TmAt w B d b o t) (hS : SLv w B sv dl sub (fun _ => 0)) (hB : B ≤ w.heap.size) (hwt : t.wt ≤ 400000) (hd : d + dl ≤ 65536) (hic : t.isz sub (fun _ => 0) ≤ 50000 → t.icp sub (fun _ => 0) ≤ 21474836) :
    Calls Tryd.prog 47 #[.pointer (some ⟨b, o, none⟩), sv] w fun e w' => ∃ v er, e = .returned (.tuple #[v, .int .i64 er]) ∧ Below B w w' ∧ FillR (t.isz sub (fun _ => 0)) (t.idp sub (fun _ => 0)) (t.inst sub (fun _ => 0)) (d + dl) w w' v er := by
  obtain ⟨mx, rfl⟩ : ∃ mx, sv = .map mx := by rcases hS with ⟨rfl, _⟩ | ⟨rs, rfl, _⟩ <;> exact ⟨_, rfl⟩
  obtain ⟨T, eT⟩ : ∃ T, t.isz sub (fun _ => 0) = T := ⟨_, rfl⟩
  obtain ⟨D, eD⟩ : ∃ T, t.idp sub (fun _ => 0) = T := ⟨_, rfl⟩
  obtain ⟨ti, eti⟩ : ∃ T, t.inst sub (fun _ => 0) = T := ⟨_, rfl⟩
  have HTI := hide eti
  have hh : ∀ k : ByteArray, (0 : Int) ≤ (fun _ => (0 : Int)) k ∧ ((fun _ => (0 : Int)) k) + (t.wt : Int) ≤ 400000 := fun k => ⟨Int.le_refl _, by simp only; omega⟩
  obtain ⟨A, eA, hbA, hsA, hcA, hhA⟩ := box_new w #[.int .i64 0, .string ⟨#[]⟩, .int .i64 0, .string ⟨#[]⟩, .slice none 0 0, .slice none 0 0, .slice none 0 0] 26
  obtain ⟨C, eC, hbC, hsC, hcC, hhC⟩ := box_new A #[.map mx, .int .i64 0, .int .i64 0] 145
  have hb0C : Below w.heap.size w C := hbA.trans (hbC.mono (by omega))
  have HW := hide (weigh_any dl (.map mx) hSub d B A.heap.size C b o t (fun _ => 0) 0 0 1 (hT.more (hb0C.mono hB) (Nat.le_refl _) (Nat.le_refl _)) (hS.below hb0C (Nat.le_refl _)) hhC (by omega) (by omega) (by omega) (by omega) (by omega) hh)
  rw [eT, eD] at HW
  rw [hsA] at HW
  have hzC : C.heap[w.heap.size]? = some (.cells #[.int .i64 0, .string ⟨#[]⟩, .int .i64 0, .string ⟨#[]⟩, .slice none 0 0, .slice none 0 0, .slice none 0 0] 26) := (hbC.block _ (by omega)).trans hhA
  have HI := hide (And.intro hT (And.intro hS (And.intro hb0C (And.intro hzC (And.intro hsA (And.intro hsC (And.intro eT (And.intro eD (And.intro hic (And.intro hh hSw))))))))))
  have HE := hide (And.intro eA eC)
  rw [eT, eD, eti]
  clear hbA hsA hcA hhA hbC hsC hcC hhC hb0C hzC hT hS hic hh hSw hSub eT eD eA eC eti
  go_enter Tryd.func47, Tryd.ntmps47
  go_wp2_with fail
  obtain ⟨eA, eC⟩ := unhide HE
  rw [eA, eC]
  clear eA eC
  refine (unhide HW).mono ?_
  rintro e w1 ⟨rfl, s1, d1, hW1, hR1, hS1, hX1⟩
  obtain ⟨hT, hS, hb0C, hzC, hsA, hsC, eT, eD, hic, hh, hSw⟩ := unhide HI
  have x1 : w1.cell? ⟨w.heap.size + 1, 1, none⟩ = some (.int .i64 (s1 : Int)) := (blk hW1).2.1 1 _ rfl
  have x2 : w1.cell? ⟨w.heap.size + 1, 2, none⟩ = some (.int .i64 (d1 : Int)) := (blk hW1).2.1 2 _ rfl
  have hz1 := hX1.blk hzC (by omega) (by decide)
  have hbel1 : Below B w w1 := (hb0C.mono hB).trans (hX1.below (by have := hb0C.size; omega))
  have hw1 : w.heap.size + 2 ≤ w1.heap.size := by have := hX1.size; omega
  have hs2 : s1 ≤ 200000 := by obtain ⟨_, h | h⟩ := hR1 <;> omega
  have hd2 : d1 ≤ 2000000 := hR1.1
  by_cases hT5 : 50000 < T
  · have hg : 50000 < s1 := by obtain ⟨_, h | h⟩ := hR1 <;> omega
    have hd1 : decide ((50000 : Int) < (s1 : Int)) = true := by simp; omega
    have z0 : w1.cell? ⟨w.heap.size, 0, none⟩ = some (.int .i64 0) := (blk hz1).2.1 0 _ rfl
    have zf0 := (blk hz1).2.2 0
    have z1 : w1.cell? ⟨w.heap.size, 1, none⟩ = some (.string ⟨#[]⟩) := (blk hz1).2.1 1 _ rfl
    have zf1 := (blk hz1).2.2 1
    have z2 : w1.cell? ⟨w.heap.size, 2, none⟩ = some (.int .i64 0) := (blk hz1).2.1 2 _ rfl
    have zf2 := (blk hz1).2.2 2
    have z3 : w1.cell? ⟨w.heap.size, 3, none⟩ = some (.string ⟨#[]⟩) := (blk hz1).2.1 3 _ rfl
    have zf3 := (blk hz1).2.2 3
    have z4 : w1.cell? ⟨w.heap.size, 4, none⟩ = some (.slice none 0 0) := (blk hz1).2.1 4 _ rfl
    have zf4 := (blk hz1).2.2 4
    have z5 : w1.cell? ⟨w.heap.size, 5, none⟩ = some (.slice none 0 0) := (blk hz1).2.1 5 _ rfl
    have zf5 := (blk hz1).2.2 5
    have z6 : w1.cell? ⟨w.heap.size, 6, none⟩ = some (.slice none 0 0) := (blk hz1).2.1 6 _ rfl
    have zf6 := (blk hz1).2.2 6
    have HF := hide (And.intro hz1 (And.intro hbel1 hT5))
    clear hT hS hb0C hzC hsA hsC eT eD hic hh hSw hW1 hR1 hS1 hX1 hz1 hbel1 hw1 hs2 hd2 hT5 hg
    go_wp2
    obtain ⟨hz1, hbel1, hT5⟩ := unhide HF
    refine ⟨rfl, _, res_row2 (cs := [.int .i64 0, .string ⟨#[]⟩, .int .i64 0, .string ⟨#[]⟩, .slice none 0 0, .slice none 0 0, .slice none 0 0]) rfl rfl rfl (range_block (fill7 hz1)) rfl rfl rfl, zeroT, 34, rfl, ?_, .inl ⟨hT5, rfl, rfl⟩⟩
    exact hbel1.trans (put7_below hB)
  have hT6 : T ≤ 50000 := by omega
  obtain ⟨rfl, rfl⟩ : s1 = T ∧ d1 = D := by obtain ⟨_, h | h⟩ := hR1 <;> omega
  have hd1 : decide ((50000 : Int) < (s1 : Int)) = false := by simp; omega
  by_cases hD2 : 200 < d1
  · have hd3 : decide ((200 : Int) < (d1 : Int)) = true := by simp; omega
    have z0 : w1.cell? ⟨w.heap.size, 0, none⟩ = some (.int .i64 0) := (blk hz1).2.1 0 _ rfl
    have zf0 := (blk hz1).2.2 0
    have z1 : w1.cell? ⟨w.heap.size, 1, none⟩ = some (.string ⟨#[]⟩) := (blk hz1).2.1 1 _ rfl
    have zf1 := (blk hz1).2.2 1
    have z2 : w1.cell? ⟨w.heap.size, 2, none⟩ = some (.int .i64 0) := (blk hz1).2.1 2 _ rfl
    have zf2 := (blk hz1).2.2 2
    have z3 : w1.cell? ⟨w.heap.size, 3, none⟩ = some (.string ⟨#[]⟩) := (blk hz1).2.1 3 _ rfl
    have zf3 := (blk hz1).2.2 3
    have z4 : w1.cell? ⟨w.heap.size, 4, none⟩ = some (.slice none 0 0) := (blk hz1).2.1 4 _ rfl
    have zf4 := (blk hz1).2.2 4
    have z5 : w1.cell? ⟨w.heap.size, 5, none⟩ = some (.slice none 0 0) := (blk hz1).2.1 5 _ rfl
    have zf5 := (blk hz1).2.2 5
    have z6 : w1.cell? ⟨w.heap.size, 6, none⟩ = some (.slice none 0 0) := (blk hz1).2.1 6 _ rfl
    have zf6 := (blk hz1).2.2 6
    have HF := hide (And.intro hz1 (And.intro hbel1 (And.intro hT6 hD2)))
    clear hT hS hb0C hzC hsA hsC eT eD hic hh hSw hW1 hR1 hS1 hX1 hz1 hbel1 hw1 hs2 hd2 hT5 hT6 hD2
    go_wp2
    obtain ⟨hz1, hbel1, hT6, hD2⟩ := unhide HF
    refine ⟨rfl, _, res_row2 (cs := [.int .i64 0, .string ⟨#[]⟩, .int .i64 0, .string ⟨#[]⟩, .slice none 0 0, .slice none 0 0, .slice none 0 0]) rfl rfl rfl (range_block (fill7 hz1)) rfl rfl rfl, zeroT, 33, rfl, ?_, .inr (.inl ⟨hT6, hD2, rfl, rfl⟩)⟩
    exact hbel1.trans (put7_below hB)
  have hd3 : decide ((200 : Int) < (d1 : Int)) = false := by simp; omega
  have hD3 : d1 ≤ 200 := by omega
  obtain ⟨G, eG, hbG, hsG, hcG, hhG⟩ := box_new w1 #[.map mx, .int .i64 0, .bool false] 147
  have HC := hide (yterm_any dl (.map mx) hSw d B w1.heap.size G b o t (fun _ => 0) 0 0 (hT.more (hbel1.trans (hbG.mono (by omega))) (Nat.le_refl _) (Nat.le_refl _)) (hS1.below hbG (Nat.le_refl _)) hhG (by omega) (by have := hic (by omega); omega) (by omega) hh)
  rw [unhide HTI] at HC
  have hzG := (hbG.block w.heap.size (by omega)).trans hz1
  have HF := hide (And.intro hzG (And.intro (hbel1.trans (hbG.mono (by omega))) (And.intro hT6 (And.intro hD3 (And.intro hsG hw1)))))
  have HEG := hide eG
  clear hT hS hb0C hzC hsA hsC eT eD hic hh hSw hW1 hR1 hS1 hX1 hz1 hbel1 hw1 hs2 hd2 hT5 hT6 hD2 hD3 hbG hsG hcG hhG hzG eG
  go_wp2_with fail
  rw [unhide HEG]
  clear x1 x2
  refine (unhide HC).mono ?_
  rintro e w2 ⟨v, rfl, hI2, hW2, hS2, hX2, hB2⟩
  obtain ⟨hzG, hbelG, hT6, hD3, hsG, hw1⟩ := unhide HF
  have hz2 := hX2.blk hzG (by omega) (by decide)
  have y2 : w2.cell? ⟨w1.heap.size, 2, none⟩ = some (.bool false) := (blk hW2).2.1 2 _ rfl
  have hbel2 : Below B w w2 := hbelG.trans (hX2.below (by omega))
  have hI3 := hI2
  obtain ⟨g1, g2, aL, aV, aP, cL, cV, cP, rfl, _, _, _⟩ := hI2
  obtain ⟨nL, enL⟩ : ∃ n, ti.l.length = n := ⟨_, rfl⟩
  obtain ⟨nV, enV⟩ : ∃ n, ti.vars.length = n := ⟨_, rfl⟩
  obtain ⟨nP, enP⟩ : ∃ n, ti.pat.length = n := ⟨_, rfl⟩
  simp only [tcells, List.toArray] at hI3 ⊢
  rw [enL, enV, enP] at hI3 ⊢
  have hw2 : w.heap.size < w2.heap.size := (blk hz2).1
  have hne1 : w.heap.size ≠ w1.heap.size := by omega
  have hne2 : w.heap.size ≠ w2.heap.size := by omega
  have hne3 : w2.heap.size ≠ w.heap.size := by omega
  have hne4 : w1.heap.size < w2.heap.size := (blk hW2).1
  have hne5 : w1.heap.size ≠ w2.heap.size := by omega
  obtain ⟨H, eH, hbH, hsH, hcH, hhH⟩ := box_new w2 #[.int .i64 ti.op, .string ti.name, .int .i64 ti.sort, .string ti.num, .slice aL nL cL, .slice aV nV cV, .slice aP nP cP] 26
  have yH : H.cell? ⟨w1.heap.size, 2, none⟩ = some (.bool false) := (hbH.cell (p := ⟨w1.heap.size, 2, none⟩) hne4).trans y2
  have hzH := (hbH.block w.heap.size hw2).trans hz2
  have z0 : H.cell? ⟨w.heap.size, 0, none⟩ = some (.int .i64 0) := (blk hzH).2.1 0 _ rfl
  have zf0 := (blk hzH).2.2 0
  have z1 : H.cell? ⟨w.heap.size, 1, none⟩ = some (.string ⟨#[]⟩) := (blk hzH).2.1 1 _ rfl
  have zf1 := (blk hzH).2.2 1
  have z2 : H.cell? ⟨w.heap.size, 2, none⟩ = some (.int .i64 0) := (blk hzH).2.1 2 _ rfl
  have zf2 := (blk hzH).2.2 2
  have z3 : H.cell? ⟨w.heap.size, 3, none⟩ = some (.string ⟨#[]⟩) := (blk hzH).2.1 3 _ rfl
  have zf3 := (blk hzH).2.2 3
  have z4 : H.cell? ⟨w.heap.size, 4, none⟩ = some (.slice none 0 0) := (blk hzH).2.1 4 _ rfl
  have zf4 := (blk hzH).2.2 4
  have z5 : H.cell? ⟨w.heap.size, 5, none⟩ = some (.slice none 0 0) := (blk hzH).2.1 5 _ rfl
  have zf5 := (blk hzH).2.2 5
  have z6 : H.cell? ⟨w.heap.size, 6, none⟩ = some (.slice none 0 0) := (blk hzH).2.1 6 _ rfl
  have zf6 := (blk hzH).2.2 6
  have h0 : H.cell? ⟨w2.heap.size, 0, none⟩ = some (.int .i64 ti.op) := (blk hhH).2.1 0 _ rfl
  have h1 : H.cell? ⟨w2.heap.size, 1, none⟩ = some (.string ti.name) := (blk hhH).2.1 1 _ rfl
  have h2 : H.cell? ⟨w2.heap.size, 2, none⟩ = some (.int .i64 ti.sort) := (blk hhH).2.1 2 _ rfl
  have h3 : H.cell? ⟨w2.heap.size, 3, none⟩ = some (.string ti.num) := (blk hhH).2.1 3 _ rfl
  have h4 : H.cell? ⟨w2.heap.size, 4, none⟩ = some (.slice aL nL cL) := (blk hhH).2.1 4 _ rfl
  have h5 : H.cell? ⟨w2.heap.size, 5, none⟩ = some (.slice aV nV cV) := (blk hhH).2.1 5 _ rfl
  have h6 : H.cell? ⟨w2.heap.size, 6, none⟩ = some (.slice aP nP cP) := (blk hhH).2.1 6 _ rfl
  have HZ := hide (And.intro hzH (And.intro hbel2 (And.intro hbH (And.intro hI3 (And.intro hsG (And.intro hw1 hhH))))))
  clear hI3 hW2 hS2 hX2 hB2 hzG hbelG hT6 hD3 hsG hw1 hz2 hbel2 g1 g2 enL enV enP hbH hsH hcH hhH hzH y2
  go_wp2
  obtain ⟨hzH, hbel2, hbH, hI3, hsG, hw1, hhH⟩ := unhide HZ
  obtain ⟨_, _, hT6, hD3, _, _⟩ := unhide HF
  refine ⟨rfl, _, res_row2 (cs := [.int .i64 ti.op, .string ti.name, .int .i64 ti.sort, .string ti.num, .slice aL nL cL, .slice aV nV cV, .slice aP nP cP]) rfl rfl rfl (range_block (fill7 hzH)) rfl rfl rfl, _, 0, rfl, ?_, .inr (.inr ⟨hT6, hD3, rfl, ?_⟩)⟩
  · exact (hbel2.trans (hbH.mono (by have := hbel2.size; omega))).trans (put7_below hB)
  · refine hI3.keep (fun k hk => ?_) (Nat.le_refl _)
    have h1 := hk.1
    have h2 := hk.2.1
    refine hk.keep (by omega) (Nat.le_trans hbH.size (put7_below (B := B) hB).size) ?_
    exact (put7_far (w := H) (g := w.heap.size) (m := 0) (a := .int .i64 ti.op) (b := .string ti.name) (c := .int .i64 ti.sort) (d := .string ti.num) (e := .slice aL nL cL) (f := .slice aV nV cV) (h := .slice aP nP cP) (by omega)).trans (hbH.block k h2)
end Go.Proofs.YtiockiilenjjaaaDoor

/- Inst. -/
namespace Go.Proofs.YtiockiilenjjaaaDoor
open Go Go.RowKit
/-- What Inst answers. -/
def InstR (t : Tm) (lm : List Tm) (k : Nat) (w w' : World) (v : Value) (er : Int) : Prop := (¬ (t.op = 19 ∧ t.l.length = 1 ∧ t.vars.length = lm.length) ∧ er = 30 ∧ v = zeroT) ∨ (t.op = 19 ∧ t.vars.length = lm.length ∧ ∃ x, t.l = [x] ∧ FillR (x.isz (subV t.vars lm) (fun _ => 0)) (x.idp (subV t.vars lm) (fun _ => 0)) (x.inst (subV t.vars lm) (fun _ => 0)) k w w' v er)
theorem FillR.form {T D k : Nat} {t : Tm} {w w' : World} {v : Value} {er : Int} (h : FillR T D t k w w' v er) : ∃ (x0 : Int) (x1 : ByteArray) (x2 : Int) (x3 : ByteArray) (y4 : Option Addr) (n4 c4 : Nat) (y5 : Option Addr) (n5 c5 : Nat) (y6 : Option Addr) (n6 c6 : Nat), v = .agg #[.int .i64 x0, .string x1, .int .i64 x2, .string x3, .slice y4 n4 c4, .slice y5 n5 c5, .slice y6 n6 c6] ∧ 0 ≤ er ∧ er ≤ 34 := by
  rcases h with ⟨_, rfl, rfl⟩ | ⟨_, _, rfl, rfl⟩ | ⟨_, _, rfl, _, _, aL, aV, aP, cL, cV, cP, rfl, _⟩
  · exact ⟨_, _, _, _, _, _, _, _, _, _, _, _, _, rfl, by omega, by omega⟩
  · exact ⟨_, _, _, _, _, _, _, _, _, _, _, _, _, rfl, by omega, by omega⟩
  · exact ⟨_, _, _, _, _, _, _, _, _, _, _, _, _, rfl, by omega, by omega⟩
theorem FillR.keep {T D k : Nat} {t : Tm} {w0 w w' w2 : World} {v : Value} {er : Int} (h : FillR T D t k w0 w' v er) (hs : w.heap.size ≤ w0.heap.size) (hs2 : w'.heap.size ≤ w2.heap.size) (hk : ∀ j, w0.heap.size ≤ j → j < w'.heap.size → w2.heap[j]? = w'.heap[j]?) : FillR T D t k w w2 v er := by
  rcases h with h | h | ⟨h1, h2, h3, h4⟩
  · exact .inl h
  · exact .inr (.inl h)
  · exact .inr (.inr ⟨h1, h2, h3, h4.keep (fun j hj => hj.keep hs hs2 (hk j hj.1 hj.2.1)) (Nat.le_refl _)⟩)
theorem subV_mem : ∀ (vs : List (ByteArray × Int)) (ts : List Tm) (k : ByteArray) (u : Tm), subV vs ts k = some u → u ∈ ts
  | [], _, k, u, h => by simp [subV] at h
  | _ :: _, [], k, u, h => by simp [subV] at h
  | v :: vs, t :: ts, k, u, h => by
    simp only [subV] at h
    split at h
    · injection h with h
      exact h ▸ List.mem_cons_self
    · exact List.mem_cons_of_mem _ (subV_mem vs ts k u h)
set_option maxRecDepth 1000000 in
set_option maxHeartbeats 16000000 in
theorem Inst_any {w : World} {B d m cm : Nat} {am : Option Addr} {v : Value} {t : Tm} {lm : List Tm} (hT : IsT w B d v t) (hl : Row B am m cm 7 (fun b o j => ∀ u, lm[j]? = some u → TmAt w B d b o u)) (hm : m = lm.length) (hB : B ≤ w.heap.size) (hd : d + d ≤ 65535) (hwt : t.wt ≤ 400000) (hlm : ∀ u ∈ lm, u.size ≤ 65536 ∧ u.depth ≤ 65537 ∧ u.wt ≤ 400000) (hic : ∀ x, t.l = [x] → x.isz (subV t.vars lm) (fun _ => 0) ≤ 50000 → x.icp (subV t.vars lm) (fun _ => 0) ≤ 21474836) :
    Calls Tryd.prog 26 #[v, .slice am m cm] w fun e w' => ∃ v' er, e = .returned (.tuple #[v', .int .i64 er]) ∧ Below w.heap.size w w' ∧ InstR t lm (d + d) w w' v' er := by
  have hT2 := hT
  obtain ⟨_, _, aL, aV, aP, cL, cV, cP, rfl, _, hV, _⟩ := hT
  have hTb := hT2.boxed hB
  clear hT2
  simp only [tcells, List.toArray] at hTb ⊢
  obtain ⟨nL, hnL⟩ : ∃ n, t.l.length = n := ⟨_, rfl⟩
  obtain ⟨nV, hnV⟩ : ∃ n, t.vars.length = n := ⟨_, rfl⟩
  obtain ⟨nP, hnP⟩ : ∃ n, t.pat.length = n := ⟨_, rfl⟩
  rw [hnL, hnV, hnP] at hTb ⊢
  obtain ⟨A, eA, hbA, hsA, hcA, hhA⟩ := box_new w #[.int .i64 t.op, .string t.name, .int .i64 t.sort, .string t.num, .slice aL nL cL, .slice aV nV cV, .slice aP nP cP] 26
  rw [eA] at hTb
  obtain ⟨C, eC, hbC, hsC, hcC, hhC⟩ := box_new A #[.int .i64 0, .string ⟨#[]⟩, .int .i64 0, .string ⟨#[]⟩, .slice none 0 0, .slice none 0 0, .slice none 0 0] 26
  have hTC : TmAt C (w.heap.size + 2) (d + 1) w.heap.size 0 t := hTb.more (hbC.mono (by omega)) (by omega) (Nat.le_refl _)
  have hb0C : Below w.heap.size w C := hbA.trans (hbC.mono (by omega))
  have HBo := hide (bodyOf_any hTC (by omega))
  have hhC' : C.heap[w.heap.size + 1]? = some (.cells #[.int .i64 0, .string ⟨#[]⟩, .int .i64 0, .string ⟨#[]⟩, .slice none 0 0, .slice none 0 0, .slice none 0 0] 26) := by rw [← hsA]; exact hhC
  have hhAC := (hbC.block w.heap.size (by omega)).trans hhA
  have hnVm : nV ≤ 281474976710656 := by rw [← hnV]; exact hV.2.1
  have hmm : m ≤ 281474976710656 := hl.2.1
  have HI := hide (And.intro hV (And.intro hl (And.intro hTC (And.intro hb0C (And.intro hhC' (And.intro hhAC (And.intro hm (And.intro hnV (And.intro hwt (And.intro hlm hic))))))))))
  have HS := hide (And.intro hsA hsC)
  have HE := hide (And.intro eA eC)
  clear hTb hV hl hbA hsA hcA hhA hbC hsC hcC hhC hTC hb0C hhC' hhAC hm hnV hnL hnP hwt hlm hic eA eC
  go_enter Tryd.func26, Tryd.ntmps26
  go_wp2_with fail
  obtain ⟨eA, eC⟩ := unhide HE
  rw [eA, eC]
  clear eA eC
  refine (unhide HBo).mono ?_
  rintro e w1 ⟨hb1, h1⟩
  obtain ⟨hV, hl, hTC, hb0C, hzC, haC, hm, hnV, hwt, hlm, hic⟩ := unhide HI
  obtain ⟨hsA, hsC⟩ := unhide HS
  have hz1 := (hb1.block (w.heap.size + 1) (by omega)).trans hzC
  have ha1 := (hb1.block w.heap.size (by omega)).trans haC
  have a5 : w1.cell? ⟨w.heap.size, 5, none⟩ = some (.slice aV nV cV) := (blk ha1).2.1 5 _ rfl
  have hb01 : Below w.heap.size w w1 := hb0C.trans (hb1.mono (by omega))
  have hw1 : w.heap.size + 2 ≤ w1.heap.size := by have := hb1.size; omega
  rcases h1 with ⟨hno, rfl⟩ | ⟨h19, x, b', o', ex, rfl, d', hd', hTx⟩
  ·
    have z0 : w1.cell? ⟨w.heap.size + 1, 0, none⟩ = some (.int .i64 0) := (blk hz1).2.1 0 _ rfl
    have zf0 := (blk hz1).2.2 0
    have z1 : w1.cell? ⟨w.heap.size + 1, 1, none⟩ = some (.string ⟨#[]⟩) := (blk hz1).2.1 1 _ rfl
    have zf1 := (blk hz1).2.2 1
    have z2 : w1.cell? ⟨w.heap.size + 1, 2, none⟩ = some (.int .i64 0) := (blk hz1).2.1 2 _ rfl
    have zf2 := (blk hz1).2.2 2
    have z3 : w1.cell? ⟨w.heap.size + 1, 3, none⟩ = some (.string ⟨#[]⟩) := (blk hz1).2.1 3 _ rfl
    have zf3 := (blk hz1).2.2 3
    have z4 : w1.cell? ⟨w.heap.size + 1, 4, none⟩ = some (.slice none 0 0) := (blk hz1).2.1 4 _ rfl
    have zf4 := (blk hz1).2.2 4
    have z5 : w1.cell? ⟨w.heap.size + 1, 5, none⟩ = some (.slice none 0 0) := (blk hz1).2.1 5 _ rfl
    have zf5 := (blk hz1).2.2 5
    have z6 : w1.cell? ⟨w.heap.size + 1, 6, none⟩ = some (.slice none 0 0) := (blk hz1).2.1 6 _ rfl
    have zf6 := (blk hz1).2.2 6
    have HF := hide (And.intro hz1 (And.intro hb01 hno))
    clear hV hl hTC hb0C hzC haC hm hnV hwt hlm hic hsA hsC hz1 ha1 hb01 hno hb1
    go_wp2
    obtain ⟨hz1, hb01, hno⟩ := unhide HF
    refine ⟨rfl, _, res_row2 (cs := [.int .i64 0, .string ⟨#[]⟩, .int .i64 0, .string ⟨#[]⟩, .slice none 0 0, .slice none 0 0, .slice none 0 0]) rfl rfl rfl (range_block (fill7 hz1)) rfl rfl rfl, zeroT, 30, rfl, ?_, .inl ⟨fun h => hno ⟨h.1, h.2.1⟩, rfl, rfl⟩⟩
    exact hb01.trans (put7_below (by omega))
  by_cases hlen : m = nV
  · have hd1 : decide ((m : Int) = (nV : Int)) = true := by simp; omega
    have hd2 : ((m : Int) == (nV : Int)) = true := by simp; omega
    have hd3 : ((m : Int) != (nV : Int)) = false := by simp; omega
    obtain rfl : d' = d := by omega
    have hbB : Below B w w1 := hb01.mono hB
    have HNs := hide (newSlots_any (w := w1) (B := w.heap.size + 2) (dl := d') (n := nV) (c := cV) (a := aV) (x := t.vars) (m := m) (cm := cm) (am := am) (l := lm) (by
      rw [hnV] at hV
      exact hV.mono (by omega) fun b o j hb2 h u hu => ⟨rangeAt_below (h u hu).1 hb2 hbB, (h u hu).2⟩) hnV.symm (hl.mono (by omega) fun b o j hb2 h u hu => (h u hu).more hbB (by omega) (Nat.le_refl _)) hm (by omega) hw1 (fun u hu => ⟨(hlm u hu).1, (hlm u hu).2.1⟩))
    have hTx1 : TmAt w1 (w.heap.size + 2) d' b' o' x := hTx.more (hb1.mono (by omega)) (Nat.le_refl _) (Nat.le_refl _)
    have HF := hide (And.intro hz1 (And.intro hb01 (And.intro hTx1 (And.intro h19 (And.intro ex (And.intro hlen (And.intro hw1 hd')))))))
    clear hV hl hTC hb0C hzC haC hm hnV hwt hlm hic hsA hsC hz1 ha1 hb01 hb1 h19 ex hTx hlen hbB hTx1 hd' hw1
    go_wp2_with fail
    refine (unhide HNs).mono ?_
    rintro e w2 ⟨rs, rfl, hrs, hS2, hb2⟩
    obtain ⟨hz1, hb01, hTx1, h19, ex, hlen, hw1, hd'⟩ := unhide HF
    obtain ⟨hV, hl, hTC, hb0C, hzC, haC, hm, hnV, hwt, hlm, hic⟩ := unhide HI
    have hw2 : w.heap.size + 2 ≤ w2.heap.size := by have := hb2.size; omega
    have hz2 := (hb2.block (w.heap.size + 1) (by omega)).trans hz1
    have hb02 : Below w.heap.size w w2 := hb01.trans (hb2.mono (by omega))
    have hxw : x.wt ≤ 400000 := by
      rw [t.wt_eq, ex] at hwt
      simp at hwt
      omega
    have HFi := hide (fill_any (sub := subV t.vars lm) (dl := d') (d := d') (sv := .map (some rs)) (fun k u hu => ⟨(hlm u (subV_mem _ _ _ _ hu)).1, (hlm u (subV_mem _ _ _ _ hu)).2.1⟩) (fun k u hu => (hlm u (subV_mem _ _ _ _ hu)).2.2) (B := w.heap.size + 2) (w := w2) (b := b') (o := o') (t := x) (hTx1.more (hb2.mono hw1) (Nat.le_refl _) (Nat.le_refl _)) (.inr ⟨rs, rfl, hS2⟩) hw2 hxw (by omega) (hic x ex))
    have HG := hide (And.intro hz2 (And.intro hb02 hw2))
    clear hV hl hTC hb0C hzC haC hm hnV hwt hlm hic hz1 hb01 hTx1 h19 ex hlen hw1 hz2 hb02 hw2 hxw hrs hS2 hb2 hd'
    go_wp2_with fail
    refine (unhide HFi).mono ?_
    rintro e w3 ⟨v', er, rfl, hb3, hR3⟩
    obtain ⟨hz2, hb02, hw2⟩ := unhide HG
    have hz3 := (hb3.block (w.heap.size + 1) (by omega)).trans hz2
    have hb03 : Below w.heap.size w w3 := hb02.trans (hb3.mono (by omega))
    obtain ⟨x0, x1, x2, x3, y4, n4, c4, y5, n5, c5, y6, n6, c6, rfl, he0, he1⟩ := hR3.form
    have z0 : w3.cell? ⟨w.heap.size + 1, 0, none⟩ = some (.int .i64 0) := (blk hz3).2.1 0 _ rfl
    have zf0 := (blk hz3).2.2 0
    have z1 : w3.cell? ⟨w.heap.size + 1, 1, none⟩ = some (.string ⟨#[]⟩) := (blk hz3).2.1 1 _ rfl
    have zf1 := (blk hz3).2.2 1
    have z2 : w3.cell? ⟨w.heap.size + 1, 2, none⟩ = some (.int .i64 0) := (blk hz3).2.1 2 _ rfl
    have zf2 := (blk hz3).2.2 2
    have z3 : w3.cell? ⟨w.heap.size + 1, 3, none⟩ = some (.string ⟨#[]⟩) := (blk hz3).2.1 3 _ rfl
    have zf3 := (blk hz3).2.2 3
    have z4 : w3.cell? ⟨w.heap.size + 1, 4, none⟩ = some (.slice none 0 0) := (blk hz3).2.1 4 _ rfl
    have zf4 := (blk hz3).2.2 4
    have z5 : w3.cell? ⟨w.heap.size + 1, 5, none⟩ = some (.slice none 0 0) := (blk hz3).2.1 5 _ rfl
    have zf5 := (blk hz3).2.2 5
    have z6 : w3.cell? ⟨w.heap.size + 1, 6, none⟩ = some (.slice none 0 0) := (blk hz3).2.1 6 _ rfl
    have zf6 := (blk hz3).2.2 6
    have HH := hide (And.intro hz3 (And.intro hb03 (And.intro hR3 hw2)))
    clear hz2 hb02 hw2 hz3 hb03 hR3 hb3
    go_wp2
    obtain ⟨hz3, hb03, hR3, hw2⟩ := unhide HH
    obtain ⟨hz1, hb01, hTx1, h19, ex, hlen, hw1, hd'⟩ := unhide HF
    obtain ⟨hV, hl, hTC, hb0C, hzC, haC, hm, hnV, hwt, hlm, hic⟩ := unhide HI
    refine ⟨rfl, _, res_row2 (cs := [.int .i64 x0, .string x1, .int .i64 x2, .string x3, .slice y4 n4 c4, .slice y5 n5 c5, .slice y6 n6 c6]) rfl rfl rfl (range_block (fill7 hz3)) rfl rfl rfl, _, er, rfl, ?_, .inr ⟨h19, by omega, x, ex, hR3.keep (by omega) (put7_below (B := w.heap.size) (w := w3) (g := w.heap.size + 1) (m := 0) (a := .int .i64 x0) (b := .string x1) (c := .int .i64 x2) (d := .string x3) (e := .slice y4 n4 c4) (f := .slice y5 n5 c5) (h := .slice y6 n6 c6) (by omega)).size fun j h1 h2 => put7_far (w := w3) (g := w.heap.size + 1) (m := 0) (a := .int .i64 x0) (b := .string x1) (c := .int .i64 x2) (d := .string x3) (e := .slice y4 n4 c4) (f := .slice y5 n5 c5) (h := .slice y6 n6 c6) (by omega)⟩⟩
    exact hb03.trans (put7_below (by omega))
  · have hd1 : decide ((m : Int) = (nV : Int)) = false := by simp; omega
    have hd2 : ((m : Int) == (nV : Int)) = false := by simp; omega
    have hd3 : ((m : Int) != (nV : Int)) = true := by simp; omega
    have z0 : w1.cell? ⟨w.heap.size + 1, 0, none⟩ = some (.int .i64 0) := (blk hz1).2.1 0 _ rfl
    have zf0 := (blk hz1).2.2 0
    have z1 : w1.cell? ⟨w.heap.size + 1, 1, none⟩ = some (.string ⟨#[]⟩) := (blk hz1).2.1 1 _ rfl
    have zf1 := (blk hz1).2.2 1
    have z2 : w1.cell? ⟨w.heap.size + 1, 2, none⟩ = some (.int .i64 0) := (blk hz1).2.1 2 _ rfl
    have zf2 := (blk hz1).2.2 2
    have z3 : w1.cell? ⟨w.heap.size + 1, 3, none⟩ = some (.string ⟨#[]⟩) := (blk hz1).2.1 3 _ rfl
    have zf3 := (blk hz1).2.2 3
    have z4 : w1.cell? ⟨w.heap.size + 1, 4, none⟩ = some (.slice none 0 0) := (blk hz1).2.1 4 _ rfl
    have zf4 := (blk hz1).2.2 4
    have z5 : w1.cell? ⟨w.heap.size + 1, 5, none⟩ = some (.slice none 0 0) := (blk hz1).2.1 5 _ rfl
    have zf5 := (blk hz1).2.2 5
    have z6 : w1.cell? ⟨w.heap.size + 1, 6, none⟩ = some (.slice none 0 0) := (blk hz1).2.1 6 _ rfl
    have zf6 := (blk hz1).2.2 6
    have HF := hide (And.intro hz1 (And.intro hb01 (And.intro hlen (And.intro hm hnV))))
    clear hV hl hTC hb0C hzC haC hm hnV hwt hlm hic hsA hsC hz1 ha1 hb01 hb1 hlen h19 ex hTx hd'
    go_wp2
    obtain ⟨hz1, hb01, hlen, hm, hnV⟩ := unhide HF
    refine ⟨rfl, _, res_row2 (cs := [.int .i64 0, .string ⟨#[]⟩, .int .i64 0, .string ⟨#[]⟩, .slice none 0 0, .slice none 0 0, .slice none 0 0]) rfl rfl rfl (range_block (fill7 hz1)) rfl rfl rfl, zeroT, 30, rfl, ?_, .inl ⟨fun h => hlen (by omega), rfl, rfl⟩⟩
    exact hb01.trans (put7_below (by omega))
end Go.Proofs.YtiockiilenjjaaaDoor

/- Maps by keys of any kind whose comparisons are known: what hangs on no program. -/
set_option linter.unusedSectionVars false
namespace Go.Proofs.YtiockiilenjjaaaDoor
open Go Go.RowKit
section
variable {κ : Type} [DecidableEq κ]
/-- A map holds these, in this order. -/
def GM (kv : κ → Value) (w : World) (r : Nat) (es : List (κ × Value)) : Prop := ∃ (a : Array MapEntry) (c : Nat), w.heap[r]? = some (.map a c) ∧ a.toList.map (fun e => (e.key, e.val)) = es.map (fun p => (kv p.1, p.2))
def lookG (k : κ) : List (κ × Value) → Option Value
  | [] => none
  | p :: l => if k = p.1 then some p.2 else lookG k l
def putG (k : κ) (v : Value) : List (κ × Value) → List (κ × Value)
  | [] => [(k, v)]
  | p :: l => if k = p.1 then (k, v) :: l else p :: putG k v l
theorem lookG_put (k j : κ) (v : Value) (es : List (κ × Value)) : lookG j (putG k v es) = if j = k then some v else lookG j es := by
  induction es with
  | nil => simp [putG, lookG]
  | cons p l ih =>
    unfold putG
    by_cases hk : k = p.1
    · rw [if_pos hk]
      simp only [lookG]
      by_cases hj : j = k
      · simp [hj]
      · rw [if_neg hj, if_neg hj, if_neg (by rw [← hk]; exact hj)]
    · rw [if_neg hk]
      simp only [lookG, ih]
      by_cases hj : j = k
      · subst hj
        simp [hk]
      · simp [hj]
theorem putG_new (k : κ) (v : Value) : ∀ (es : List (κ × Value)), lookG k es = none → putG k v es = es ++ [(k, v)]
  | [], _ => rfl
  | p :: l, h => by
    simp only [lookG] at h
    split at h
    · cases h
    · rename_i hk
      rw [putG, if_neg hk, putG_new k v l h]
      rfl
theorem putG_mem {k : κ} {v : Value} : ∀ {es : List (κ × Value)} {p : κ × Value}, p ∈ putG k v es → p = (k, v) ∨ p ∈ es
  | [], p, h => by
    simp only [putG, List.mem_singleton] at h
    exact .inl h
  | q :: l, p, h => by
    unfold putG at h
    split at h
    · rcases List.mem_cons.1 h with h | h
      · exact .inl h
      · exact .inr (List.mem_cons_of_mem _ h)
    · rcases List.mem_cons.1 h with h | h
      · exact .inr (h ▸ List.mem_cons_self)
      · rcases putG_mem h with h | h
        · exact .inl h
        · exact .inr (List.mem_cons_of_mem _ h)
variable {P : Program} {mt kt et : TypeId} {kv : κ → Value} {ds : TypeDesc}
/-- Two keys are compared as they are. -/
def KEq (P : Program) (kt : TypeId) (kv : κ → Value) (w : World) (a b : κ) : Prop := (Op.equal kt (kv a) (kv b)).run P w = .ok (decide (a = b)) w
theorem find_gm {k : κ} {w : World} : ∀ (es : List (κ × Value)) (l : List MapEntry) (i : Nat), l.map (fun e => (e.key, e.val)) = es.map (fun p => (kv p.1, p.2)) → (∀ p ∈ es, KEq P kt kv w k p.1) →
    (lookG k es = none ∧ (Instr.findAsking kt (kv k) l i).run P w = .ok none w) ∨
    ∃ j v0, lookG k es = some v0 ∧ (Instr.findAsking kt (kv k) l i).run P w = .ok (some (i + j, v0)) w ∧ (∃ h : j < l.length, l[j].key = kv k) ∧ ∀ v, (l.modify j fun e => { e with key := kv k, val := v }).map (fun e => (e.key, e.val)) = (putG k v es).map (fun p => (kv p.1, p.2))
  | [], l, i, h, _ => by
    have : l = [] := by simpa using h
    subst this
    exact .inl ⟨rfl, rfl⟩
  | p :: es, [], i, h, _ => by simp at h
  | p :: es, e :: l, i, h, hq => by
    simp only [List.map_cons, List.cons.injEq, Prod.mk.injEq] at h
    obtain ⟨⟨h1, h2⟩, h3⟩ := h
    have hp := hq p List.mem_cons_self
    unfold KEq at hp
    by_cases hk : k = p.1
    · refine .inr ⟨0, p.2, by simp [lookG, hk], ?_, ⟨by simp, by simp [h1, hk]⟩, fun v => ?_⟩
      · rw [decide_eq_true hk] at hp
        simp [Instr.findAsking, h1, hp, h2]
      · simp [putG, hk, h3]
    · have hs : (Instr.findAsking kt (kv k) (e :: l) i).run P w = (Instr.findAsking kt (kv k) l (i + 1)).run P w := by
        simp [Instr.findAsking, h1, hp, hk]
      rcases find_gm (k := k) es l (i + 1) h3 (fun q hq' => hq q (List.mem_cons_of_mem _ hq')) with ⟨a1, a2⟩ | ⟨j, v0, a1, a2, ⟨a3, a4⟩, a5⟩
      · exact .inl ⟨by simp [lookG, hk, a1], hs.trans a2⟩
      · refine .inr ⟨j + 1, v0, by simp [lookG, hk, a1], by rw [hs, a2]; congr 3; omega, ⟨by simp; omega, by simpa using a4⟩, fun v => ?_⟩
        have := a5 v
        simp only [List.modify_succ_cons, List.map_cons, putG, if_neg hk, this, h1, h2]
/-- What is wanted of a type of keys. -/
structure KOk (P : Program) (kt : TypeId) (kv : κ → Value) (ds : TypeDesc) : Prop where
  un : P.underlying kt = some ds
  now : ∀ a b, Instr.sameNow ds a b = none
  chk : ∀ w em k, (Instr.checkKey em 10000 kt (kv k)).run P w = .ok () w
  bits : ∀ k, Instr.sameBits 10000 (kv k) (kv k) = true
theorem findKey_asks (K : KOk P kt kv ds) (k : κ) (w : World) (l : List MapEntry) : (Instr.findKey kt (kv k) l).run P w = (Instr.findAsking kt (kv k) l 0).run P w := by
  cases l with
  | nil => simp [Instr.findKey, run_underlying K.un, Instr.findNow, Instr.findAsking]
  | cons e l => simp [Instr.findKey, run_underlying K.un, Instr.findNow, K.now]
theorem gm_lookup (K : KOk P kt kv ds) {w : World} {r : Nat} {es : List (κ × Value)} {k : κ} {z : Value} (um : P.underlying mt = some (.map kt et)) (hz : (zeroValue et).run P w = .ok z w) (h : GM kv w r es) (hq : ∀ p ∈ es, KEq P kt kv w k p.1) :
    (Instr.lookup mt (.map (some r)) (kv k) true).run P w = .ok (.tuple #[(lookG k es).getD z, .bool (lookG k es).isSome]) w := by
  obtain ⟨a, c, h1, h2⟩ := h
  have hf := findKey_asks K k w a.toList
  rcases find_gm (P := P) (kt := kt) (k := k) es a.toList 0 h2 hq with ⟨a1, a2⟩ | ⟨j, v0, a1, a2, _, _⟩
  · rw [a1]
    rw [a2] at hf
    simp [Instr.lookup, run_underlying um, MapKept.run_getObj_map h1, K.chk, hf, hz, Result.andThen]
  · rw [a1]
    rw [a2] at hf
    simp [Instr.lookup, run_underlying um, MapKept.run_getObj_map h1, K.chk, hf, Result.andThen]
theorem gm_update (K : KOk P kt kv ds) {w : World} {r : Nat} {es : List (κ × Value)} {k : κ} {v : Value} (um : P.underlying mt = some (.map kt et)) (h : GM kv w r es) (hq : ∀ p ∈ es, KEq P kt kv w k p.1) :
    ∃ w', (Instr.mapUpdate mt (.map (some r)) (kv k) v).run P w = .ok () w' ∧ PutAt r w w' ∧ GM kv w' r (putG k v es) := by
  obtain ⟨a, c, h1, h2⟩ := h
  have hf := findKey_asks K k w a.toList
  have hlt := (Array.getElem?_eq_some_iff.1 h1).1
  rcases find_gm (P := P) (kt := kt) (k := k) es a.toList 0 h2 hq with ⟨a1, a2⟩ | ⟨j, v0, a1, a2, ⟨a3, a4⟩, a5⟩
  · obtain ⟨hp, ho⟩ := put_obj (w := w) (.map (a.push ⟨kv k, v, c⟩) (c + 1)) hlt
    rw [a2] at hf
    exact ⟨_, by simp only [Instr.mapUpdate, Sem.run_bind, run_underlying um, MapKept.run_getObj_map h1, K.chk, hf, MapKept.run_setObj_map _ h1, Result.andThen], hp, _, _, ho, by rw [putG_new k v es a1]; simp [h2]⟩
  · obtain ⟨hp, ho⟩ := put_obj (w := w) (.map (a.modify (0 + j) fun e => { e with key := kv k, val := v }) c) hlt
    rw [a2] at hf
    have hj : (((a[0 + j]?).map (·.key)).getD (kv k)) = kv k := by
      have : j < a.size := by simpa using a3
      simp only [Nat.zero_add]
      rw [Array.getElem?_eq_getElem this]
      simpa using a4
    have hst : (Instr.keyThatStays (kv k) (kv k)).run P w = .ok (kv k) w := by
      simp [Instr.keyThatStays, K.bits]
    refine ⟨_, ?_, hp, _, _, ho, ?_⟩
    · simp only [Instr.mapUpdate, Sem.run_bind, run_underlying um, MapKept.run_getObj_map h1, K.chk, hf, hj, hst, MapKept.run_setObj_map _ h1, Result.andThen]
    · simpa using a5 v
theorem gm_len {w : World} {r : Nat} {es : List (κ × Value)} {ty : TypeId} (um : P.underlying mt = some (.map kt et)) (h : GM kv w r es) : (Builtin.len_ #[mt] ty #[.map (some r)]).run P w = .ok (.int .i64 es.length) w := by
  obtain ⟨a, c, h1, h2⟩ := h
  have : a.size = es.length := by
    have := congrArg List.length h2
    simpa using this
  simp [Builtin.len_, run_underlying um, MapKept.run_getObj_map h1, this, goInt]
theorem GM.new (w : World) : GM kv (w.alloc (.map #[] 0)) w.heap.size [] := ⟨#[], 0, (MapKept.heap_alloc w _).1, rfl⟩
theorem GM.lt {w : World} {r : Nat} {es : List (κ × Value)} (h : GM kv w r es) : r < w.heap.size := by
  obtain ⟨_, _, h, _⟩ := h
  exact (Array.getElem?_eq_some_iff.1 h).1
theorem GM.same {w w' : World} {r : Nat} {es : List (κ × Value)} (h : GM kv w r es) (hb : w'.heap[r]? = w.heap[r]?) : GM kv w' r es := by
  obtain ⟨a, c, h1, h2⟩ := h
  exact ⟨a, c, hb.trans h1, h2⟩
theorem GM.below {w w' : World} {r B : Nat} {es : List (κ × Value)} (h : GM kv w r es) (hb : Below B w w') (hB : r < B) : GM kv w' r es := h.same (hb.block r hB)
end
end Go.Proofs.YtiockiilenjjaaaDoor

/- What a collector collects: plain facts. -/
namespace Go.Proofs.YtiockiilenjjaaaDoor
open Go Go.RowKit
/-- A bare ground term: nothing in fields that say nothing. -/
def BG (x : Tm) : Prop := x.inst0 = x ∧ x.ground = true
def insT (x : Tm) (S : List Tm) : List Tm := if S.any (fun y => y.same x) then S else S ++ [x]
def insAll (xs S : List Tm) : List Tm := xs.foldl (fun S x => insT x S) S
/-- The ground terms that stand in a term, as they end, bare. -/
def Tm.gs : Tm → List Tm
  | ⟨op, name, sort, num, l, vars, pat⟩ => if op = 19 then [] else (l.map fun u => Tm.gs u).flatten ++ if Tm.ground ⟨op, name, sort, num, l, vars, pat⟩ then [Tm.inst0 ⟨op, name, sort, num, l, vars, pat⟩] else []
def gsL (l : List Tm) : List Tm := (l.map Tm.gs).flatten
theorem Tm.gs_eq (t : Tm) : t.gs = if t.op = 19 then [] else gsL t.l ++ if t.ground then [t.inst0] else [] := by
  cases t
  rw [Tm.gs]
  rfl
theorem Tm.inst0_eq (t : Tm) : t.inst0 = ⟨t.op, t.nm, t.so, t.nu, t.l.map Tm.inst0, if t.op = 19 then t.vars else [], if t.op = 19 then t.pat.map Tm.inst0 else []⟩ := by
  cases t
  rw [Tm.inst0]
  rfl
theorem Tm.ground_iff (t : Tm) : t.ground = true ↔ t.op ≠ 18 ∧ t.op ≠ 19 ∧ ∀ u ∈ t.l, u.ground = true := by
  rw [Tm.ground_eq]
  simp [and_assoc]
theorem BG.parts {x : Tm} (h : BG x) : x.op ≠ 18 ∧ x.op ≠ 19 ∧ x.nm = x.name ∧ x.nu = x.num ∧ x.so = x.sort ∧ x.vars = [] ∧ x.pat = [] ∧ ∀ u ∈ x.l, BG u := by
  obtain ⟨h1, h2⟩ := h
  obtain ⟨g1, g2, g3⟩ := (Tm.ground_iff x).1 h2
  rw [Tm.inst0_eq, if_neg g2, if_neg g2] at h1
  have e1 := congrArg Tm.name h1
  have e2 := congrArg Tm.num h1
  have e3 := congrArg Tm.sort h1
  have e4 := congrArg Tm.vars h1
  have e5 := congrArg Tm.pat h1
  have e6 := congrArg Tm.l h1
  simp only at e1 e2 e3 e4 e5 e6
  refine ⟨g1, g2, e1, e2, e3, e4.symm, e5.symm, fun u hu => ⟨?_, g3 u hu⟩⟩
  obtain ⟨j, hj, rfl⟩ := List.getElem_of_mem hu
  have e7 := congrArg (fun l => l[j]?) e6
  simp only [List.getElem?_map, List.getElem?_eq_getElem hj, Option.map_some, Option.some.injEq] at e7
  exact e7
theorem instL_twice {l : List Tm} (h : ∀ u ∈ l, u.inst0.inst0 = u.inst0) : l.map (Tm.inst0 ∘ Tm.inst0) = l.map Tm.inst0 := List.map_congr_left fun u hu => h u hu
theorem Tm.inst0_twice (t : Tm) : t.inst0.inst0 = t.inst0 := Tm.ind (p := fun t => t.inst0.inst0 = t.inst0) (fun t hl hp => by
  obtain ⟨op, name, sort, num, l, vars, pat⟩ := t
  rw [Tm.inst0_eq ⟨op, name, sort, num, l, vars, pat⟩, Tm.inst0_eq]
  simp only [Tm.nm, Tm.nu, Tm.so, List.map_map, instL_twice hl]
  by_cases h19 : op = 19
  · simp only [h19, if_true, List.map_map, instL_twice hp]
    simp
  · simp [h19]
    exact ⟨fun h1 h2 h3 => absurd h3 (by simp [h1, h2]), fun h1 h2 => absurd h2 h1, fun h1 h2 => absurd h2 h1⟩) t
theorem groundL_inst0 {l : List Tm} (h : ∀ u ∈ l, u.inst0.ground = u.ground) : (l.map Tm.inst0).all Tm.ground = l.all Tm.ground := by
  induction l with
  | nil => rfl
  | cons t l ih => simp only [List.map_cons, List.all_cons, h t List.mem_cons_self, ih fun u hu => h u (List.mem_cons_of_mem _ hu)]
theorem Tm.ground_inst0 (t : Tm) : t.inst0.ground = t.ground := Tm.ind (p := fun t => t.inst0.ground = t.ground) (fun t hl _ => by
  rw [Tm.inst0_eq, Tm.ground_eq, Tm.ground_eq]
  simp only [groundL_inst0 hl]) t
theorem BG.of {t : Tm} (h : t.ground = true) : BG t.inst0 := ⟨t.inst0_twice, by rw [t.ground_inst0]; exact h⟩
theorem bytes_eq {a b : ByteArray} (h : (a.toList == b.toList) = true) : a = b := by
  by_cases e : a = b
  · exact e
  · rw [str_ne e] at h
    cases h
theorem sameL_bare : ∀ {l m : List Tm}, (∀ u ∈ l, ∀ y, BG u → BG y → u.same y = true → u = y) → (∀ u ∈ l, BG u) → (∀ u ∈ m, BG u) → sameL l m = true → l = m
  | [], [], _, _, _, _ => rfl
  | [], _ :: _, _, _, _, h => by cases h
  | _ :: _, [], _, _, _, h => by cases h
  | t :: l, u :: m, hi, hx, hy, h => by
    rw [sameL_cons, Bool.and_eq_true] at h
    rw [hi t List.mem_cons_self u (hx t List.mem_cons_self) (hy u List.mem_cons_self) h.1, sameL_bare (fun v hv => hi v (List.mem_cons_of_mem _ hv)) (fun v hv => hx v (List.mem_cons_of_mem _ hv)) (fun v hv => hy v (List.mem_cons_of_mem _ hv)) h.2]
theorem same_bare {x y : Tm} (hx : BG x) (hy : BG y) (h : x.same y = true) : x = y := Tm.ind (p := fun x => ∀ y, BG x → BG y → x.same y = true → x = y) (fun x hl _ y hx hy h => by
    obtain ⟨a1, a2, a3, a4, a5, a6, a7, a8⟩ := hx.parts
    obtain ⟨b1, b2, b3, b4, b5, b6, b7, b8⟩ := hy.parts
    rw [Tm.same_eq] at h
    unfold Tm.sameLab at h
    rw [a3, a4, a5, b3, b4, b5] at h
    simp only [Bool.and_eq_true] at h
    obtain ⟨⟨h1, h2, h3, h4⟩, _, h5⟩ := h
    have e5 := sameL_bare hl a8 b8 h5
    cases x
    cases y
    simp only at *
    have e1 := of_decide_eq_true h1
    have e2 := bytes_eq h2
    have e3 := bytes_eq h3
    have e4 := of_decide_eq_true h4
    subst e1 e2 e3 e4 e5 a6 a7 b6 b7
    rfl) x y hx hy h
theorem insT_in {x : Tm} {S : List Tm} (h : x ∈ S) : insT x S = S := by
  unfold insT
  rw [if_pos]
  simp only [List.any_eq_true]
  exact ⟨x, h, x.same_refl⟩
theorem insT_out {x : Tm} {S : List Tm} (hS : ∀ y ∈ S, BG y) (hx : BG x) (h : x ∉ S) : insT x S = S ++ [x] := by
  unfold insT
  rw [if_neg]
  simp only [List.any_eq_true, not_exists, not_and]
  intro y hy e
  exact h (same_bare (hS y hy) hx e ▸ hy)
theorem insAll_app (xs ys S : List Tm) : insAll (xs ++ ys) S = insAll ys (insAll xs S) := List.foldl_append
theorem insAll_in : ∀ {xs S : List Tm}, (∀ x ∈ xs, x ∈ S) → insAll xs S = S
  | [], _, _ => rfl
  | x :: xs, S, h => by
    show insAll xs (insT x S) = S
    rw [insT_in (h x List.mem_cons_self)]
    exact insAll_in fun y hy => h y (List.mem_cons_of_mem _ hy)
theorem insT_pre (x : Tm) (S : List Tm) : S <+: insT x S := by
  unfold insT
  split
  · exact List.prefix_refl S
  · exact List.prefix_append _ _
theorem insAll_pre : ∀ (xs S : List Tm), S <+: insAll xs S
  | [], S => List.prefix_refl S
  | x :: xs, S => (insT_pre x S).trans (insAll_pre xs (insT x S))
theorem insT_mem {x : Tm} {S : List Tm} (hS : ∀ y ∈ S, BG y) (hx : BG x) : x ∈ insT x S ∧ ∀ y ∈ insT x S, BG y := by
  by_cases h : x ∈ S
  · rw [insT_in h]
    exact ⟨h, hS⟩
  · rw [insT_out hS hx h]
    exact ⟨by simp, fun y hy => by
      rcases List.mem_append.1 hy with hy | hy
      · exact hS y hy
      · rw [List.mem_singleton.1 hy]; exact hx⟩
theorem insAll_mem : ∀ {xs S : List Tm}, (∀ y ∈ S, BG y) → (∀ x ∈ xs, BG x) → (∀ x ∈ xs, x ∈ insAll xs S) ∧ ∀ y ∈ insAll xs S, BG y
  | [], S, hS, _ => ⟨fun x hx => absurd hx List.not_mem_nil, hS⟩
  | x :: xs, S, hS, hx => by
    obtain ⟨h1, h2⟩ := insT_mem hS (hx x List.mem_cons_self)
    obtain ⟨h3, h4⟩ := insAll_mem (xs := xs) (S := insT x S) h2 (fun y hy => hx y (List.mem_cons_of_mem _ hy))
    refine ⟨fun y hy => ?_, h4⟩
    rcases List.mem_cons.1 hy with rfl | hy
    · exact (insAll_pre xs (insT y S)).subset h1
    · exact h3 y hy
theorem gsL_mem {l : List Tm} {x : Tm} (h : x ∈ gsL l) : ∃ u ∈ l, x ∈ u.gs := by
  unfold gsL at h
  obtain ⟨g, hg, hx⟩ := List.mem_flatten.1 h
  obtain ⟨u, hu, rfl⟩ := List.mem_map.1 hg
  exact ⟨u, hu, hx⟩
theorem Tm.gs_bg (t : Tm) : ∀ x ∈ t.gs, BG x := Tm.ind (p := fun t => ∀ x ∈ t.gs, BG x) (fun t hl _ x hx => by
  rw [Tm.gs_eq] at hx
  split at hx
  · cases hx
  · rcases List.mem_append.1 hx with hx | hx
    · obtain ⟨u, hu, hxu⟩ := gsL_mem hx
      exact hl u hu x hxu
    · split at hx
      · rename_i hg
        rw [List.mem_singleton.1 hx]
        exact BG.of hg
      · cases hx) t
theorem gsL_bg (l : List Tm) : ∀ x ∈ gsL l, BG x := fun x hx => by
  obtain ⟨u, _, hxu⟩ := gsL_mem hx
  exact u.gs_bg x hxu
theorem gsL_len0 {l : List Tm} (h : ∀ u ∈ l, u.gs.length ≤ u.size) : (gsL l).length ≤ (l.map Tm.size).sum := by
  induction l with
  | nil => exact Nat.le_refl _
  | cons t l ih =>
    have h1 := h t List.mem_cons_self
    have h2 := ih fun u hu => h u (List.mem_cons_of_mem _ hu)
    unfold gsL at h2 ⊢
    rw [List.map_cons, List.flatten_cons, List.length_append, List.map_cons, List.sum_cons]
    omega
theorem Tm.gs_len (t : Tm) : t.gs.length ≤ t.size := Tm.ind (p := fun t => t.gs.length ≤ t.size) (fun t hl _ => by
  rw [Tm.gs_eq, Tm.size_eq]
  split
  · simp
  · have := gsL_len0 hl
    rw [List.length_append]
    split <;> simp only [List.length_singleton, List.length_nil] <;> omega) t
theorem gsL_len (l : List Tm) : (gsL l).length ≤ (l.map Tm.size).sum := gsL_len0 fun u _ => u.gs_len
theorem insAll_len : ∀ (xs S : List Tm), (insAll xs S).length ≤ S.length + xs.length
  | [], S => by simp [insAll]
  | x :: xs, S => by
    have h1 := insAll_len xs (insT x S)
    have h2 : (insT x S).length ≤ S.length + 1 := by
      unfold insT
      split <;> simp
    show (insAll xs (insT x S)).length ≤ _
    rw [List.length_cons]
    omega
theorem gsL_take {l : List Tm} {i : Nat} (h : i < l.length) : gsL (l.take (i + 1)) = gsL (l.take i) ++ l[i].gs := by
  unfold gsL
  rw [take_more h, List.map_append, List.flatten_append]
  simp
end Go.Proofs.YtiockiilenjjaaaDoor

/- Numbers of terms and of lists: plain facts; the keys that they are kept by. -/
namespace Go.Proofs.YtiockiilenjjaaaDoor
open Go Go.RowKit
theorem eq_of_bin {P : Program} {t : TypeId} {x y : Array Value} {w : World} {b : Bool} (h : (binOp .eql t (.agg x) (.agg y)).run P w = .ok (.bool b) w) : (Op.equal t (.agg x) (.agg y)).run P w = .ok b w := by
  simp only [binOp] at h
  simp at h
  cases hr : (Op.equal t (.agg x) (.agg y)).run P w with
  | ok c w' => rw [hr] at h; simp [Result.andThen] at h; rw [h.1, h.2]
  | halt c w' => rw [hr] at h; simp [Result.andThen] at h
def kv1 (k : Int × ByteArray × ByteArray × Int × Int) : Value := .agg #[.int .i64 k.1, .string k.2.1, .string k.2.2.1, .int .i64 k.2.2.2.1, .int .i64 k.2.2.2.2]
def kv2 (k : Int × Int) : Value := .agg #[.int .i64 k.1, .int .i64 k.2]
def kv3 (k : Nat × Nat × Int) : Value := .agg #[.pointer (some ⟨k.1, k.2.1, none⟩), .int .i64 k.2.2]
set_option maxRecDepth 100000 in
set_option maxHeartbeats 4000000 in
theorem eqLong (w : World) (a d a' d' : Int) : (Op.equal 216 (.agg #[.int .i64 a, .int .i64 d]) (.agg #[.int .i64 a', .int .i64 d'])).run Tryd.prog w = .ok (a == a' && d == d') w := by
  apply eq_of_bin
  cases h1 : a == a' <;> cases h2 : d == d' <;> go_simp <;> simp_all
set_option maxRecDepth 100000 in
set_option maxHeartbeats 4000000 in
theorem eqMade (w : World) (b1 b2 b1' b2' : ByteArray) (a d e a' d' e' : Int) : (Op.equal 197 (.agg #[.int .i64 a, .string b1, .string b2, .int .i64 d, .int .i64 e]) (.agg #[.int .i64 a', .string b1', .string b2', .int .i64 d', .int .i64 e'])).run Tryd.prog w = .ok (a == a' && (b1.toList == b1'.toList && (b2.toList == b2'.toList && (d == d' && e == e')))) w := by
  apply eq_of_bin
  cases h1 : a == a' <;> cases h2 : b1.toList == b1'.toList <;> cases h3 : b2.toList == b2'.toList <;> cases h4 : d == d' <;> cases h5 : e == e' <;> go_simp <;> simp_all
theorem infTm : ∃ j, Tryd.prog.info? 26 = some j ∧ j.size ≠ 0 := by
  obtain ⟨i0, hi, hz0, hz1, hz2⟩ := inf_of infTerm
  exact ⟨i0, hi, by omega⟩
theorem uPtr : Tryd.prog.underlying 61 = some (.pointer 26) := by kernel_rfl
theorem eqPtr {P : Program} {w : World} {tp te : TypeId} {j : TypeInfo} {a b : Addr} {x : Bool} (hp : P.underlying tp = some (.pointer te)) (hte : P.info? te = some j) (hsz : j.size ≠ 0) (hs : (sameAddr a b).run P w = .ok x w) (d : Nat) : (Op.equalIn (d + 1) tp (.pointer (some a)) (.pointer (some b))).run P w = .ok x w := by
  simp [Op.equalIn, run_underlying hp, sizeOf, typeInfo, hte, hsz, hs]
set_option maxRecDepth 100000 in
set_option maxHeartbeats 4000000 in
theorem eqKey (w : World) (a a' : Addr) (n n' : Int) (x : Bool) (hs : (sameAddr a a').run Tryd.prog w = .ok x w) : (Op.equal 182 (.agg #[.pointer (some a), .int .i64 n]) (.agg #[.pointer (some a'), .int .i64 n'])).run Tryd.prog w = .ok (x && n == n') w := by
  obtain ⟨j, hj, hsz⟩ := infTm
  have hp : (Op.equalIn 9999 61 (.pointer (some a)) (.pointer (some a'))).run Tryd.prog w = .ok x w := eqPtr uPtr hj hsz hs 9998
  apply eq_of_bin
  cases x <;> cases h2 : n == n' <;> go_simp <;> simp_all
theorem keq1 (w : World) (a b : Int × ByteArray × ByteArray × Int × Int) : KEq Tryd.prog 197 kv1 w a b := by
  obtain ⟨a1, a2, a3, a4, a5⟩ := a
  obtain ⟨b1, b2, b3, b4, b5⟩ := b
  unfold KEq kv1
  rw [eqMade]
  have e : (a1 == b1 && (a2.toList == b2.toList && (a3.toList == b3.toList && (a4 == b4 && a5 == b5)))) = decide ((a1, a2, a3, a4, a5) = (b1, b2, b3, b4, b5)) := by
    rw [Bool.eq_iff_iff, decide_eq_true_iff]
    simp only [Bool.and_eq_true, beq_iff_eq, Prod.mk.injEq, ByteArray.toList_eq]
    constructor
    · rintro ⟨h1, h2, h3, h4, h5⟩
      exact ⟨h1, by cases a2; cases b2; simpa using h2, by cases a3; cases b3; simpa using h3, h4, h5⟩
    · rintro ⟨h1, h2, h3, h4, h5⟩
      exact ⟨h1, by rw [h2], by rw [h3], h4, h5⟩
  rw [e]
theorem keq2 (w : World) (a b : Int × Int) : KEq Tryd.prog 216 kv2 w a b := by
  obtain ⟨a1, a2⟩ := a
  obtain ⟨b1, b2⟩ := b
  unfold KEq kv2
  rw [eqLong]
  have e : (a1 == b1 && a2 == b2) = decide ((a1, a2) = (b1, b2)) := by
    rw [Bool.eq_iff_iff, decide_eq_true_iff]
    simp
  rw [e]
theorem keq3 {w : World} {a b : Nat × Nat × Int} (ha : Plain w a.1) (hb : Plain w b.1) : KEq Tryd.prog 182 kv3 w a b := by
  obtain ⟨a1, a2, a3⟩ := a
  obtain ⟨b1, b2, b3⟩ := b
  unfold KEq kv3
  by_cases h : a1 = b1 ∧ a2 = b2
  · obtain ⟨rfl, rfl⟩ := h
    rw [eqKey w _ _ a3 b3 true (run_sameAddr_same w _)]
    have e : (true && a3 == b3) = decide ((a1, a2, a3) = (a1, a2, b3)) := by
      rw [Bool.eq_iff_iff, decide_eq_true_iff]
      simp
    rw [e]
  · obtain ⟨ca, ta, h1⟩ := ha
    obtain ⟨cb, tb, h2⟩ := hb
    rw [eqKey w _ _ a3 b3 false (run_sameAddr_other w (by intro e; injection e with e1 e2; exact h ⟨e1, e2⟩) h1 h2)]
    have e : (false && a3 == b3) = decide ((a1, a2, a3) = (b1, b2, b3)) := by
      rw [Bool.eq_iff_iff, decide_eq_true_iff]
      simp
      intro e1 e2
      exact absurd ⟨e1, e2⟩ h
    rw [e]
end Go.Proofs.YtiockiilenjjaaaDoor

namespace Go.Proofs.YtiockiilenjjaaaDoor
open Go Go.RowKit
theorem struct_of {o : Option TypeDesc} (h : (match o with | some (.struct _) => true | _ => false) = true) : ∃ fs, o = some (.struct fs) := by
  split at h
  · exact ⟨_, rfl⟩
  · cases h
set_option maxRecDepth 100000 in
set_option maxHeartbeats 4000000 in
theorem ckMade (n : Nat) (w : World) (em : Bool) (b1 b2 : ByteArray) (a d e : Int) : (Instr.checkKey em (n + 3) 197 (.agg #[.int .i64 a, .string b1, .string b2, .int .i64 d, .int .i64 e])).run Tryd.prog w = .ok () w := by
  simp [Instr.checkKey]
  go_simp
set_option maxRecDepth 100000 in
set_option maxHeartbeats 4000000 in
theorem ckLong (n : Nat) (w : World) (em : Bool) (a d : Int) : (Instr.checkKey em (n + 2) 216 (.agg #[.int .i64 a, .int .i64 d])).run Tryd.prog w = .ok () w := rfl
set_option maxRecDepth 100000 in
set_option maxHeartbeats 4000000 in
theorem ckKey (n : Nat) (w : World) (em : Bool) (a : Addr) (d : Int) : (Instr.checkKey em (n + 2) 182 (.agg #[.pointer (some a), .int .i64 d])).run Tryd.prog w = .ok () w := rfl
theorem kok1 : ∃ ds, KOk Tryd.prog 197 kv1 ds := by
  obtain ⟨fs, hfs⟩ : ∃ fs, Tryd.prog.underlying 197 = some (.struct fs) := struct_of (by kernel_rfl)
  refine ⟨.struct fs, hfs, fun a b => rfl, fun w em k => ckMade 9997 w em _ _ _ _ _, fun k => ?_⟩
  simp [kv1, Instr.sameBits, (MapKept.bytes_beq k.2.1 k.2.1).2 rfl, (MapKept.bytes_beq k.2.2.1 k.2.2.1).2 rfl]
theorem kok2 : ∃ ds, KOk Tryd.prog 216 kv2 ds := by
  obtain ⟨fs, hfs⟩ : ∃ fs, Tryd.prog.underlying 216 = some (.struct fs) := struct_of (by kernel_rfl)
  refine ⟨.struct fs, hfs, fun a b => rfl, fun w em k => ckLong 9998 w em _ _, fun k => ?_⟩
  simp [kv2, Instr.sameBits]
theorem kok3 : ∃ ds, KOk Tryd.prog 182 kv3 ds := by
  obtain ⟨fs, hfs⟩ : ∃ fs, Tryd.prog.underlying 182 = some (.struct fs) := struct_of (by kernel_rfl)
  refine ⟨.struct fs, hfs, fun a b => rfl, fun w em k => ckKey 9998 w em _ _, fun k => ?_⟩
  simp [kv3, Instr.sameBits]
end Go.Proofs.YtiockiilenjjaaaDoor
