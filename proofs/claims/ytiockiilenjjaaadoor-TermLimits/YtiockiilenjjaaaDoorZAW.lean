/- TermLimits: its walk. -/
import Derived.Test.YtiockiilenjjaaaDoorZAV
set_option linter.unusedVariables false
set_option linter.unusedSimpArgs false

/- TermLimits: the region that lays one operand of the wide term. -/
namespace Go.Proofs.YtiockiilenjjaaaDoor
open Go Go.RowKit
def kept8 : List Nat := [0, 1, 2, 3, 4, 5, 6, 7, 8, 9, 10, 11, 12, 13, 14, 15, 16, 17, 18, 19, 20, 21, 22, 23, 24, 25, 26, 27, 28, 29, 30, 31, 32, 33, 34, 35, 36, 42, 43, 44, 45, 46, 47, 48, 49, 50, 51, 52, 53, 54, 55, 56, 57, 58, 59, 60, 61, 62, 63, 64, 65, 66, 67, 68, 69, 70, 71, 72, 73, 74, 75, 76, 77, 78, 79, 80, 81, 82, 83, 84, 85, 86, 87, 88, 89, 90, 91, 92, 93, 94, 95, 96, 97, 98, 99, 100, 101, 102, 103, 104, 105, 106, 107, 108, 109, 110, 111, 112, 113, 114]
def sps8 (b5 g m i : Nat) : List Value := [.pointer (some ⟨b5, 4, none⟩), .slice (some ⟨g, 0, none⟩) m m, .int .i64 (i : Int), .agg #[.int .i64 1, .string .empty, .int .i64 0, .string ⟨#[49]⟩, .slice none 0 0, .slice none 0 0, .slice none 0 0], .pointer (some ⟨g, i * 7, none⟩)]
def after8 (a0 : Act) (x1 x2 x3 x4 x5 : Value) : Act := ⟨((((a0.tmps.setIfInBounds 37 x1).setIfInBounds 38 x2).setIfInBounds 39 x3).setIfInBounds 40 x4).setIfInBounds 41 x5, a0.defers⟩
theorem kept8_b : ((List.range 115).all fun i => i == 37 || i == 38 || i == 39 || i == 40 || i == 41 || kept8.contains i) = true := by kernel_rfl
theorem kept8_all (i : Nat) (h : i < 115) (h1 : i ≠ 37) (h2 : i ≠ 38) (h3 : i ≠ 39) (h4 : i ≠ 40) (h5 : i ≠ 41) : i ∈ kept8 := by
  have := List.all_eq_true.1 kept8_b i (List.mem_range.2 h)
  simpa [h1, h2, h3, h4, h5] using this
theorem act8 {a a0 : Act} (hd : a.defers = a0.defers) (hn : a.tmps.size = 115) (hN : a0.tmps.size = 115) (hk : ∀ k, k ∈ kept8 → a.tmps[k]? = a0.tmps[k]?) : a = after8 a0 (a.tmps.getD 37 undef) (a.tmps.getD 38 undef) (a.tmps.getD 39 undef) (a.tmps.getD 40 undef) (a.tmps.getD 41 undef) := by
  obtain ⟨tm, df⟩ := a
  unfold after8
  simp only at hd hn hk ⊢
  rw [hd]
  congr 1
  refine Array.ext_getElem? fun i => ?_
  by_cases h : i < 115
  · by_cases h1 : i = 37
    · subst h1; simp [Array.getElem?_setIfInBounds, hn, hN, Array.getD_eq_getD_getElem?]
    by_cases h2 : i = 38
    · subst h2; simp [Array.getElem?_setIfInBounds, hn, hN, Array.getD_eq_getD_getElem?]
    by_cases h3 : i = 39
    · subst h3; simp [Array.getElem?_setIfInBounds, hn, hN, Array.getD_eq_getD_getElem?]
    by_cases h4 : i = 40
    · subst h4; simp [Array.getElem?_setIfInBounds, hn, hN, Array.getD_eq_getD_getElem?]
    by_cases h5 : i = 41
    · subst h5; simp [Array.getElem?_setIfInBounds, hn, hN, Array.getD_eq_getD_getElem?]
    rw [hk i (kept8_all i h h1 h2 h3 h4 h5)]
    simp only [Array.getElem?_setIfInBounds]
    rw [if_neg (Ne.symm h5), if_neg (Ne.symm h4), if_neg (Ne.symm h3), if_neg (Ne.symm h2), if_neg (Ne.symm h1)]
  · rw [Array.getElem?_eq_none (by omega), Array.getElem?_eq_none (by simp; omega)]
theorem set7i (w : World) (r o : Nat) (x0 x1 x2 x3 x4 x5 x6 : Value) : w.setCells r o [x0, x1, x2, x3, x4, x5, x6] = put7 w r o x0 x1 x2 x3 x4 x5 x6 := rfl
set_option maxRecDepth 100000 in
set_option maxHeartbeats 4000000 in
theorem limits_r8 {Q : Exit → Act → World → Prop} {a0 : Act} {w0 : World} {b5 g m i : Nat} {cur : Array Value} (hN : a0.tmps.size = 115) (h5 : a0.tmps[5]? = some (.pointer (some ⟨b5, 0, none⟩))) (h6 : a0.tmps[6]? = some (.int .i64 (i : Int))) (hlt : b5 < w0.heap.size) (hc : w0.cell? ⟨b5, 4, none⟩ = some (.slice (some ⟨g, 0, none⟩) m m)) (hT : TB w0 g m cur) (hi : i < m) (hm : m ≤ 60000)
    (hend : ∀ (x1 x2 x3 x4 x5 : Value) (W : World), Below w0.heap.size w0 W → Q .normal (after8 a0 x1 x2 x3 x4 x5) (put7 W g (i * 7) (.int .i64 1) (.string .empty) (.int .i64 0) (.string ⟨#[49]⟩) (.slice none 0 0) (.slice none 0 0) (.slice none 0 0))) :
    (Code.region 8 (regionOf Tryd.f8 8).toArray true).wp Tryd.prog Q a0 w0 := by
  have hD : Below w0.heap.size w0 w0.drew := (Below.refl _ w0).drew
  refine wp_region_any (by kernel_rfl) ?_
  refine one_store2 (l := regionOf Tryd.f8 8) (w0 := w0.drew) 115 w0.heap.size 5 0 kept8 [0, 1, 2, 3, 4] (fun j w v => v = (sps8 b5 g m i).getD j undef) (fun _ _ => True) (fun w' _ => ∃ W, Below w0.heap.size w0 W ∧ w' = put7 W g (i * 7) (.int .i64 1) (.string .empty) (.int .i64 0) (.string ⟨#[49]⟩) (.slice none 0 0) (.slice none 0 0) (.slice none 0 0)) (by kernel_rfl) hN (Nat.le_refl _) (by decide) (by kernel_rfl) (by kernel_rfl) (by kernel_rfl) (by decide) (by decide) (by kernel_rfl) (fun _ _ _ _ h _ => h) (fun _ => trivial) ?_ ?_ ?_ ?_
  · intro j hj a w hb hn hk hp
    have hb0 : Below w0.heap.size w0 w := hD.trans hb
    have hcw : w.cell? ⟨b5, 4, none⟩ = some (.slice (some ⟨g, 0, none⟩) m m) := (hb0.cell (p := ⟨b5, 4, none⟩) hlt).trans hc
    have k5 : a.eval (.tmp 5) = .pointer (some ⟨b5, 0, none⟩) := by
      have := (hk 5 (by decide)).trans h5
      simp [Act.eval, this]
    have k6 : a.eval (.tmp 6) = .int .i64 (i : Int) := by
      have := (hk 6 (by decide)).trans h6
      simp [Act.eval, this]
    have hi' : j = 0 ∨ j = 1 ∨ j = 2 ∨ j = 3 ∨ j = 4 := by simpa using hj
    rcases hi' with rfl | rfl | rfl | rfl | rfl
    · exact st_want (wnone rfl) (op_fieldAddr k5 (v := .pointer (some ⟨b5, 4, none⟩)) (by go_simp) ⟨_, rfl, Below.refl _ _, rfl, trivial⟩)
    · have e : a.tmps.getD 37 undef = .pointer (some ⟨b5, 4, none⟩) := hp 0 rfl (by decide)
      exact st_want (wnone rfl) (op_load (x := .tmp 37) e (v := .slice (some ⟨g, 0, none⟩) m m) (by go_simp) ⟨_, rfl, Below.refl _ _, rfl, trivial⟩)
    · exact st_want (wnone rfl) (op_move ⟨_, rfl, Below.refl _ _, k6, trivial⟩)
    · refine st_want (wnone rfl) (op_call enter_n ?_)
      have hargs : (#[Operand.const (.string ⟨#[49]⟩)]).map a.eval = #[.string ⟨#[49]⟩] := by
        simp only [List.map_toArray, List.map_cons, List.map_nil, Act.eval]
      rw [hargs]
      refine (n_any ⟨#[49]⟩ w).mono ?_
      rintro e w' ⟨rfl, hb'⟩
      exact ⟨_, rfl, _, rfl, hb', rfl, trivial⟩
    · have e : a.tmps.getD 38 undef = .slice (some ⟨g, 0, none⟩) m m := hp 1 rfl (by decide)
      have e2 : a.tmps.getD 39 undef = .int .i64 (i : Int) := hp 2 rfl (by decide)
      have hl1 : (i : Int) < (m : Int) := by omega
      have hl2 : (i : Int) < 281474976710656 := by omega
      have he1 : a.eval (.tmp 38) = .slice (some ⟨g, 0, none⟩) m m := e
      have he2 : a.eval (.tmp 39) = .int .i64 (i : Int) := e2
      refine st_want (wnone rfl) ?_
      show Oper.wp Tryd.prog ⟨some 41, .indexAddr 23 (.tmp 38) (.tmp 39), _, _, _, _⟩ a w _ _
      unfold Oper.wp
      simp only [execOp, he1, he2]
      go_simp
      exact ⟨rfl, Below.refl _ _⟩
  · intro j hj hj1 hj2
    exfalso
    have hl : (regionOf Tryd.f8 8).length = 6 := by kernel_rfl
    rw [hl] at hj
    have hj1' : ¬ (j = 0 ∨ j = 1 ∨ j = 2 ∨ j = 3 ∨ j = 4) := by simpa using hj1
    omega
  · intro a w hb hn hk hp
    have hb0 : Below w0.heap.size w0 w := hD.trans hb
    have e3 : a.eval (.tmp 40) = .agg #[.int .i64 1, .string .empty, .int .i64 0, .string ⟨#[49]⟩, .slice none 0 0, .slice none 0 0, .slice none 0 0] := hp 3 (by decide)
    have e4 : a.eval (.tmp 41) = .pointer (some ⟨g, i * 7, none⟩) := hp 4 (by decide)
    have hTw : TB w g m cur := ⟨(hb0.block g (Array.getElem?_eq_some_iff.1 hT.1).1).trans hT.1, hT.2⟩
    refine wp_store_mid 26 (.tmp 41) (.tmp 40) rfl g (i * 7) #[.int .i64 1, .string .empty, .int .i64 0, .string ⟨#[49]⟩, .slice none 0 0, .slice none 0 0, .slice none 0 0] e4 e3 (fun j hj => ?_) infT7 (by simp [Value.oneCell']) ⟨rfl, w, hb0, set7i ..⟩
    have hj7 : j < 7 := hj
    obtain ⟨x, hx, hf⟩ := hTw.cell (k := i * 7 + j) (by omega)
    rw [hx]
    exact ⟨rfl, hf⟩
  · rintro a w hd hn hk _ ⟨W, hW, rfl⟩
    rw [act8 hd hn hN hk]
    exact hend _ _ _ _ _ W hW
end Go.Proofs.YtiockiilenjjaaaDoor

/- TermLimits: its wide and its deep term in memory. -/
namespace Go.Proofs.YtiockiilenjjaaaDoor
open Go Go.RowKit
def wideC (g m : Nat) : Array Value := #[.int .i64 12, .string ⟨#[]⟩, .int .i64 0, .string ⟨#[]⟩, .slice (some ⟨g, 0, none⟩) m m, .slice none 0 0, .slice none 0 0]
def oneC : Array Value := #[.int .i64 1, .string ⟨#[]⟩, .int .i64 0, .string ⟨#[49]⟩, .slice none 0 0, .slice none 0 0, .slice none 0 0]
theorem rowP_nil {P : Nat → Prop} {k : Nat} {p : Nat → Nat → Nat → Prop} : RowP P none 0 0 k p := ⟨Nat.le_refl _, by omega, fun h => absurd rfl h⟩
theorem one_isP (w : World) (P : Nat → Prop) (d : Nat) : IsP w P d (.agg oneC) t1 := ⟨show fits 1 by unfold fits; omega, show fits 0 by unfold fits; omega, none, none, none, 0, 0, 0, rfl, rowP_nil, rowP_nil, rowP_nil⟩
theorem wide_isT {w : World} {g m : Nat} {cur : Array Value} (hM : Made w g 0 m (List.replicate m t1)) (hT : TB w g m cur) (hm : m ≤ 60000) : IsT w w.heap.size 1 (.agg (wideC g m)) (wideT m) := by
  have h := (hM.row hT (m := 0) (Nat.zero_le _) (by omega)).row (B := w.heap.size) (q := RT7 w w.heap.size 1 (List.replicate m t1)) (fun b hb => hb.2.1) (fun b o j _ h t ht => (h t ht).at fun k hk => hk.2.1)
  have h2 := IsT.mk (t := wideT m) (d := 1) (B := w.heap.size) (w := w) (aL := some ⟨g, 0, none⟩) (cL := m) (aV := none) (cV := 0) (aP := none) (cP := 0) (show fits 12 by unfold fits; omega) (show fits 0 by unfold fits; omega) (by simpa [wideT] using h) row_nil row_nil
  simp only [tcells, wideT, List.length_replicate, List.length_nil] at h2
  exact h2
/-- The deep term's box: what it holds, in blocks behind it. -/
def DeepIn (w : World) (h k : Nat) (o0 : Int) (s1 : ByteArray) (i2 : Int) (s3 : ByteArray) (a4 a5 a6 : Option Addr) (n4 n5 n6 c4 c5 c6 : Nat) : Prop := w.heap[h]? = some (.cells #[.int .i64 o0, .string s1, .int .i64 i2, .string s3, .slice a4 n4 c4, .slice a5 n5 c5, .slice a6 n6 c6] 26) ∧ IsP w (FB (h + 1) w) k (.agg #[.int .i64 o0, .string s1, .int .i64 i2, .string s3, .slice a4 n4 c4, .slice a5 n5 c5, .slice a6 n6 c6]) (deepT k)
theorem put7_block {w : World} {r : Nat} {y0 y1 y2 y3 y4 y5 y6 x0 x1 x2 x3 x4 x5 x6 : Value} {ty : TypeId} (h : w.heap[r]? = some (.cells #[y0, y1, y2, y3, y4, y5, y6] ty)) : (put7 w r 0 x0 x1 x2 x3 x4 x5 x6).heap[r]? = some (.cells #[x0, x1, x2, x3, x4, x5, x6] ty) := by
  have hh : (put7 w r 0 x0 x1 x2 x3 x4 x5 x6).heap[r]? = _ := set_block (set_block (set_block (set_block (set_block (set_block (set_block h x0) x1) x2) x3) x4) x5) x6
  rw [hh]
  rfl
theorem DeepIn.next {w : World} {h k : Nat} {o0 : Int} {s1 : ByteArray} {i2 : Int} {s3 : ByteArray} {a4 a5 a6 : Option Addr} {n4 n5 n6 c4 c5 c6 : Nat} (hD : DeepIn w h k o0 s1 i2 s3 a4 a5 a6 n4 n5 n6 c4 c5 c6) {V : World} (hV : put7 (w.alloc (.cells #[.int .i64 o0, .string s1, .int .i64 i2, .string s3, .slice a4 n4 c4, .slice a5 n5 c5, .slice a6 n6 c6] 26)) h 0 (.int .i64 14) (.string ⟨#[]⟩) (.int .i64 0) (.string ⟨#[]⟩) (.slice (some ⟨w.heap.size, 0, none⟩) 1 1) (.slice none 0 0) (.slice none 0 0) = V) :
    DeepIn V h (k + 1) 14 ⟨#[]⟩ 0 ⟨#[]⟩ (some ⟨w.heap.size, 0, none⟩) none none 1 0 0 1 0 0 ∧ Below h w V := by
  obtain ⟨hb, hI⟩ := hD
  have hlt := (Array.getElem?_eq_some_iff.1 hb).1
  obtain ⟨A, eA, hbA, hsA, hcA, hhA⟩ := box_new w #[.int .i64 o0, .string s1, .int .i64 i2, .string s3, .slice a4 n4 c4, .slice a5 n5 c5, .slice a6 n6 c6] 26
  rw [eA] at hV
  have hfar : ∀ q, q ≠ h → V.heap[q]? = A.heap[q]? := fun q hq => by rw [← hV]; exact put7_far hq
  have hsV : V.heap.size = A.heap.size := by rw [← hV]; unfold put7; simp
  have hnew : V.heap[w.heap.size]? = some (.cells #[.int .i64 o0, .string s1, .int .i64 i2, .string s3, .slice a4 n4 c4, .slice a5 n5 c5, .slice a6 n6 c6] 26) := (hfar _ (by omega)).trans hhA
  have hFB : FB (h + 1) V w.heap.size := by
    refine ⟨by omega, by omega, fun cs fr e => ?_⟩
    rw [hnew] at e
    injection e with e
    injection e with _ e
    revert e
    decide
  have hI2 : IsP V (FB (h + 1) V) k (.agg #[.int .i64 o0, .string s1, .int .i64 i2, .string s3, .slice a4 n4 c4, .slice a5 n5 c5, .slice a6 n6 c6]) (deepT k) := hI.keep (fun q hq => by
    have e : V.heap[q]? = w.heap[q]? := (hfar q (by have := hq.1; omega)).trans (hbA.block q hq.2.1)
    exact hq.keep (Nat.le_refl _) (by omega) e) (Nat.le_refl _)
  have hTm : TmP V (FB (h + 1) V) (k + 1) w.heap.size 0 (deepT k) := hI2.laid hFB ⟨_, _, hnew⟩ fun cs e => by
    injection e with e
    have e2 : [.int .i64 o0, .string s1, .int .i64 i2, .string s3, .slice a4 n4 c4, .slice a5 n5 c5, .slice a6 n6 c6] = cs := by simpa using congrArg Array.toList e
    subst e2
    exact range_block hnew
  refine ⟨⟨?_, show fits 14 by unfold fits; omega, show fits 0 by unfold fits; omega, some ⟨w.heap.size, 0, none⟩, none, none, 1, 0, 0, rfl, ⟨Nat.le_refl _, by simp [deepT, negT], fun _ => ⟨_, 0, rfl, hFB, fun j hj u hu => ?_⟩⟩, rowP_nil, rowP_nil⟩, ?_⟩
  · rw [← hV]
    exact put7_block ((hbA.block h hlt).trans hb)
  · have hj0 : j = 0 := by simp [deepT, negT] at hj; omega
    subst hj0
    have hu' : u = deepT k := by simpa [deepT, negT] using hu.symm
    subst hu'
    simpa using hTm
  · have h1 : Below h w A := ⟨hbA.os, hbA.tape, hbA.output, hbA.size, fun q hq => hbA.block q (by omega)⟩
    refine h1.trans ?_
    rw [← hV]
    exact put7_below (Nat.le_refl _)
end Go.Proofs.YtiockiilenjjaaaDoor

namespace Go.Proofs.YtiockiilenjjaaaDoor
open Go Go.RowKit
theorem row_one {w : World} {d : Nat} {cs : Array Value} {t : Tm} (h : IsT w w.heap.size d (.agg cs) t) : ∃ Z, w.alloc (.cells cs 26) = Z ∧ Row Z.heap.size (some ⟨w.heap.size, 0, none⟩) 1 1 7 (RT7 Z Z.heap.size (d + 1) [t]) ∧ Below w.heap.size w Z := by
  have hA := h.boxed (Nat.le_refl _)
  refine ⟨_, rfl, ⟨Nat.le_refl _, by omega, fun _ => ⟨w.heap.size, 0, rfl, by simp, fun j hj x hx => ?_⟩⟩, (Below.refl _ w).alloc (Nat.le_refl _) _⟩
  have hj0 : j = 0 := by omega
  subst hj0
  have hx' : x = t := by simpa using hx.symm
  subst hx'
  simpa using hA
theorem lit115 {a : Act} (hn : a.tmps.size = 115) (hd : a.defers = []) : ∃ u : Nat → Value, a = ⟨#[u 0, u 1, u 2, u 3, u 4, u 5, u 6, u 7, u 8, u 9, u 10, u 11, u 12, u 13, u 14, u 15, u 16, u 17, u 18, u 19, u 20, u 21, u 22, u 23, u 24, u 25, u 26, u 27, u 28, u 29, u 30, u 31, u 32, u 33, u 34, u 35, u 36, u 37, u 38, u 39, u 40, u 41, u 42, u 43, u 44, u 45, u 46, u 47, u 48, u 49, u 50, u 51, u 52, u 53, u 54, u 55, u 56, u 57, u 58, u 59, u 60, u 61, u 62, u 63, u 64, u 65, u 66, u 67, u 68, u 69, u 70, u 71, u 72, u 73, u 74, u 75, u 76, u 77, u 78, u 79, u 80, u 81, u 82, u 83, u 84, u 85, u 86, u 87, u 88, u 89, u 90, u 91, u 92, u 93, u 94, u 95, u 96, u 97, u 98, u 99, u 100, u 101, u 102, u 103, u 104, u 105, u 106, u 107, u 108, u 109, u 110, u 111, u 112, u 113, u 114], []⟩ ∧ ∀ i, u i = a.tmps.getD i undef := by
  obtain ⟨tmps, dfr⟩ := a
  have hd' : dfr = [] := hd
  subst hd'
  have hl := arr_lit (show tmps.size = 115 from hn)
  have e : ((List.range 115).map fun i => tmps.getD i undef).toArray = #[tmps.getD 0 undef, tmps.getD 1 undef, tmps.getD 2 undef, tmps.getD 3 undef, tmps.getD 4 undef, tmps.getD 5 undef, tmps.getD 6 undef, tmps.getD 7 undef, tmps.getD 8 undef, tmps.getD 9 undef, tmps.getD 10 undef, tmps.getD 11 undef, tmps.getD 12 undef, tmps.getD 13 undef, tmps.getD 14 undef, tmps.getD 15 undef, tmps.getD 16 undef, tmps.getD 17 undef, tmps.getD 18 undef, tmps.getD 19 undef, tmps.getD 20 undef, tmps.getD 21 undef, tmps.getD 22 undef, tmps.getD 23 undef, tmps.getD 24 undef, tmps.getD 25 undef, tmps.getD 26 undef, tmps.getD 27 undef, tmps.getD 28 undef, tmps.getD 29 undef, tmps.getD 30 undef, tmps.getD 31 undef, tmps.getD 32 undef, tmps.getD 33 undef, tmps.getD 34 undef, tmps.getD 35 undef, tmps.getD 36 undef, tmps.getD 37 undef, tmps.getD 38 undef, tmps.getD 39 undef, tmps.getD 40 undef, tmps.getD 41 undef, tmps.getD 42 undef, tmps.getD 43 undef, tmps.getD 44 undef, tmps.getD 45 undef, tmps.getD 46 undef, tmps.getD 47 undef, tmps.getD 48 undef, tmps.getD 49 undef, tmps.getD 50 undef, tmps.getD 51 undef, tmps.getD 52 undef, tmps.getD 53 undef, tmps.getD 54 undef, tmps.getD 55 undef, tmps.getD 56 undef, tmps.getD 57 undef, tmps.getD 58 undef, tmps.getD 59 undef, tmps.getD 60 undef, tmps.getD 61 undef, tmps.getD 62 undef, tmps.getD 63 undef, tmps.getD 64 undef, tmps.getD 65 undef, tmps.getD 66 undef, tmps.getD 67 undef, tmps.getD 68 undef, tmps.getD 69 undef, tmps.getD 70 undef, tmps.getD 71 undef, tmps.getD 72 undef, tmps.getD 73 undef, tmps.getD 74 undef, tmps.getD 75 undef, tmps.getD 76 undef, tmps.getD 77 undef, tmps.getD 78 undef, tmps.getD 79 undef, tmps.getD 80 undef, tmps.getD 81 undef, tmps.getD 82 undef, tmps.getD 83 undef, tmps.getD 84 undef, tmps.getD 85 undef, tmps.getD 86 undef, tmps.getD 87 undef, tmps.getD 88 undef, tmps.getD 89 undef, tmps.getD 90 undef, tmps.getD 91 undef, tmps.getD 92 undef, tmps.getD 93 undef, tmps.getD 94 undef, tmps.getD 95 undef, tmps.getD 96 undef, tmps.getD 97 undef, tmps.getD 98 undef, tmps.getD 99 undef, tmps.getD 100 undef, tmps.getD 101 undef, tmps.getD 102 undef, tmps.getD 103 undef, tmps.getD 104 undef, tmps.getD 105 undef, tmps.getD 106 undef, tmps.getD 107 undef, tmps.getD 108 undef, tmps.getD 109 undef, tmps.getD 110 undef, tmps.getD 111 undef, tmps.getD 112 undef, tmps.getD 113 undef, tmps.getD 114 undef] := rfl
  rw [e] at hl
  refine ⟨fun i => tmps.getD i undef, ?_, fun _ => rfl⟩
  congr 1
set_option maxRecDepth 1000000 in
set_option maxHeartbeats 16000000 in
theorem limits_walk (n1 n2 : Int) (w : World) (hR : RL w) (h0 : 0 < w.heap.size) : Calls Tryd.prog 8 #[.int .i64 n1, .int .i64 n2] w (VPost (.bool true) w) := by
  have HK := hide (known_any hR h0)
  have HR := hide hR
  clear hR
  obtain ⟨p, ep⟩ : ∃ p : Nat, plc n1 4 = (p : Int) := ⟨(plc n1 4).toNat, by have := plc_in n1 (n := 4) (by omega); omega⟩
  obtain ⟨q, eq⟩ : ∃ q : Nat, plc n2 4 = (q : Int) := ⟨(plc n2 4).toNat, by have := plc_in n2 (n := 4) (by omega); omega⟩
  have hp4 : p < 4 := by have := plc_in n1 (n := 4) (by omega); omega
  have hq4 : q < 4 := by have := plc_in n2 (n := 4) (by omega); omega
  have HP1 : Hid (∀ w : World, Calls Tryd.prog 30 #[.int .i64 n1, .int .i64 4] w fun e w' => e = .returned (.int .i64 (p : Int)) ∧ w' = w) := fun w => by
    have := place_any n1 4 w (by omega) (by omega)
    rw [ep] at this
    exact this
  have HP2 : Hid (∀ w : World, Calls Tryd.prog 30 #[.int .i64 n2, .int .i64 4] w fun e w' => e = .returned (.int .i64 (q : Int)) ∧ w' = w) := fun w => by
    have := place_any n2 4 w (by omega) (by omega)
    rw [eq] at this
    exact this
  clear ep eq
  go_enter Tryd.func8, Tryd.ntmps8
  go_wp2_with fail
  refine (unhide HK).mono ?_
  rintro e w1 ⟨rfl, hb1⟩
  have HB1 := hide hb1
  clear hb1 HK
  go_wp2_with fail
  refine (unhide HP1 w1).mono ?_
  rintro e w2 ⟨rfl, rfl⟩
  go_wp2_with fail
  refine (unhide HP2 w2).mono ?_
  rintro e w3 ⟨rfl, rfl⟩
  obtain ⟨S, hS⟩ : ∃ S : Nat, (49998 : Int) + (p : Int) = (S : Int) := ⟨49998 + p, by omega⟩
  obtain ⟨D, hD⟩ : ∃ D : Nat, (198 : Int) + (q : Int) = (D : Int) := ⟨198 + q, by omega⟩
  obtain ⟨m, hm⟩ : ∃ m : Nat, (S : Int) - 1 = (m : Int) := ⟨S - 1, by omega⟩
  have HN := hide (show S = m + 1 ∧ m ≤ 50000 ∧ 49997 ≤ m ∧ D ≤ 201 ∧ 198 ≤ D by omega)
  obtain ⟨cur0, km, hc0⟩ := mkTerms m w3 (by omega)
  obtain ⟨g, eg⟩ : ∃ g, w3.heap.size = g := ⟨_, rfl⟩
  rw [eg] at km
  obtain ⟨C, eC, hbC, hsC, hcC, hhC⟩ := box_new w3 cur0 26
  obtain ⟨X, eX, hbX, hsX, hcX, hhX⟩ := box_new C (wideC g m) 26
  have HX : Hid ((∃ cur, TB X g m cur) ∧ Below w.heap.size w X ∧ X.heap[g + 1]? = some (.cells (wideC g m) 26) ∧ w.heap.size ≤ g) := by
    have h1 := (unhide HB1).size
    have hg : C.heap.size = g + 1 := by omega
    have hb3X : Below w3.heap.size w3 X := hbC.trans (hbX.mono (by omega))
    rw [eg] at hhC
    rw [hg] at hhX
    exact ⟨⟨cur0, (hbX.block g (by omega)).trans hhC, hc0⟩, (unhide HB1).trans (hb3X.mono h1), hhX, by omega⟩
  have hCg : C.heap.size = g + 1 := by omega
  have HEX := hide eX
  clear HP1 HP2 hbC hsC hcC hhC hbX hsX hcX hhX hc0 HB1
  go_wp2_with fail
  rw [show C.alloc (.cells #[.int .i64 12, .string { data := #[] }, .int .i64 0, .string { data := #[] }, .slice (some ⟨g, 0, none⟩) m m, .slice none 0 0, .slice none 0 0] 26) = X from unhide HEX]
  have HHE := hide (And.intro hS (And.intro hD hm))
  have hmI : (m : Int) ≤ 50000 := by have := unhide HN; omega
  clear km eC eg eX HEX hCg
  go_loopw [6] (fun iv wr => ∃ i cur, i ≤ m ∧ iv = .int .i64 (i : Int) ∧ TB wr g m cur ∧ Below w.heap.size w wr ∧ wr.heap[g + 1]? = some (.cells (wideC g m) 26) ∧ Made wr g 0 i (List.replicate m t1)) (fun iv _ => (m - (intOf iv).toNat))
  case atStart =>
    obtain ⟨⟨cur, h1⟩, h2, h3, h4⟩ := unhide HX
    exact ⟨0, cur, Nat.zero_le _, rfl, h1, h2, h3, fun j t hj => absurd hj (by omega)⟩
  case round =>
    obtain ⟨i, cur, hi, rfl, hTi, hBi, hWi, hMi⟩ := hrel
    by_cases hlt : i < m
    · have hdi : decide ((i : Int) < (m : Int)) = true := by simp; omega
      have hc4 : wr.cell? ⟨g + 1, 4, none⟩ = some (.slice (some ⟨g, 0, none⟩) m m) := (blk hWi).2.1 4 _ rfl
      have HI := hide (And.intro hTi (And.intro hBi (And.intro hWi (And.intro hMi hc4))))
      clear hTi hBi hWi hMi hc4
      go_wp2_with fail
      obtain ⟨hTi, hBi, hWi, hMi, hc4⟩ := unhide HI
      refine limits_r8 (b5 := g + 1) (g := g) (m := m) (i := i) (cur := cur) rfl rfl rfl (Array.getElem?_eq_some_iff.1 hWi).1 hc4 hTi hlt (by omega) ?_
      intro x1 x2 x3 x4 x5 W hW
      have hgl := (Array.getElem?_eq_some_iff.1 hTi.1).1
      have hTW : TB W g m cur := ⟨(hW.block g hgl).trans hTi.1, hTi.2⟩
      obtain ⟨cur', hT9, hM9⟩ := hMi.next (a := .int .i64 1) (b := .string .empty) (c := .int .i64 0) (e := .string ⟨#[49]⟩) (f := .slice none 0 0) (h := .slice none 0 0) (k := .slice none 0 0) hgl hTW (fun q hq => by
        rcases hq with hq | rfl
        · exact hW.block q hq.2.1
        · exact hW.block _ hgl) hW.size hlt (fun t ht => by
        have e : t = t1 := by
          have h2 := List.eq_of_mem_replicate (List.mem_of_getElem? ht)
          exact h2
        rw [e]
        exact one_isP _ _ _)
      have hB9 : Below w.heap.size w (put7 W g (i * 7) (.int .i64 1) (.string .empty) (.int .i64 0) (.string ⟨#[49]⟩) (.slice none 0 0) (.slice none 0 0) (.slice none 0 0)) := (hBi.trans (hW.mono hBi.size)).trans (put7_below (unhide HX).2.2.2)
      have hW9 : (put7 W g (i * 7) (.int .i64 1) (.string .empty) (.int .i64 0) (.string ⟨#[49]⟩) (.slice none 0 0) (.slice none 0 0) (.slice none 0 0)).heap[g + 1]? = some (.cells (wideC g m) 26) := (put7_far (by omega)).trans ((hW.block _ (Array.getElem?_eq_some_iff.1 hWi).1).trans hWi)
      generalize put7 W g (i * 7) (.int .i64 1) (.string .empty) (.int .i64 0) (.string ⟨#[49]⟩) (.slice none 0 0) (.slice none 0 0) (.slice none 0 0) = V at *
      have H9 := hide (And.intro hT9 (And.intro hB9 (And.intro hW9 hM9)))
      have HL := hide hlt
      clear hT9 hB9 hW9 hM9 hTW hgl hW hTi hBi hWi hMi hc4 HI hlt hdi
      unfold after8
      go_wp2
      exact ⟨⟨i + 1, cur', by have := unhide HL; omega, rfl, unhide H9⟩, by simp only [intOf]; have := unhide HL; omega⟩
    · have hin : m = i := by omega
      have hdi : decide ((m : Int) < (m : Int)) = false := by simp
      subst hin
      have HI := hide (And.intro hTi (And.intro hBi (And.intro hWi hMi)))
      clear hTi hBi hWi hMi hlt hi
      go_wp2_with fail
      refine (n_any ⟨#[49]⟩ wr).mono ?_
      rintro e w5 ⟨rfl, hb5⟩
      obtain ⟨h, eh⟩ : ∃ h, w5.heap.size = h := ⟨_, rfl⟩
      obtain ⟨Y, eY, hbY, hsY, hcY, hhY⟩ := box_new w5 oneC 26
      have HY : Hid (Below w.heap.size w Y ∧ Y.heap[g + 1]? = some (.cells (wideC g m) 26) ∧ IsT Y Y.heap.size 1 (.agg (wideC g m)) (wideT m) ∧ Y.heap[h]? = some (.cells oneC 26) ∧ g + 1 < h ∧ Y.heap.size = h + 1 ∧ IsT Y h 1 (.agg (wideC g m)) (wideT m) ∧ w.heap.size ≤ g) := by
        obtain ⟨hTi, hBi, hWi, hMi⟩ := unhide HI
        have hlt := (Array.getElem?_eq_some_iff.1 hWi).1
        have hbwY : Below wr.heap.size wr Y := hb5.trans (hbY.mono hb5.size)
        have hs5 := hb5.size
        rw [eh] at hhY
        have hIT := wide_isT hMi hTi (by have := unhide HN; omega)
        exact ⟨hBi.trans (hbwY.mono hBi.size), (hbwY.block _ hlt).trans hWi, hIT.more hbwY hbwY.size (Nat.le_refl _), hhY, by omega, by omega, hIT.more hbwY (by omega) (Nat.le_refl _), (unhide HX).2.2.2⟩
      have HEY := hide eY
      clear hb5 hbY hsY hcY hhY eY HI HX
      have HHE2 := HHE
      go_wp2_with fail
      rw [show w5.alloc (.cells #[.int .i64 1, .string .empty, .int .i64 0, .string { data := #[49] }, .slice none 0 0, .slice none 0 0, .slice none 0 0] 26) = Y from unhide HEY]
      clear HEY hdi eh
      go_loopw [8] (fun iv wz => ∃ (j k : Nat) (o0 : Int) (s1 : ByteArray) (i2 : Int) (s3 : ByteArray) (a4 a5 a6 : Option Addr) (n4 n5 n6 c4 c5 c6 : Nat), j ≤ D ∧ j = k + 1 ∧ iv = .int .i64 (j : Int) ∧ DeepIn wz h k o0 s1 i2 s3 a4 a5 a6 n4 n5 n6 c4 c5 c6 ∧ Below h Y wz) (fun iv _ => (D - (intOf iv).toNat))
      case atStart =>
        obtain ⟨_, _, _, h4, _, h6, _⟩ := unhide HY
        exact ⟨1, 0, _, _, _, _, _, _, _, _, _, _, _, _, _, by have := unhide HN; omega, rfl, rfl, ⟨h4, one_isP _ _ _⟩, Below.refl _ _⟩
      case round =>
        obtain ⟨j, k, o0, s1, i2, s3, a4, a5, a6, n4, n5, n6, c4, c5, c6, hj, hjk, rfl, hDp, hBz⟩ := hrel
        have hlt := (Array.getElem?_eq_some_iff.1 hDp.1).1
        have z0 := (blk hDp.1).2.1 0 _ rfl
        have z1 := (blk hDp.1).2.1 1 _ rfl
        have z2 := (blk hDp.1).2.1 2 _ rfl
        have z3 := (blk hDp.1).2.1 3 _ rfl
        have z4 := (blk hDp.1).2.1 4 _ rfl
        have z5 := (blk hDp.1).2.1 5 _ rfl
        have z6 := (blk hDp.1).2.1 6 _ rfl
        by_cases hjD : j < D
        · have hdj : decide ((j : Int) < (D : Int)) = true := by simp; omega
          have hA : ∀ x, (wr.alloc x).heap[h]? = some (.cells #[.int .i64 o0, .string s1, .int .i64 i2, .string s3, .slice a4 n4 c4, .slice a5 n5 c5, .slice a6 n6 c6] 26) := fun x => (((Below.refl wr.heap.size wr).alloc (Nat.le_refl _) x).block h hlt).trans hDp.1
          have y0 := fun x => (blk (hA x)).2.1 0 _ rfl
          have f0 := fun x => (blk (hA x)).2.2 0
          have y1 := fun x => (blk (hA x)).2.1 1 _ rfl
          have f1 := fun x => (blk (hA x)).2.2 1
          have y2 := fun x => (blk (hA x)).2.1 2 _ rfl
          have f2 := fun x => (blk (hA x)).2.2 2
          have y3 := fun x => (blk (hA x)).2.1 3 _ rfl
          have f3 := fun x => (blk (hA x)).2.2 3
          have y4 := fun x => (blk (hA x)).2.1 4 _ rfl
          have f4 := fun x => (blk (hA x)).2.2 4
          have y5 := fun x => (blk (hA x)).2.1 5 _ rfl
          have f5 := fun x => (blk (hA x)).2.2 5
          have y6 := fun x => (blk (hA x)).2.1 6 _ rfl
          have f6 := fun x => (blk (hA x)).2.2 6
          have H9 := hide (hDp.next (V := put7 (wr.alloc (.cells #[.int .i64 o0, .string s1, .int .i64 i2, .string s3, .slice a4 n4 c4, .slice a5 n5 c5, .slice a6 n6 c6] 26)) h 0 (.int .i64 14) (.string ⟨#[]⟩) (.int .i64 0) (.string ⟨#[]⟩) (.slice (some ⟨wr.heap.size, 0, none⟩) 1 1) (.slice none 0 0) (.slice none 0 0)) rfl)
          unfold put7 at H9
          simp only [Nat.zero_add] at H9
          have hjI : (j : Int) < 1000 := by have := unhide HN; omega
          have HBz := hide (And.intro hBz (And.intro hjk (And.intro hjD hlt)))
          clear hA hDp hBz hlt hjk
          go_wp2
          obtain ⟨hBz, hjk, _, hlt⟩ := unhide HBz
          obtain ⟨h9, hb9⟩ := unhide H9
          exact ⟨⟨j + 1, k + 1, _, _, _, _, _, _, _, _, _, _, _, _, _, by omega, by omega, rfl, h9, hBz.trans hb9⟩, by simp only [intOf]; omega⟩
        · have hjn : D = j := by omega
          subst hjn
          have hdj : decide ((D : Int) < (D : Int)) = false := by simp
          have HC : Hid (∀ W, Below wr.heap.size wr W → (W.cell? ⟨g + 1, 0, none⟩ = some (.int .i64 12) ∧ W.cell? ⟨g + 1, 1, none⟩ = some (.string ⟨#[]⟩) ∧ W.cell? ⟨g + 1, 2, none⟩ = some (.int .i64 0) ∧ W.cell? ⟨g + 1, 3, none⟩ = some (.string ⟨#[]⟩) ∧ W.cell? ⟨g + 1, 4, none⟩ = some (.slice (some ⟨g, 0, none⟩) m m) ∧ W.cell? ⟨g + 1, 5, none⟩ = some (.slice none 0 0) ∧ W.cell? ⟨g + 1, 6, none⟩ = some (.slice none 0 0)) ∧ (W.cell? ⟨h, 0, none⟩ = some (.int .i64 o0) ∧ W.cell? ⟨h, 1, none⟩ = some (.string s1) ∧ W.cell? ⟨h, 2, none⟩ = some (.int .i64 i2) ∧ W.cell? ⟨h, 3, none⟩ = some (.string s3) ∧ W.cell? ⟨h, 4, none⟩ = some (.slice a4 n4 c4) ∧ W.cell? ⟨h, 5, none⟩ = some (.slice a5 n5 c5) ∧ W.cell? ⟨h, 6, none⟩ = some (.slice a6 n6 c6)) ∧ IsT W W.heap.size 1 (.agg #[.int .i64 12, .string ⟨#[]⟩, .int .i64 0, .string ⟨#[]⟩, .slice (some ⟨g, 0, none⟩) m m, .slice none 0 0, .slice none 0 0]) (wideT m) ∧ IsT W W.heap.size k (.agg #[.int .i64 o0, .string s1, .int .i64 i2, .string s3, .slice a4 n4 c4, .slice a5 n5 c5, .slice a6 n6 c6]) (deepT k) ∧ RL W ∧ Below w.heap.size w W ∧ 0 < W.heap.size) := fun W hb => by
            obtain ⟨hBY, hWY, _, _, hgh, hsY, hIY, hwg⟩ := unhide HY
            have hz := hBz.size
            have hW1 : W.heap[g + 1]? = some (.cells (wideC g m) 26) := (hb.block _ (by omega)).trans ((hBz.block _ hgh).trans hWY)
            have hW2 : W.heap[h]? = some (.cells #[.int .i64 o0, .string s1, .int .i64 i2, .string s3, .slice a4 n4 c4, .slice a5 n5 c5, .slice a6 n6 c6] 26) := (hb.block _ hlt).trans hDp.1
            have hBwr : Below w.heap.size w wr := hBY.trans (hBz.mono (by omega))
            have hBW : Below w.heap.size w W := hBwr.trans (hb.mono hBwr.size)
            have hI1 : IsT wr wr.heap.size 1 (.agg (wideC g m)) (wideT m) := hIY.more hBz (by omega) (Nat.le_refl _)
            have hI2 : IsT wr wr.heap.size k (.agg #[.int .i64 o0, .string s1, .int .i64 i2, .string s3, .slice a4 n4 c4, .slice a5 n5 c5, .slice a6 n6 c6]) (deepT k) := hDp.2.isT fun q hq => hq.2.1
            exact ⟨⟨(blk hW1).2.1 0 _ rfl, (blk hW1).2.1 1 _ rfl, (blk hW1).2.1 2 _ rfl, (blk hW1).2.1 3 _ rfl, (blk hW1).2.1 4 _ rfl, (blk hW1).2.1 5 _ rfl, (blk hW1).2.1 6 _ rfl⟩, ⟨(blk hW2).2.1 0 _ rfl, (blk hW2).2.1 1 _ rfl, (blk hW2).2.1 2 _ rfl, (blk hW2).2.1 3 _ rfl, (blk hW2).2.1 4 _ rfl, (blk hW2).2.1 5 _ rfl, (blk hW2).2.1 6 _ rfl⟩, hI1.more hb hb.size (Nat.le_refl _), hI2.more hb hb.size (Nat.le_refl _), (unhide HR).below hBW h0, hBW, by have := hBW.size; omega⟩
          obtain ⟨e1, e2, hce⟩ : ∃ e1 e2, (wideT m).check rtT [] = (e1, e2) := ⟨_, _, rfl⟩
          obtain ⟨f1, f2, hcf⟩ : ∃ f1 f2, (deepT k).check rtT [] = (f1, f2) := ⟨_, _, rfl⟩
          have HE1 : Hid (e2 = 34 ↔ 50000 < S) := by
            have h2 := ck_wide m (by have := unhide HN; omega)
            rw [hce] at h2
            refine h2.trans ?_
            have := unhide HN
            omega
          have HE2 : Hid (f2 = 33 ↔ 200 < D) := by
            have h2 := ck_deep k (by have := unhide HN; omega)
            rw [hcf] at h2
            refine h2.trans ?_
            omega
          have HCe := hide hce
          have HCf := hide hcf
          have HJ := hide hjk
          clear z0 z1 z2 z3 z4 z5 z6 hDp hBz hlt hjk hjD hj hce hcf
          obtain ⟨⟨p0, p1, p2, p3, p4, p5, p6⟩, -, IA, -, RLa, -, hpos⟩ := unhide HC wr (Below.refl _ wr)
          have HK1 := hide (Check_any (rt := rtT) (B := wr.heap.size) (d := 1) (sig := []) IA (row_nil (k := 3)) rfl (Nat.le_refl _) hpos RLa (ok_wide 0 m (by have := unhide HN; omega) (by have := unhide HN; omega)) (by rw [wt_wide]; have := unhide HN; omega))
          rw [unhide HCe] at HK1
          clear IA RLa hpos
          go_wp2_with fail
          refine (unhide HK1).mono ?_
          rintro e w7 ⟨rfl, hb7⟩
          have HB7 := hide hb7
          clear hb7 HK1 p0 p1 p2 p3 p4 p5 p6
          obtain ⟨-, ⟨q0, q1, q2, q3, q4, q5, q6⟩, -, ID, RLa, -, hpos⟩ := unhide HC w7 (unhide HB7)
          have HK2 := hide (Check_any (rt := rtT) (B := w7.heap.size) (d := k) (sig := []) ID (row_nil (k := 3)) rfl (Nat.le_refl _) hpos RLa (by have := ok_deep k 0 (by have := unhide HN; have := unhide HJ; omega); rwa [Nat.zero_add] at this) (by rw [wt_deep]; have := unhide HN; have := unhide HJ; omega))
          rw [unhide HCf] at HK2
          clear ID RLa hpos
          unfold pairV
          go_wp2_with fail
          refine (unhide HK2).mono ?_
          rintro e w8 ⟨rfl, hb8⟩
          have HB8 := hide ((unhide HB7).trans (hb8.mono (unhide HB7).size))
          clear hb8 HK2 HB7 q0 q1 q2 q3 q4 q5 q6
          obtain ⟨X8, eX8, hbX8, hsX8, hcX8, hhX8⟩ := box_new w8 xC 26
          have HX8 := hide (And.intro hbX8 (And.intro hsX8 hhX8))
          have HE8 := hide eX8
          clear hbX8 hsX8 hcX8 hhX8 eX8
          unfold pairV
          go_wp2_with fail
          rw [show w8.alloc (.cells #[.int .i64 18, .string { data := #[120] }, .int .i64 1, .string { data := #[] }, .slice none 0 0, .slice none 0 0, .slice none 0 0] 26) = X8 from unhide HE8]
          refine limits_r17 (b1 := w8.heap.size) rfl rfl (unhide HX8).2.2 ?_
          intro a9 w9 hd9 hn9 hk9 hJ9
          obtain ⟨u, rfl, hu⟩ := lit115 hn9 hd9
          obtain ⟨r14, e14, hr14, hb9, hT9⟩ := hJ9
          have u14 : u 14 = .pointer (some ⟨r14, 0, none⟩) := (hu 14).trans e14
          have u0 : u 0 = .int .i64 (S : Int) := Option.some.inj (hk9 0 (by decide))
          have u1 : u 1 = .int .i64 (D : Int) := Option.some.inj (hk9 1 (by decide))
          have u5 : u 5 = .pointer (some ⟨g + 1, 0, none⟩) := Option.some.inj (hk9 5 (by decide))
          have u7 : u 7 = .pointer (some ⟨h, 0, none⟩) := Option.some.inj (hk9 7 (by decide))
          have u10 : u 10 = .int .i64 e2 := Option.some.inj (hk9 10 (by decide))
          have u12 : u 12 = .int .i64 f2 := Option.some.inj (hk9 12 (by decide))
          rw [u0, u1, u5, u7, u10, u12, u14]
          obtain ⟨hlt14, v4, v5, v6, d4, d5, d6, hc14, hI14⟩ := hT9.seven
          have hb8 := unhide HB8
          have hbX := (unhide HX8).1
          have hs9 := hb9.size
          have hsX := (unhide HX8).2.1
          have hb89 : Below w8.heap.size w8 w9 := hbX.trans (hb9.mono (by omega))
          have HB9 : Hid (Below wr.heap.size wr w9) := hb8.trans (hb89.mono hb8.size)
          have HCN : Hid (∀ W, Below w9.heap.size w9 W → (W.cell? ⟨r14, 0, none⟩ = some (.int .i64 19) ∧ W.cell? ⟨r14, 1, none⟩ = some (.string ⟨#[]⟩) ∧ W.cell? ⟨r14, 2, none⟩ = some (.int .i64 0) ∧ W.cell? ⟨r14, 3, none⟩ = some (.string ⟨#[]⟩) ∧ W.cell? ⟨r14, 4, none⟩ = some (.slice v4 1 d4) ∧ W.cell? ⟨r14, 5, none⟩ = some (.slice v5 1 d5) ∧ W.cell? ⟨r14, 6, none⟩ = some (.slice v6 1 d6)) ∧ IsT W W.heap.size 2 (.agg #[.int .i64 19, .string ⟨#[]⟩, .int .i64 0, .string ⟨#[]⟩, .slice v4 1 d4, .slice v5 1 d5, .slice v6 1 d6]) tAllN) := fun W hb => by
            refine ⟨⟨(hb.cell (p := ⟨r14, 0, none⟩) hlt14).trans (hc14 0 _ rfl), (hb.cell (p := ⟨r14, 1, none⟩) hlt14).trans (hc14 1 _ rfl), (hb.cell (p := ⟨r14, 2, none⟩) hlt14).trans (hc14 2 _ rfl), (hb.cell (p := ⟨r14, 3, none⟩) hlt14).trans (hc14 3 _ rfl), (hb.cell (p := ⟨r14, 4, none⟩) hlt14).trans (hc14 4 _ rfl), (hb.cell (p := ⟨r14, 5, none⟩) hlt14).trans (hc14 5 _ rfl), (hb.cell (p := ⟨r14, 6, none⟩) hlt14).trans (hc14 6 _ rfl)⟩, ?_⟩
            have hI : IsT w9 w9.heap.size 2 (.agg #[.int .i64 19, .string ⟨#[]⟩, .int .i64 0, .string ⟨#[]⟩, .slice v4 1 d4, .slice v5 1 d5, .slice v6 1 d6]) tAllN := hI14
            exact hI.more hb hb.size (Nat.le_refl _)
          clear hd9 hn9 hk9 hu e14 hr14 hb9 hT9 u14 u0 u1 u5 u7 u10 u12 hlt14 hc14 hI14 hb8 hbX hs9 hsX hb89 HX8 HE8 HB8
          obtain ⟨⟨p0, p1, p2, p3, p4, p5, p6⟩, -, IA, -, -, -, -⟩ := unhide HC w9 (unhide HB9)
          obtain ⟨⟨r0, r1, r2, r3, r4, r5, r6⟩, IN⟩ := unhide HCN w9 (Below.refl _ w9)
          obtain ⟨Z, eZ, hrZ, hbZ⟩ := row_one IA
          obtain ⟨-, INZ⟩ := unhide HCN Z hbZ
          have HI1 := hide (inst_limit (d := 2) INZ hrZ (by omega) (gr_wide m) (by rw [sz_wide]; have := unhide HN; omega) (by rw [dp_wide m (by have := unhide HN; omega)]; omega) (by rw [wt_wide]; have := unhide HN; omega))
          have HZ := hide hbZ
          have HEZ := hide eZ
          clear IA IN INZ hrZ hbZ eZ
          go_wp2_with fail
          rw [show w9.alloc (.cells #[.int .i64 12, .string ⟨#[]⟩, .int .i64 0, .string ⟨#[]⟩, .slice (some ⟨g, 0, none⟩) m m, .slice none 0 0, .slice none 0 0] 26) = Z from unhide HEZ]
          refine (unhide HI1).mono ?_
          rintro e w10 ⟨x0, x1, x2, x3, y4, l4, k4, y5, l5, k5, y6, l6, k6, er1, rfl, hb10, her1, -⟩
          rw [sz_wide] at her1
          obtain ⟨U, eU, hbU, hsU, hcU, hhU⟩ := box_new w10 #[.int .i64 x0, .string x1, .int .i64 x2, .string x3, .slice y4 l4 k4, .slice y5 l5 k5, .slice y6 l6 k6] 26
          have HBU : Hid (Below w9.heap.size w9 U) := by
            have hz := unhide HZ
            have h1 : Below w9.heap.size w9 w10 := hz.trans (hb10.mono hz.size)
            exact h1.trans (hbU.mono h1.size)
          have HBU2 : Hid (Below wr.heap.size wr U) := (unhide HB9).trans ((unhide HBU).mono (unhide HB9).size)
          have HG1 := hide her1
          clear hb10 her1 hbU hsU hcU hhU HI1 HZ HEZ p0 p1 p2 p3 p4 p5 p6 r0 r1 r2 r3 r4 r5 r6
          obtain ⟨-, ⟨q0, q1, q2, q3, q4, q5, q6⟩, -, ID, -, -, -⟩ := unhide HC U (unhide HBU2)
          obtain ⟨⟨r0, r1, r2, r3, r4, r5, r6⟩, -⟩ := unhide HCN U (unhide HBU)
          obtain ⟨Z2, eZ2, hrZ2, hbZ2⟩ := row_one ID
          obtain ⟨-, INZ2⟩ := unhide HCN Z2 ((unhide HBU).trans (hbZ2.mono (unhide HBU).size))
          have hkd : 197 ≤ k ∧ k ≤ 200 := by have := unhide HN; have := unhide HJ; omega
          have HI2 := hide (inst_limit (d := k + 1) (INZ2.deep (by omega)) hrZ2 (by omega) (gr_deep k) (by rw [sz_deep]; omega) (by rw [dp_deep]; omega) (by rw [wt_deep]; omega))
          have HZ2 := hide hbZ2
          have HEZ2 := hide eZ2
          clear ID INZ2 hrZ2 hbZ2 eZ2 hkd
          go_wp2_with fail
          rw [show U.alloc (.cells #[.int .i64 o0, .string s1, .int .i64 i2, .string s3, .slice a4 n4 c4, .slice a5 n5 c5, .slice a6 n6 c6] 26) = Z2 from unhide HEZ2]
          refine (unhide HI2).mono ?_
          rintro e w11 ⟨X0, X1, X2, X3, Y4, L4, K4, Y5, L5, K5, Y6, L6, K6, er2, rfl, hb11, -, her2⟩
          rw [sz_deep, dp_deep] at her2
          have HFin : Hid (Below w.heap.size w w11) := by
            have hz := unhide HZ2
            have h1 : Below wr.heap.size wr w11 := ((unhide HBU2).trans (hz.mono (unhide HBU2).size)).trans (hb11.mono (Nat.le_trans (unhide HBU2).size hz.size))
            exact (unhide HC w11 h1).2.2.2.2.2.1
          have HG2 : Hid (er2 = 33 ↔ 200 < D + 1) := by
            have hk := unhide HJ
            have hn := unhide HN
            refine (her2 (by omega)).trans ?_
            omega
          obtain ⟨b1, b1a, b1b, b1c⟩ : ∃ b : Bool, decide (e2 = 34) = b ∧ (e2 == 34) = b ∧ decide ((50000 : Int) < (S : Int)) = b := ⟨decide (e2 = 34), rfl, by simp [BEq.beq], by have := unhide HE1; exact decide_eq_decide.2 ⟨fun hh => this.2 (by omega), fun hh => (by have h5 := this.1 hh; omega)⟩⟩
          obtain ⟨b2, b2a, b2b, b2c⟩ : ∃ b : Bool, decide (f2 = 33) = b ∧ (f2 == 33) = b ∧ decide ((200 : Int) < (D : Int)) = b := ⟨decide (f2 = 33), rfl, by simp [BEq.beq], by have := unhide HE2; exact decide_eq_decide.2 ⟨fun hh => this.2 (by omega), fun hh => (by have h5 := this.1 hh; omega)⟩⟩
          obtain ⟨b3, b3a, b3b, b3c⟩ : ∃ b : Bool, decide (er1 = 34) = b ∧ (er1 == 34) = b ∧ decide ((50000 : Int) < (S : Int) + 1) = b := ⟨decide (er1 = 34), rfl, by simp [BEq.beq], by have := unhide HG1; have hn := unhide HN; exact decide_eq_decide.2 ⟨fun hh => this.2 (by omega), fun hh => (by have h5 := this.1 hh; omega)⟩⟩
          obtain ⟨b4, b4a, b4b, b4c⟩ : ∃ b : Bool, decide (er2 = 33) = b ∧ (er2 == 33) = b ∧ decide ((200 : Int) < (D : Int) + 1) = b := ⟨decide (er2 = 33), rfl, by simp [BEq.beq], by have := unhide HG2; exact decide_eq_decide.2 ⟨fun hh => this.2 (by omega), fun hh => (by have h5 := this.1 hh; omega)⟩⟩
          have hSI : (S : Int) ≤ 60000 := by have := unhide HN; omega
          have hDI : (D : Int) ≤ 60000 := by have := unhide HN; omega
          clear hb11 her2 HI2 HZ2 HEZ2 eU q0 q1 q2 q3 q4 q5 q6 r0 r1 r2 r3 r4 r5 r6
          go_wp2
          go_ret
          exact ⟨rfl, (unhide HFin).alloc (unhide HFin).size _⟩
end Go.Proofs.YtiockiilenjjaaaDoor
