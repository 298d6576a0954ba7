/- TermInsts: both Insts at light terms. -/
import Derived.Test.YtegmckpcchhmdaaDoorZAX
import Derived.Test.YtegmckpcchhmdaaDoorZAT
set_option linter.unusedVariables false
set_option linter.unusedSimpArgs false

/- The document's Inst: region 13. -/
namespace Go.Proofs.YtegmckpcchhmdaaDoor
open Go Go.RowKit
set_option maxRecDepth 100000 in
theorem fa5 (r : Nat) (w : World) : (Instr.fieldAt 25 (.pointer (some ⟨r, 0, none⟩)) 5).run Tryd.prog w = .ok (.pointer (some ⟨r, 5, none⟩)) w := by go_simp
set_option maxRecDepth 100000 in
theorem ldB {r o : Nat} {v : Value} {w : World} (h : w.cell? ⟨r, o, none⟩ = some v) : (Instr.loadAt 23 (.pointer (some ⟨r, o, none⟩))).run Tryd.prog w = .ok v w := by
  go_simp
theorem set7j (w : World) (r o : Nat) (x0 x1 x2 x3 x4 x5 x6 : Value) : w.setCells r o [x0, x1, x2, x3, x4, x5, x6] = put7 w r o x0 x1 x2 x3 x4 x5 x6 := rfl
def kept13 : List Nat := (List.range 78).filter fun i => !(i == 5 || (decide (70 ≤ i) && decide (i ≤ 77)))
def sps13 (r2 bL oL cL : Nat) (vV vM ve : Value) : List Value := [.pointer (some ⟨r2, 4, none⟩), .slice (some ⟨bL, oL, none⟩) 1 cL, .pointer (some ⟨bL, oL, none⟩), ve, .pointer (some ⟨r2, 5, none⟩), vV, vM]
def sp13 (H B e : Nat) (u' : Tm) (r2 bL oL cL : Nat) (vV vM ve : Value) (j : Nat) (w : World) (v : Value) : Prop := (j < 7 → v = (sps13 r2 bL oL cL vV vM ve).getD j undef) ∧ (j = 7 → B ≤ w.heap.size ∧ IsO w (NBk B H w) e v u')
set_option maxRecDepth 100000 in
set_option maxHeartbeats 4000000 in
theorem inst_r13 {X : Exit → Act → World → Prop} {a0 : Act} {w0 : World} {B e r2 r4 bL oL cL : Nat} {vV vM : Value} {u' : Tm} {i0 i2 : Int} {s1 s3 : ByteArray} {a4 a5 a6 : Option Addr} {n4 n5 n6 c4 c5 c6 : Nat}
    (hN : a0.tmps.size = 78) (h2 : a0.tmps[2]? = some (.pointer (some ⟨r2, 0, none⟩))) (h4 : a0.tmps[4]? = some (.pointer (some ⟨r4, 0, none⟩))) (h1 : a0.tmps[1]? = some vM) (hr2 : r2 < w0.heap.size) (hr4 : w0.heap[r4]? = some (.cells #[.int .i64 0, .string ⟨#[]⟩, .int .i64 0, .string ⟨#[]⟩, .slice none 0 0, .slice none 0 0, .slice none 0 0] 25)) (hbL : bL < w0.heap.size) (hB : B ≤ w0.heap.size)
    (c4' : w0.cell? ⟨r2, 4, none⟩ = some (.slice (some ⟨bL, oL, none⟩) 1 cL)) (c5' : w0.cell? ⟨r2, 5, none⟩ = some vV) (cx : w0.rangeAt bL oL [.int .i64 i0, .string s1, .int .i64 i2, .string s3, .slice a4 n4 c4, .slice a5 n5 c5, .slice a6 n6 c6])
    (hcall : ∀ W, Below w0.heap.size w0 W → Calls Tryd.prog 24 #[.agg ([.int .i64 i0, .string s1, .int .i64 i2, .string s3, .slice a4 n4 c4, .slice a5 n5 c5, .slice a6 n6 c6] : List Value).toArray, vV, vM] W fun ex w' => ∃ r, ex = .returned r ∧ Below W.heap.size W w' ∧ IsO w' (NBk B W.heap.size w') e r u')
    (hend : ∀ (a : Act) (w' : World), a.defers = a0.defers → a.tmps.size = 78 → (∀ k, k ∈ kept13 → a.tmps[k]? = a0.tmps[k]?) → a.tmps.getD 5 undef = .int .i64 0 → (∃ (W : World) (j0 j2 : Int) (t1 t3 : ByteArray) (b4 b5 b6 : Option Addr) (m4 m5 m6 k4 k5 k6 : Nat), Below w0.heap.size w0 W ∧ IsO W (NBk B w0.heap.size W) e (.agg #[.int .i64 j0, .string t1, .int .i64 j2, .string t3, .slice b4 m4 k4, .slice b5 m5 k5, .slice b6 m6 k6]) u' ∧ w' = put7 W r4 0 (.int .i64 j0) (.string t1) (.int .i64 j2) (.string t3) (.slice b4 m4 k4) (.slice b5 m5 k5) (.slice b6 m6 k6)) → X .normal a w') :
    (Code.region 13 (regionOf Tryd.f7 13).toArray true).wp Tryd.prog X a0 w0 := by
  have hD : Below w0.heap.size w0 w0.drew := (Below.refl _ w0).drew
  have hl : (regionOf Tryd.f7 13).length = 10 := by kernel_rfl
  refine wp_region_any (by kernel_rfl) ?_
  refine one_store2 (l := (regionOf Tryd.f7 13)) (w0 := w0.drew) 78 w0.heap.size 8 0 kept13 [0, 1, 2, 3, 4, 5, 6, 7] (sp13 w0.heap.size B e u' r2 bL oL cL vV vM (.agg ([.int .i64 i0, .string s1, .int .i64 i2, .string s3, .slice a4 n4 c4, .slice a5 n5 c5, .slice a6 n6 c6] : List Value).toArray)) (fun j v => j = 9 → v = .int .i64 0) (fun w' _ => ∃ (W : World) (j0 j2 : Int) (t1 t3 : ByteArray) (b4 b5 b6 : Option Addr) (m4 m5 m6 k4 k5 k6 : Nat), Below w0.heap.size w0 W ∧ IsO W (NBk B w0.heap.size W) e (.agg #[.int .i64 j0, .string t1, .int .i64 j2, .string t3, .slice b4 m4 k4, .slice b5 m5 k5, .slice b6 m6 k6]) u' ∧ w' = put7 W r4 0 (.int .i64 j0) (.string t1) (.int .i64 j2) (.string t3) (.slice b4 m4 k4) (.slice b5 m5 k5) (.slice b6 m6 k6)) (by kernel_rfl) hN (Nat.le_refl _) (by rw [hl]; decide) (by kernel_rfl) (by kernel_rfl) (by kernel_rfl) (by decide) (by decide) (by kernel_rfl) ?_ (fun v h => absurd h (by decide)) ?_ ?_ ?_ ?_
  · intro j w w' v h hb
    refine ⟨h.1, fun e => ⟨Nat.le_trans (h.2 e).1 hb.size, (h.2 e).2.keep (fun k hk => ?_) (Nat.le_refl _)⟩⟩
    have hBw := (h.2 e).1
    rcases hk with h1 | h1
    · exact ⟨.inl h1, hb.block k (by omega)⟩
    · exact ⟨.inr ⟨h1.1, by have := hb.size; omega⟩, hb.block k h1.2⟩
  · intro j hj a w hb hn hk hp
    have hb0 : Below w0.heap.size w0 w := hD.trans hb
    have k2 : a.eval (.tmp 2) = .pointer (some ⟨r2, 0, none⟩) := getD_of ((hk 2 (by decide)).trans h2)
    have k1 : a.eval (.tmp 1) = vM := getD_of ((hk 1 (by decide)).trans h1)
    have hi' : j = 0 ∨ j = 1 ∨ j = 2 ∨ j = 3 ∨ j = 4 ∨ j = 5 ∨ j = 6 ∨ j = 7 := by simpa using hj
    rcases hi' with rfl | rfl | rfl | rfl | rfl | rfl | rfl | rfl
    · exact st_want (wnone rfl) (op_fieldAddr k2 (fa4 r2 w) ⟨_, rfl, Below.refl _ _, by simp [sp13, sps13], by simp⟩)
    · have e : a.eval (.tmp 70) = .pointer (some ⟨r2, 4, none⟩) := (hp 0 rfl (by decide)).1 (by decide)
      exact st_want (wnone rfl) (op_load e (ld1 ((hb0.cell (p := ⟨r2, 4, none⟩) hr2).trans c4')) ⟨_, rfl, Below.refl _ _, by simp [sp13, sps13], by simp⟩)
    · have e : a.tmps.getD 71 undef = .slice (some ⟨bL, oL, none⟩) 1 cL := (hp 1 rfl (by decide)).1 (by decide)
      have he1 : a.eval (.tmp 71) = .slice (some ⟨bL, oL, none⟩) 1 cL := e
      refine st_want (wnone rfl) ?_
      show Oper.wp Tryd.prog ⟨some 72, .indexAddr 22 (.tmp 71) (.const (.int .i64 0)), _, _, _, _⟩ a w _ _
      unfold Oper.wp
      simp only [execOp, he1]
      have hz : a.eval (.const (.int .i64 0)) = .int .i64 0 := rfl
      rw [hz]
      go_simp
      exact ⟨_, rfl, Below.refl _ _, by simp [sp13, sps13], by simp⟩
    · have e1 : a.eval (.tmp 72) = .pointer (some ⟨bL, oL, none⟩) := (hp 2 rfl (by decide)).1 (by decide)
      exact st_want (wnone rfl) (op_load e1 (run_loadAt_mid (P := Tryd.prog) w bL oL 25 _ _ (rangeAt_below cx hbL hb0) rfl rfl rfl) ⟨_, rfl, Below.refl _ _, by simp [sp13, sps13], by simp⟩)
    · exact st_want (wnone rfl) (op_fieldAddr k2 (fa5 r2 w) ⟨_, rfl, Below.refl _ _, by simp [sp13, sps13], by simp⟩)
    · have e : a.eval (.tmp 74) = .pointer (some ⟨r2, 5, none⟩) := (hp 4 rfl (by decide)).1 (by decide)
      exact st_want (wnone rfl) (op_load e (ldB ((hb0.cell (p := ⟨r2, 5, none⟩) hr2).trans c5')) ⟨_, rfl, Below.refl _ _, by simp [sp13, sps13], by simp⟩)
    · refine st_want (wnone rfl) (op_move ⟨_, rfl, Below.refl _ _, ?_, by simp⟩)
      rw [k1]
      simp [sp13, sps13]
    · have e1 : a.tmps.getD 73 undef = .agg ([.int .i64 i0, .string s1, .int .i64 i2, .string s3, .slice a4 n4 c4, .slice a5 n5 c5, .slice a6 n6 c6] : List Value).toArray := (hp 3 rfl (by decide)).1 (by decide)
      have e2 : a.tmps.getD 75 undef = vV := (hp 5 rfl (by decide)).1 (by decide)
      have e3 : a.tmps.getD 76 undef = vM := (hp 6 rfl (by decide)).1 (by decide)
      refine st_want (wnone rfl) (op_call enter_Put ?_)
      have hargs : (#[Operand.tmp 73, .tmp 75, .tmp 76]).map a.eval = #[.agg ([.int .i64 i0, .string s1, .int .i64 i2, .string s3, .slice a4 n4 c4, .slice a5 n5 c5, .slice a6 n6 c6] : List Value).toArray, vV, vM] := by
        simp only [List.map_toArray, List.map_cons, List.map_nil, Act.eval]
        rw [e1, e2, e3]
      rw [hargs]
      refine (hcall w hb0).mono ?_
      rintro ex w' ⟨r, rfl, hb', hI⟩
      refine ⟨r, rfl, r, rfl, hb', ⟨fun h => absurd h (by decide), fun _ => ⟨Nat.le_trans hB (Nat.le_trans hb0.size hb'.size), hI.keep (fun k hk => ⟨?_, rfl⟩) (Nat.le_refl _)⟩⟩, by simp⟩
      rcases hk with h | h
      · exact .inl h
      · exact .inr ⟨Nat.le_trans hb0.size h.1, h.2⟩
  · intro j hj hj1 hj2 a w hn hk hp
    rw [hl] at hj
    have hj1' : ¬ (j = 0 ∨ j = 1 ∨ j = 2 ∨ j = 3 ∨ j = 4 ∨ j = 5 ∨ j = 6 ∨ j = 7) := by simpa using hj1
    obtain rfl : j = 9 := by omega
    exact st_want (wnone rfl) (op_assign ⟨_, rfl, rfl, fun _ => rfl⟩)
  · intro a w hb hn hk hp
    have hb0 : Below w0.heap.size w0 w := hD.trans hb
    obtain ⟨hBw, hI⟩ := (hp 7 (by decide)).2 rfl
    obtain ⟨j0, j2, t1, t3, b4, b5, b6, m4, m5, m6, k4, k5, k6, e7⟩ := hI.seven
    rw [e7] at hI
    have e3 : a.eval (.tmp 77) = .agg #[.int .i64 j0, .string t1, .int .i64 j2, .string t3, .slice b4 m4 k4, .slice b5 m5 k5, .slice b6 m6 k6] := e7
    have e4 : a.eval (.tmp 4) = .pointer (some ⟨r4, 0, none⟩) := getD_of ((hk 4 (by decide)).trans h4)
    have hrw : w.heap[r4]? = some (.cells #[.int .i64 0, .string ⟨#[]⟩, .int .i64 0, .string ⟨#[]⟩, .slice none 0 0, .slice none 0 0, .slice none 0 0] 25) := (hb0.block r4 (Array.getElem?_eq_some_iff.1 hr4).1).trans hr4
    refine wp_store_mid 25 (.tmp 4) (.tmp 77) rfl r4 0 #[.int .i64 j0, .string t1, .int .i64 j2, .string t3, .slice b4 m4 k4, .slice b5 m5 k5, .slice b6 m6 k6] e4 e3 (fun j hj => ?_) infT7 (by simp [Value.oneCell']) ⟨rfl, w, j0, j2, t1, t3, b4, b5, b6, m4, m5, m6, k4, k5, k6, hb0, hI, set7j ..⟩
    have hj7 : j < 7 := hj
    rcases (by omega : j = 0 ∨ j = 1 ∨ j = 2 ∨ j = 3 ∨ j = 4 ∨ j = 5 ∨ j = 6) with rfl | rfl | rfl | rfl | rfl | rfl | rfl
    all_goals
      refine ⟨?_, (blk hrw).2.2 _⟩
      rw [(blk hrw).2.1 _ _ rfl]
      rfl
  · intro a w hd hn hk hpu hJ
    exact hend a w hd hn hk (hpu 9 (by rw [hl]; decide) rfl) hJ
end Go.Proofs.YtegmckpcchhmdaaDoor

/- The document's Inst: region 8. -/
namespace Go.Proofs.YtegmckpcchhmdaaDoor
open Go Go.RowKit
theorem enter_measure : Enters Tryd.prog 23 := ⟨fun xs w => by go_simp⟩
def kept8i : List Nat := (List.range 78).filter fun i => !(i == 9 || i == 10 || (decide (51 ≤ i) && decide (i ≤ 63)))
def phi8 (r2 bL oL cL : Nat) (vV vM v6 v7 ve : Value) (P K : Int) (j : Nat) (v : Value) : Prop := (j < 9 → v = ([.pointer (some ⟨r2, 4, none⟩), .slice (some ⟨bL, oL, none⟩) 1 cL, .pointer (some ⟨bL, oL, none⟩), ve, .pointer (some ⟨r2, 5, none⟩), vV, vM, v6, v7] : List Value).getD j undef) ∧ (j = 9 ∨ j = 10 → ∃ p q : Int, v = .tuple #[.int .i64 p, .int .i64 q] ∧ 0 ≤ p ∧ p ≤ P ∧ 0 ≤ q ∧ q ≤ K) ∧ (j = 11 ∨ j = 13 → ∃ p : Int, v = .int .i64 p ∧ 0 ≤ p ∧ p ≤ P) ∧ (j = 12 ∨ j = 14 → ∃ q : Int, v = .int .i64 q ∧ 0 ≤ q ∧ q ≤ K)
set_option maxRecDepth 100000 in
set_option maxHeartbeats 4000000 in
theorem inst_r8 {X : Exit → Act → World → Prop} {a0 : Act} {w0 : World} {r2 bL oL cL : Nat} {vV vM v6 v7 : Value} {P K : Int} {i0 i2 : Int} {s1 s3 : ByteArray} {a4 a5 a6 : Option Addr} {n4 n5 n6 c4 c5 c6 : Nat}
    (hN : a0.tmps.size = 78) (h2 : a0.tmps[2]? = some (.pointer (some ⟨r2, 0, none⟩))) (h1 : a0.tmps[1]? = some vM) (h6 : a0.tmps[6]? = some v6) (h7 : a0.tmps[7]? = some v7) (hr2 : r2 < w0.heap.size) (hbL : bL < w0.heap.size)
    (c4' : w0.cell? ⟨r2, 4, none⟩ = some (.slice (some ⟨bL, oL, none⟩) 1 cL)) (c5' : w0.cell? ⟨r2, 5, none⟩ = some vV) (cx : w0.rangeAt bL oL [.int .i64 i0, .string s1, .int .i64 i2, .string s3, .slice a4 n4 c4, .slice a5 n5 c5, .slice a6 n6 c6])
    (hcall : ∀ W, Below w0.heap.size w0 W → Calls Tryd.prog 23 #[.agg ([.int .i64 i0, .string s1, .int .i64 i2, .string s3, .slice a4 n4 c4, .slice a5 n5 c5, .slice a6 n6 c6] : List Value).toArray, vV, vM, v6, v7] W fun ex w' => ∃ p q : Int, ex = .returned (.tuple #[.int .i64 p, .int .i64 q]) ∧ 0 ≤ p ∧ p ≤ P ∧ 0 ≤ q ∧ q ≤ K ∧ Below W.heap.size W w')
    (hend : ∀ (a : Act) (w' : World) (p q : Int), a.defers = a0.defers → a.tmps.size = 78 → (∀ k, k ∈ kept8i → a.tmps[k]? = a0.tmps[k]?) → a.tmps.getD 9 undef = .int .i64 p → 0 ≤ p → p ≤ P → a.tmps.getD 10 undef = .int .i64 q → 0 ≤ q → q ≤ K → Below w0.heap.size w0 w' → X .normal a w') :
    (Code.region 8 (regionOf Tryd.f7 8).toArray true).wp Tryd.prog X a0 w0 := by
  have hD : Below w0.heap.size w0 w0.drew := (Below.refl _ w0).drew
  have hl : (regionOf Tryd.f7 8).length = 15 := by kernel_rfl
  refine wp_region_any (by kernel_rfl) ?_
  refine chains2 (l := (regionOf Tryd.f7 8)) (w0 := w0.drew) 78 w0.heap.size 1 kept8i (phi8 r2 bL oL cL vV vM v6 v7 (.agg ([.int .i64 i0, .string s1, .int .i64 i2, .string s3, .slice a4 n4 c4, .slice a5 n5 c5, .slice a6 n6 c6] : List Value).toArray) P K) (fun i => if i = 9 then some 0 else none) (fun _ _ _ _ _ => True) (by kernel_rfl) hN (Nat.le_refl _) (by kernel_rfl) ?_ ⟨fun _ => [], fun _ _ => ⟨fun g hg => (by cases hg), fun _ _ _ => trivial⟩, ⟨fun _ _ _ _ _ k hk => (by cases hk), fun _ _ k hk => (by cases hk)⟩⟩ (fun _ _ _ _ _ _ _ _ _ _ => trivial) ?_ ?_ ?_
  · intro j c hj
    split at hj
    · have := Option.some.inj hj; omega
    · cases hj
  · intro j hj hcn a w hb hn hk hp
    rw [hl] at hj
    have hb0 : Below w0.heap.size w0 w := hD.trans hb
    have hj9 : j ≠ 9 := fun e => by rw [if_pos e] at hcn; cases hcn
    have k2 : a.eval (.tmp 2) = .pointer (some ⟨r2, 0, none⟩) := getD_of ((hk 2 (by decide)).trans h2)
    have k1 : a.eval (.tmp 1) = vM := getD_of ((hk 1 (by decide)).trans h1)
    have k6 : a.eval (.tmp 6) = v6 := getD_of ((hk 6 (by decide)).trans h6)
    have k7 : a.eval (.tmp 7) = v7 := getD_of ((hk 7 (by decide)).trans h7)
    rcases (by omega : j = 0 ∨ j = 1 ∨ j = 2 ∨ j = 3 ∨ j = 4 ∨ j = 5 ∨ j = 6 ∨ j = 7 ∨ j = 8 ∨ j = 10 ∨ j = 11 ∨ j = 12 ∨ j = 13 ∨ j = 14) with rfl | rfl | rfl | rfl | rfl | rfl | rfl | rfl | rfl | rfl | rfl | rfl | rfl | rfl
    · exact st_want (wnone rfl) (op_fieldAddr k2 (fa4 r2 w) ⟨_, rfl, rfl, by simp [phi8]⟩)
    · have e : a.eval (.tmp 52) = .pointer (some ⟨r2, 4, none⟩) := (hp 0 rfl).1 (by decide)
      exact st_want (wnone rfl) (op_load e (ld1 ((hb0.cell (p := ⟨r2, 4, none⟩) hr2).trans c4')) ⟨_, rfl, rfl, by simp [phi8]⟩)
    · have he1 : a.eval (.tmp 53) = .slice (some ⟨bL, oL, none⟩) 1 cL := (hp 1 rfl).1 (by decide)
      refine st_want (wnone rfl) ?_
      show Oper.wp Tryd.prog ⟨some 54, .indexAddr 22 (.tmp 53) (.const (.int .i64 0)), _, _, _, _⟩ a w _ _
      unfold Oper.wp
      simp only [execOp, he1]
      have hz : a.eval (.const (.int .i64 0)) = .int .i64 0 := rfl
      rw [hz]
      go_simp
      exact ⟨_, rfl, by simp [phi8]⟩
    · have e1 : a.eval (.tmp 54) = .pointer (some ⟨bL, oL, none⟩) := (hp 2 rfl).1 (by decide)
      exact st_want (wnone rfl) (op_load e1 (run_loadAt_mid (P := Tryd.prog) w bL oL 25 _ _ (rangeAt_below cx hbL hb0) rfl rfl rfl) ⟨_, rfl, rfl, by simp [phi8]⟩)
    · exact st_want (wnone rfl) (op_fieldAddr k2 (fa5 r2 w) ⟨_, rfl, rfl, by simp [phi8]⟩)
    · have e : a.eval (.tmp 56) = .pointer (some ⟨r2, 5, none⟩) := (hp 4 rfl).1 (by decide)
      exact st_want (wnone rfl) (op_load e (ldB ((hb0.cell (p := ⟨r2, 5, none⟩) hr2).trans c5')) ⟨_, rfl, rfl, by simp [phi8]⟩)
    · refine st_want (wnone rfl) (op_move ⟨_, rfl, rfl, ?_⟩)
      rw [k1]
      simp [phi8]
    · refine st_want (wnone rfl) (op_move ⟨_, rfl, rfl, ?_⟩)
      rw [k6]
      simp [phi8]
    · refine st_want (wnone rfl) (op_move ⟨_, rfl, rfl, ?_⟩)
      rw [k7]
      simp [phi8]
    · obtain ⟨p, q, e, hh⟩ := (hp 9 rfl).2.1 (.inl rfl)
      refine st_want (wnone rfl) (op_move ⟨_, rfl, rfl, ⟨fun h => absurd h (by decide), fun _ => ⟨p, q, e, hh⟩, fun h => absurd h (by decide), fun h => absurd h (by decide)⟩⟩)
    · obtain ⟨p, q, e, h1, h2, h3, h4⟩ := (hp 10 rfl).2.1 (.inr rfl)
      exact st_want (wnone rfl) (op_extractA (p := .int .i64 p) (q := .int .i64 q) e rfl ⟨_, rfl, rfl, ⟨fun h => absurd h (by decide), fun h => absurd h (by decide), fun _ => ⟨p, rfl, h1, h2⟩, fun h => absurd h (by decide)⟩⟩)
    · obtain ⟨p, q, e, h1, h2, h3, h4⟩ := (hp 10 rfl).2.1 (.inr rfl)
      exact st_want (wnone rfl) (op_extractA (p := .int .i64 p) (q := .int .i64 q) e rfl ⟨_, rfl, rfl, ⟨fun h => absurd h (by decide), fun h => absurd h (by decide), fun h => absurd h (by decide), fun _ => ⟨q, rfl, h3, h4⟩⟩⟩)
    · obtain ⟨p, e, hh⟩ := (hp 11 rfl).2.2.1 (.inl rfl)
      exact st_want (wnone rfl) (op_assign ⟨_, rfl, rfl, ⟨fun h => absurd h (by decide), fun h => absurd h (by decide), fun _ => ⟨p, e, hh⟩, fun h => absurd h (by decide)⟩⟩)
    · obtain ⟨p, e, hh⟩ := (hp 12 rfl).2.2.2 (.inl rfl)
      exact st_want (wnone rfl) (op_assign ⟨_, rfl, rfl, ⟨fun h => absurd h (by decide), fun h => absurd h (by decide), fun h => absurd h (by decide), fun _ => ⟨p, e, hh⟩⟩⟩)
  · intro j c hcn a w L U hb hn hk hp hLj hd hO hU
    have hb0 : Below w0.heap.size w0 w := hD.trans hb
    have hj9 : j = 9 := by
      split at hcn
      · assumption
      · cases hcn
    subst hj9
    have e1 : a.tmps.getD 55 undef = .agg ([.int .i64 i0, .string s1, .int .i64 i2, .string s3, .slice a4 n4 c4, .slice a5 n5 c5, .slice a6 n6 c6] : List Value).toArray := (hp 3 rfl).2.1 (by decide)
    have e2 : a.tmps.getD 57 undef = vV := (hp 5 rfl).2.1 (by decide)
    have e3 : a.tmps.getD 58 undef = vM := (hp 6 rfl).2.1 (by decide)
    have e4 : a.tmps.getD 59 undef = v6 := (hp 7 rfl).2.1 (by decide)
    have e5 : a.tmps.getD 60 undef = v7 := (hp 8 rfl).2.1 (by decide)
    refine ⟨wnone rfl, op_call enter_measure ?_⟩
    have hargs : (#[Operand.tmp 55, .tmp 57, .tmp 58, .tmp 59, .tmp 60]).map a.eval = #[.agg ([.int .i64 i0, .string s1, .int .i64 i2, .string s3, .slice a4 n4 c4, .slice a5 n5 c5, .slice a6 n6 c6] : List Value).toArray, vV, vM, v6, v7] := by
      simp only [List.map_toArray, List.map_cons, List.map_nil, Act.eval]
      rw [e1, e2, e3, e4, e5]
    rw [hargs]
    refine (hcall w hb0).mono ?_
    rintro ex w' ⟨p, q, rfl, h1, h2, h3, h4, hb'⟩
    exact ⟨_, rfl, _, [], rfl, ⟨fun h => absurd h (by decide), fun _ => ⟨p, q, rfl, h1, h2, h3, h4⟩, fun h => absurd h (by decide), fun h => absurd h (by decide)⟩, hb'.mono hb0.size, fun k hk _ => hb'.block k hk, fun _ h => (by cases h), ⟨fun g hg => (by cases hg), fun _ _ _ => trivial⟩⟩
  · intro a w hd hn hk hΦ hb _
    obtain ⟨p, e, h1, h2⟩ := (hΦ 13 (by rw [hl]; decide)).2.2.1 (.inr rfl)
    obtain ⟨q, e', h3, h4⟩ := (hΦ 14 (by rw [hl]; decide)).2.2.2 (.inr rfl)
    exact hend a w p q hd hn hk e h1 h2 e' h3 h4 (hD.trans hb)
end Go.Proofs.YtegmckpcchhmdaaDoor

/- The document's Inst, where it fills. -/
namespace Go.Proofs.YtegmckpcchhmdaaDoor
open Go Go.RowKit
def SD (w : World) (E i M D : Nat) (v8 v9 : Value) : Prop := ∃ (ys zs : List Value), w.ownsRow E 3 1 v8 i ys ∧ w.ownsRow E 3 1 v9 i zs ∧ AllN M ys ∧ AllN D zs ∧ ∀ g, v8.ownBlock = some g → v9.ownBlock ≠ some g
theorem lr_row {w : World} {B H d n c : Nat} {a : Option Addr} {ls : List Tm} (h : Row B a n c 7 (fun b o j => ∀ u, ls[j]? = some u → TmAt w B d b o u)) (hH : B ≤ H) : LR w B H d a n c ls := Row.mono h hH fun b o j hb hp u hu => by
  obtain ⟨d', aL, aV, aP, lL, lV, lP, cL, cV, cP, rfl, h1, h2⟩ := (hp u hu).range
  exact ⟨aL, aV, aP, lL, lV, lP, cL, cV, cP, h1, h2.more (Below.refl _ _) (Nat.le_refl _) (by omega)⟩
set_option maxRecDepth 1000000 in
set_option maxHeartbeats 16000000 in
theorem instD_yes {w : World} {B d m cm : Nat} {am : Option Addr} {v : Value} {t : Tm} {lm : List Tm} (hT : IsT w B d v t) (hl : Row B am m cm 7 (fun b o j => ∀ u, lm[j]? = some u → TmAt w B d b o u)) (hm : m = lm.length) (hB : B ≤ w.heap.size) (hwt : t.wt ≤ 1000000) (hm' : m ≤ 1000000) {x : Tm} {M D : Nat} (h19 : t.op = 19) (hx : t.l = [x]) (hvm : t.vars.length = lm.length) (hM : 1 ≤ M) (hlm : ∀ u ∈ lm, u.size ≤ M ∧ u.depth ≤ D) (hsz : x.size * M ≤ 50000) (hdp : x.depth + D ≤ 200) : Calls Tryd.prog 7 #[v, .slice am m cm] w fun ex w' => ∃ (r : Value) (er : Int), ex = .returned (.tuple #[r, .int .i64 er]) ∧ Below w.heap.size w w' ∧ er = 0 ∧ IsO w' (NBk B w.heap.size w') (d + d) r (x.putD (subV t.vars lm)) := by
  obtain ⟨f1, f2, aL, aV, aP, cL, cV, cP, rfl, hL, hV, hP⟩ := hT
  simp only [tcells, List.toArray]
  have hwl := t.wt_eq
  have hl3 : t.vars.length ≤ 1000000 := by omega
  have hl1 : t.l.length ≤ 1000000 := by have := len_wt t.l; omega
  obtain ⟨nL, hnL⟩ : ∃ n, t.l.length = n := ⟨_, rfl⟩
  obtain ⟨nV, hnV⟩ : ∃ n, t.vars.length = n := ⟨_, rfl⟩
  obtain ⟨nP, hnP⟩ : ∃ n, t.pat.length = n := ⟨_, rfl⟩
  rw [hnL] at hL hl1 ⊢
  rw [hnV] at hV hl3 ⊢
  rw [hnP] at hP ⊢
  obtain ⟨w1, e1, hb1, hs1, hc1, hh1⟩ := box_new w #[.int .i64 t.op, .string t.name, .int .i64 t.sort, .string t.num, .slice aL nL cL, .slice aV nV cV, .slice aP nP cP] 25
  obtain ⟨w2, e2, hb2, hs2, hc2, hh2⟩ := box_new w1 #[.int .i64 0, .string ⟨#[]⟩, .int .i64 0, .string ⟨#[]⟩, .slice none 0 0, .slice none 0 0, .slice none 0 0] 25
  rw [hs1] at hc2 hh2
  have hbw2 : Below w.heap.size w w2 := hb1.trans (hb2.mono (by omega))
  have hg3 : w2.heap[w.heap.size]? = some (.cells #[.int .i64 t.op, .string t.name, .int .i64 t.sort, .string t.num, .slice aL nL cL, .slice aV nV cV, .slice aP nP cP] 25) := (hb2.block _ (by omega)).trans hh1
  have hm2 : (m : Int) ≤ 1000000 := by omega
  have HE := hide (And.intro e1 e2)
  have HH2 := hide hh2
  have HG3 := hide hg3
  have x0 : w2.cell? ⟨w.heap.size, 0, none⟩ = some (.int .i64 t.op) := (blk hg3).2.1 0 _ rfl
  have x1 : w2.cell? ⟨w.heap.size, 1, none⟩ = some (.string t.name) := (blk hg3).2.1 1 _ rfl
  have x2 : w2.cell? ⟨w.heap.size, 2, none⟩ = some (.int .i64 t.sort) := (blk hg3).2.1 2 _ rfl
  have x3 : w2.cell? ⟨w.heap.size, 3, none⟩ = some (.string t.num) := (blk hg3).2.1 3 _ rfl
  have x4 : w2.cell? ⟨w.heap.size, 4, none⟩ = some (.slice aL nL cL) := (blk hg3).2.1 4 _ rfl
  have x5 : w2.cell? ⟨w.heap.size, 5, none⟩ = some (.slice aV nV cV) := (blk hg3).2.1 5 _ rfl
  have x6 : w2.cell? ⟨w.heap.size, 6, none⟩ = some (.slice aP nP cP) := (blk hg3).2.1 6 _ rfl
  have hs3 : w2.heap.size = w.heap.size + 2 := by omega
  have HBW := hide hbw2
  have hnL1 : nL = 1 := by rw [← hnL, hx]; rfl
  have hnm : nV = m := by omega
  have hMs : M ≤ 50000 := by
    have h1 : 1 ≤ x.size := by rw [x.size_eq]; omega
    exact Nat.le_trans (Nat.le_mul_of_pos_left M h1) hsz
  have hDs : D ≤ 200 := by omega
  subst hnL1 hnm
  have q1 : (t.op == 19) = true := by simp [h19]
  have q2 : (t.op != 19) = false := by simp [h19]
  have HI := hide (And.intro hL (And.intro hV (And.intro hl (And.intro hB (And.intro hlm (And.intro hx (And.intro hm (And.intro hnV (And.intro hM (And.intro hsz (And.intro hdp hwt)))))))))))
  clear hL hV hP hg3 hh2 hbw2 hl hB hnL hnV hnP hm hwt f1 f2 e1 hb1 hs1 hc1 hh1 e2 hb2 hs2 hc2 hwl h19 hlm hx hvm hM hsz hdp
  go_enter Tryd.func7, Tryd.ntmps7
  go_wp2_with fail
  show Code.wp _ _ _ _ ((w.alloc (.cells #[.int .i64 t.op, .string t.name, .int .i64 t.sort, .string t.num, .slice aL 1 cL, .slice aV nV cV, .slice aP nP cP] 25)).alloc (.cells #[.int .i64 0, .string ⟨#[]⟩, .int .i64 0, .string ⟨#[]⟩, .slice none 0 0, .slice none 0 0, .slice none 0 0] 25))
  rw [show (w.alloc (.cells #[.int .i64 t.op, .string t.name, .int .i64 t.sort, .string t.num, .slice aL 1 cL, .slice aV nV cV, .slice aP nP cP] 25)) = w1 from (unhide HE).1, show (w1.alloc (.cells #[.int .i64 0, .string ⟨#[]⟩, .int .i64 0, .string ⟨#[]⟩, .slice none 0 0, .slice none 0 0, .slice none 0 0] 25)) = w2 from (unhide HE).2]
  clear HE x0 x1 x2 x3 x6 q1 q2
  go_loopw [6, 7, 8] (fun v8 v9 iv wr => ∃ i : Nat, i ≤ nV ∧ iv = .int .i64 (i : Int) ∧ Below w2.heap.size w2 wr ∧ SD wr w2.heap.size i M D v8 v9) (fun _ _ iv _ => nV - (intOf iv).toNat)
  case atStart => exact ⟨0, Nat.zero_le _, rfl, Below.refl _ _, [], [], own_nilK _ _ _ _, own_nilK _ _ _ _, fun u hu => (by cases hu), fun u hu => (by cases hu), fun g hg => by simp [Value.ownBlock] at hg⟩
  case round =>
    obtain ⟨i, hi0, rfl, hb, hK⟩ := hrel
    obtain ⟨hL, hV, hl, hB, hlm, hx, hm, hnV, hM, hsz, hdp, hwt⟩ := unhide HI
    have hbw : Below w.heap.size w wr := (unhide HBW).trans (hb.mono (by omega))
    have hsr := hb.size
    by_cases hi : i < nV
    · have hil : i < lm.length := by omega
      obtain ⟨bM, oM, rfl, hbM, hA1⟩ := (hl.below (hbw.mono hB)).at hm hi
      obtain ⟨d', bA, bB, bC, lA, lB, lC, kA, kB, kC, rfl, hra, hTu⟩ := hA1.range
      have hum := hlm _ (List.getElem_mem hil)
      generalize lm[i] = u at *
      have hi2 : (i : Int) < (nV : Int) := by omega
      have HR := hide (And.intro hra (And.intro hTu (And.intro hbw (And.intro hb (And.intro hK (And.intro hum hB))))))
      clear hL hV hl hB hlm hx hm hnV hM hsz hdp hwt hra hTu hbw hb hK hum hA1 hil
      go_wp2_with fail
      obtain ⟨hra, hTu, hbw, hb, ⟨ys, zs, o8, o9, a1, a2, p1⟩, hum, hB⟩ := unhide HR
      refine inst_r7 (w0 := wr) (B := w2.heap.size) (i := i) (n := i) (zs := (u.size : Int)) (zd := (u.depth : Int)) rfl (by omega) rfl rfl rfl rfl hi (by omega) hra (fun W hW => ?_) (fun W hW => ?_) o8 o9 p1 (by omega) ?_
      · exact size_any d' B _ u W (hTu.more (hW.mono (by omega)) (Nat.le_refl _) (Nat.le_refl _)) (by have := hW.size; omega) (by omega)
      · exact depth_any d' B _ u W (hTu.more (hW.mono (by omega)) (Nat.le_refl _) (Nat.le_refl _)) (by have := hW.size; omega) (by omega)
      · intro a w' hdf hna hk9 hB' o8' o9' p1'
        obtain ⟨y, ea, hy⟩ := act_set [6, 7, 35, 36, 37, 38, 39, 40, 41, 42, 43, 44, 45, 46, 47, 48, 49, 50] (by kernel_rfl) hdf hna rfl hk9
        rw [← hy 6] at o8' p1'
        rw [← hy 7] at o9' p1'
        subst ea
        have hK9 : SD w' w2.heap.size (i + 1) M D (y 6) (y 7) := by
          refine ⟨ys ++ [.int .i64 (u.size : Int)], zs ++ [.int .i64 (u.depth : Int)], o8', o9', fun q hq => ?_, fun q hq => ?_, p1'⟩
          · rcases List.mem_append.1 hq with h | h
            · exact a1 q h
            · exact ⟨_, List.mem_singleton.1 h, by omega, by omega⟩
          · rcases List.mem_append.1 hq with h | h
            · exact a2 q h
            · exact ⟨_, List.mem_singleton.1 h, by omega, by omega⟩
        have H10 := hide (And.intro (hb.trans hB') hK9)
        clear hy hdf hna hk9 hB' o8' o9' p1' hK9 hb o8 o9 a1 a2 p1 hra hTu hbw hum hB HR
        simp only [setAll]
        go_wp2
        obtain ⟨r1, r2⟩ := unhide H10
        exact ⟨⟨i + 1, by omega, by simp, r1, r2⟩, by simp [intOf]; omega⟩
    · obtain rfl : i = nV := by omega
      have hd9 : decide ((i : Int) < (i : Int)) = false := by simp
      obtain ⟨ys, zs, o8, o9, a1, a2, p1⟩ := hK
      obtain ⟨a8, c8, rfl, r8⟩ := nr_own o8 a1 (by omega)
      obtain ⟨a9, c9, rfl, r9⟩ := nr_own o9 a2 (by omega)
      obtain ⟨bL, oL, rfl, hbL, hA⟩ := (hL.below (hbw.mono hB)).at (i := 0) (by rw [hx]; rfl) (by omega)
      have hx0 : t.l[0]'(by simp [hx]) = x := by simp [hx]
      rw [hx0] at hA
      simp only [Nat.zero_mul, Nat.add_zero] at hA
      obtain ⟨d', bA, bB, bC, lA, lB, lC, kA, kB, kC, rfl, ⟨c0, c1, c2, c3, c4, c5, c6⟩, hTx⟩ := hA.cells
      have hwx : x.wt ≤ 1000000 := by have := wt_mem (t := t) (u := x) (by rw [hx]; exact List.mem_singleton.2 rfl); omega
      have HMe : Hid (∀ W, Below wr.heap.size wr W → Calls Tryd.prog 23 #[tval x bA bB bC lA lB lC kA kB kC, .slice aV i cV, .slice am i cm, .slice a8 i c8, .slice a9 i c9] W fun ex w' => ∃ p q : Int, ex = .returned (.tuple #[.int .i64 p, .int .i64 q]) ∧ 0 ≤ p ∧ p ≤ ((x.size * M : Nat) : Int) ∧ 0 ≤ q ∧ q ≤ ((x.depth + D : Nat) : Int) ∧ Below W.heap.size W w') := fun W hW => by
        have hbW : Below w.heap.size w W := hbw.trans (hW.mono hbw.size)
        exact meas_any d' W B _ x t.vars aV am a8 a9 i i cV cm c8 c9 M D (hTx.more (hW.mono (by omega)) (Nat.le_refl _) (Nat.le_refl _)) (BR.below hV (hbW.mono hB) (by have := hW.size; omega)) hnV.symm (r8.below hW hW.size) (r9.below hW hW.size) (by have := hW.size; omega) hM (by omega) (by omega) (by omega) hwx
      have HPu : Hid (∀ W, Below wr.heap.size wr W → Calls Tryd.prog 24 #[tval x bA bB bC lA lB lC kA kB kC, .slice aV i cV, .slice am i cm] W fun ex w' => ∃ r, ex = .returned r ∧ Below W.heap.size W w' ∧ IsO w' (NBk B W.heap.size w') (d' + (d' + 1) + 1) r (x.putD (subV t.vars lm))) := fun W hW => by
        have hbW : Below w.heap.size w W := hbw.trans (hW.mono hbw.size)
        exact put_any (d' + 1) d' W B _ x t.vars lm aV am i cV cm (hTx.more (hW.mono (by omega)) (Nat.le_refl _) (Nat.le_refl _)) (BR.below hV (hbW.mono hB) (by have := hW.size; omega)) (lr_row (hl.below (hbW.mono hB)) (by have := hW.size; omega)) hnV.symm hm (by have := hW.size; omega) hwx (by omega)
      have y4 := (hb.cell (p := ⟨w.heap.size, 4, none⟩) (show w.heap.size < w2.heap.size by omega)).trans x4
      have y5 := (hb.cell (p := ⟨w.heap.size, 5, none⟩) (show w.heap.size < w2.heap.size by omega)).trans x5
      have HSS : Hid (∀ W, Below wr.heap.size wr W → (Below wr.heap.size wr W ∧ W.cell? ⟨w.heap.size, 4, none⟩ = some (.slice (some ⟨bL, oL, none⟩) 1 cL) ∧ W.cell? ⟨w.heap.size, 5, none⟩ = some (.slice aV i cV) ∧ Cells7 W bL oL x bA bB bC lA lB lC kA kB kC)) := fun W h => by
        have h1 : w.heap.size < wr.heap.size := by omega
        have h2 : bL < wr.heap.size := by omega
        exact ⟨h, (h.cell (p := ⟨w.heap.size, 4, none⟩) h1).trans y4, (h.cell (p := ⟨w.heap.size, 5, none⟩) h1).trans y5, (h.cell (p := ⟨bL, oL, none⟩) h2).trans c0, (h.cell (p := ⟨bL, oL + 1, none⟩) h2).trans c1, (h.cell (p := ⟨bL, oL + 2, none⟩) h2).trans c2, (h.cell (p := ⟨bL, oL + 3, none⟩) h2).trans c3, (h.cell (p := ⟨bL, oL + 4, none⟩) h2).trans c4, (h.cell (p := ⟨bL, oL + 5, none⟩) h2).trans c5, (h.cell (p := ⟨bL, oL + 6, none⟩) h2).trans c6⟩
      unfold Cells7 at HSS
      unfold tval at HMe HPu
      have HR := hide (And.intro hbw (And.intro hb (And.intro hB (And.intro hsz hdp))))
      clear hL hV hl hB hlm hx hm hnV hM hsz hdp hwt hbw hb o8 o9 a1 a2 p1 r8 r9 hA hTx hwx hx0 hi
      have hra : wr.rangeAt bL oL [.int .i64 x.op, .string x.name, .int .i64 x.sort, .string x.num, .slice bA lA kA, .slice bB lB kB, .slice bC lC kC] := fun j v hv => by
        have hj7 : j < 7 := by
          have := (List.getElem?_eq_some_iff.1 hv).1
          simpa using this
        rcases (by omega : j = 0 ∨ j = 1 ∨ j = 2 ∨ j = 3 ∨ j = 4 ∨ j = 5 ∨ j = 6) with rfl | rfl | rfl | rfl | rfl | rfl | rfl
        · exact c0.trans hv
        · exact c1.trans hv
        · exact c2.trans hv
        · exact c3.trans hv
        · exact c4.trans hv
        · exact c5.trans hv
        · exact c6.trans hv
      have HRA := hide (And.intro hra (And.intro y4 y5))
      clear hra c0 c1 c2 c3 c4 c5 c6 y4 y5 HSS
      go_wp2_with fail
      obtain ⟨hra, y4, y5⟩ := unhide HRA
      refine inst_r8 (w0 := wr) (r2 := w.heap.size) (P := ((x.size * M : Nat) : Int)) (K := ((x.depth + D : Nat) : Int)) (i0 := x.op) (s1 := x.name) (i2 := x.sort) (s3 := x.num) rfl rfl rfl rfl rfl (by omega) (by have := (unhide HR).2.2.1; omega) y4 y5 hra (unhide HMe) ?_
      intro a v1 p q hdf hna hk9 hsl9 hp0 hp1 hsl10 hq0 hq1 hT1
      obtain ⟨y, ea, hy⟩ := act_set [9, 10, 51, 52, 53, 54, 55, 56, 57, 58, 59, 60, 61, 62, 63] (by kernel_rfl) hdf hna rfl hk9
      rw [← hy 9] at hsl9
      rw [← hy 10] at hsl10
      subst ea
      obtain ⟨hbw, hb, hB, hsz, hdp⟩ := unhide HR
      have hp2 : p ≤ 50000 := by omega
      have hq2 : q ≤ 200 := by omega
      have dp : decide (50000 < p) = false := by simp; omega
      have dq : decide (200 < q) = false := by simp; omega
      have HT1 := hide hT1
      clear hp1 hq1 hsz hdp hbw hb hB hT1 hy hdf hna hk9 hra y4 y5
      simp only [setAll]
      rw [hsl9, hsl10]
      clear hsl9 hsl10
      go_wp2_with fail
      obtain ⟨hbw, hb, hB, hsz, hdp⟩ := unhide HR
      have hT1 := unhide HT1
      have hs4 := hT1.size
      have hr4 : v1.heap[w.heap.size + 1]? = some (.cells #[.int .i64 0, .string ⟨#[]⟩, .int .i64 0, .string ⟨#[]⟩, .slice none 0 0, .slice none 0 0, .slice none 0 0] 25) := (hT1.block _ (by omega)).trans ((hb.block _ (by omega)).trans (unhide HH2))
      obtain ⟨hra, y4, y5⟩ := unhide HRA
      refine inst_r13 (w0 := v1) (B := B) (r2 := w.heap.size) (r4 := w.heap.size + 1) (i0 := x.op) (s1 := x.name) (i2 := x.sort) (s3 := x.num) rfl rfl rfl rfl (by omega) hr4 (by omega) (by omega) ((hT1.cell (p := ⟨w.heap.size, 4, none⟩) (show w.heap.size < wr.heap.size by omega)).trans y4) ((hT1.cell (p := ⟨w.heap.size, 5, none⟩) (show w.heap.size < wr.heap.size by omega)).trans y5) (rangeAt_below hra (show bL < wr.heap.size by omega) hT1) (fun W hW => unhide HPu W (hT1.trans (hW.mono hs4))) ?_
      rintro a w' hdf hna hk9 h50 ⟨W, j0, j2, t1, t3, b4, b5, b6, m4, m5, m6, l4, l5, l6, hbW, hI, rfl⟩
      have hrW : W.heap[w.heap.size + 1]? = some (.cells #[.int .i64 0, .string ⟨#[]⟩, .int .i64 0, .string ⟨#[]⟩, .slice none 0 0, .slice none 0 0, .slice none 0 0] 25) := (hbW.block _ (by omega)).trans hr4
      have hbw3 : Below w.heap.size w W := (hbw.trans (hT1.mono hbw.size)).trans (hbW.mono (by omega))
      have hsl4 : a.tmps[4]? = some (.pointer (some ⟨w.heap.size + 1, 0, none⟩)) := (hk9 4 (by decide)).trans rfl
      have hsl5 : a.tmps[5]? = some (.int .i64 0) := by
        have h5 : 5 < a.tmps.size := by rw [hna]; decide
        rw [Array.getD_eq_getD_getElem?, Array.getElem?_eq_getElem h5] at h50
        rw [Array.getElem?_eq_getElem h5]
        exact congrArg some h50
      have hdf0 : a.defers = [] := hdf
      have hpb : Below w.heap.size W (put7 W (w.heap.size + 1) 0 (.int .i64 j0) (.string t1) (.int .i64 j2) (.string t3) (.slice b4 m4 l4) (.slice b5 m5 l5) (.slice b6 m6 l6)) := put7_below (by omega)
      refine (‹∀ (a : Act) (w : World), Code.wp Tryd.prog .ret _ a w → _›) _ _ ?_
      refine wp_ret ?_
      refine ⟨hdf0, _, res_row2 (cs := [.int .i64 j0, .string t1, .int .i64 j2, .string t3, .slice b4 m4 l4, .slice b5 m5 l5, .slice b6 m6 l6]) rfl hsl4 hsl5 (range_block (fill7 hrW)) rfl rfl rfl, _, 0, rfl, hbw3.trans hpb, rfl, hI.keep (fun k hk => ?_) (by omega)⟩
      rcases hk with h | h
      · exact ⟨.inl h, put7_far (by omega)⟩
      · exact ⟨.inr ⟨by omega, by have := hpb.size; omega⟩, put7_far (by omega)⟩
end Go.Proofs.YtegmckpcchhmdaaDoor

/- A list of terms behind one term: what append makes. -/
namespace Go.Proofs.YtegmckpcchhmdaaDoor
open Go Go.RowKit
theorem TmAt.of_isT {w : World} {B d b o : Nat} {cs : List Value} {u : Tm} (h : IsT w B d (.agg cs.toArray) u) (hr : w.rangeAt b o cs) (hb : b < B) : TmAt w B (d + 1) b o u := by
  obtain ⟨h1, h2, aL, aV, aP, cL, cV, cP, e, hL, hV, hP⟩ := h
  have ecs : cs = tcells u aL aV aP cL cV cP := by
    injection e with e
    simpa using congrArg Array.toList e
  subst ecs
  exact ⟨hb, h1, h2, aL, aV, aP, cL, cV, cP, hr, hL, hV, hP, trivial⟩
/-- The cells of a row of terms. -/
theorem term_cells {w : World} {B d m cm : Nat} {am : Option Addr} {lm : List Tm} (hl : Row B am m cm 7 (fun b o j => ∀ u, lm[j]? = some u → TmAt w B d b o u)) (hm : m = lm.length) (h0 : m ≠ 0) :
    ∃ (b o : Nat) (lc : List Value), am = some ⟨b, o, none⟩ ∧ lc.length = m * 7 ∧ (∀ (j : Nat) u, lc[j]? = some u → w.cell? ⟨b, o + j, none⟩ = some u) ∧ (∀ u ∈ lc, u.oneCell' = true) ∧ ∀ j u, lm[j]? = some u → ∃ (d' : Nat) (cs : List Value), d = d' + 1 ∧ cs.length = 7 ∧ (∀ i, i < 7 → lc[j * 7 + i]? = cs[i]?) ∧ IsT w B d' (.agg cs.toArray) u := by
  obtain ⟨b, o, ha, hb, hj⟩ := hl.2.2 h0
  have hcell : ∀ k, k < m * 7 → ∃ v, w.cell? ⟨b, o + k, none⟩ = some v ∧ v.oneCell' = true := fun k hk => by
    have hk7 : k / 7 < m := by omega
    obtain ⟨d', aL, aV, aP, lL, lV, lP, cL, cV, cP, _, hr, _⟩ := (hj (k / 7) hk7 _ (List.getElem?_eq_getElem (show k / 7 < lm.length by omega))).range
    have e : ∀ i v, i = k % 7 → ([.int .i64 (lm[k / 7]'(by omega)).op, .string (lm[k / 7]'(by omega)).name, .int .i64 (lm[k / 7]'(by omega)).sort, .string (lm[k / 7]'(by omega)).num, .slice aL lL cL, .slice aV lV cV, .slice aP lP cP] : List Value)[i]? = some v → w.cell? ⟨b, o + k, none⟩ = some v := fun i v hi hv => by
      have := hr i v hv
      rw [show o + k / 7 * 7 + i = o + k by omega] at this
      exact this
    rcases (by omega : 0 = k % 7 ∨ 1 = k % 7 ∨ 2 = k % 7 ∨ 3 = k % 7 ∨ 4 = k % 7 ∨ 5 = k % 7 ∨ 6 = k % 7) with h | h | h | h | h | h | h
    · exact ⟨_, e 0 _ h rfl, rfl⟩
    · exact ⟨_, e 1 _ h rfl, rfl⟩
    · exact ⟨_, e 2 _ h rfl, rfl⟩
    · exact ⟨_, e 3 _ h rfl, rfl⟩
    · exact ⟨_, e 4 _ h rfl, rfl⟩
    · exact ⟨_, e 5 _ h rfl, rfl⟩
    · exact ⟨_, e 6 _ h rfl, rfl⟩
  have hget : ∀ k, k < m * 7 → ((List.range (m * 7)).map fun k => (w.cell? ⟨b, o + k, none⟩).getD undef)[k]? = w.cell? ⟨b, o + k, none⟩ := fun k hk => by
    obtain ⟨v, hv, _⟩ := hcell k hk
    rw [List.getElem?_map, List.getElem?_range hk, hv]
    simp [hv]
  refine ⟨b, o, (List.range (m * 7)).map fun k => (w.cell? ⟨b, o + k, none⟩).getD undef, ha, by simp, fun j u hu => ?_, fun u hu => ?_, fun j u hu => ?_⟩
  · have hjl : j < m * 7 := by
      have := (List.getElem?_eq_some_iff.1 hu).1
      simpa using this
    rw [hget j hjl] at hu
    exact hu
  · obtain ⟨k, hk, rfl⟩ := List.mem_map.1 hu
    obtain ⟨v, hv, h1⟩ := hcell k (List.mem_range.1 hk)
    simp only [hv]
    exact h1
  · have hjm : j < m := by rw [hm]; exact (List.getElem?_eq_some_iff.1 hu).1
    obtain ⟨d', aL, aV, aP, lL, lV, lP, cL, cV, cP, e, hr, hT⟩ := (hj j hjm u hu).range
    refine ⟨d', _, e, rfl, fun i hi => ?_, hT⟩
    rw [hget (j * 7 + i) (by omega)]
    have hi' : i < ([.int .i64 u.op, .string u.name, .int .i64 u.sort, .string u.num, .slice aL lL cL, .slice aV lV cV, .slice aP lP cP] : List Value).length := hi
    rw [List.getElem?_eq_getElem hi', show o + (j * 7 + i) = o + j * 7 + i by omega]
    exact hr i _ (List.getElem?_eq_getElem hi')
end Go.Proofs.YtegmckpcchhmdaaDoor

/- append([]api.Term{all}, l...). -/
namespace Go.Proofs.YtegmckpcchhmdaaDoor
open Go Go.RowKit
theorem join_all {w : World} {B d m cm : Nat} {am : Option Addr} {y : List Value} {t : Tm} {lm : List Tm} (hT : IsT w B d (.agg y.toArray) t) (hy : y.length = 7) (hyo : ∀ u ∈ y, u.oneCell' = true) (hl : Row B am m cm 7 (fun b o j => ∀ u, lm[j]? = some u → TmAt w B d b o u)) (hm : m = lm.length) (hB : B ≤ w.heap.size) (hby : (1 + m) * 120 ≤ 140737488355328) (ty : TypeId) :
    ∃ v' w', (Builtin.append_ #[22, 22] ty #[.slice (some ⟨w.heap.size, 0, none⟩) 1 1, .slice am m cm]).run Tryd.prog (w.alloc (.cells y.toArray 25)) = .ok v' w' ∧ Below w.heap.size w w' ∧ ∃ a c, v' = .slice a (1 + m) c ∧ Row w'.heap.size a (1 + m) c 7 (fun b o j => ∀ u, (t :: lm)[j]? = some u → TmAt w' w'.heap.size (d + 1) b o u) := by
  obtain ⟨iT, hiT, hzT, hsT, hbT⟩ := inf_of infT
  obtain ⟨A, eA, hbA, hsA, hcA, hhA⟩ := box_new w y.toArray 25
  rw [eA]
  have hown : A.ownsRow w.heap.size 25 7 (.slice (some ⟨w.heap.size, 0, none⟩) 1 1) 1 y := ⟨by omega, .inr ⟨w.heap.size, 1, y.toArray, rfl, Nat.le_refl _, hhA, Nat.le_refl _, by unfold maxLen; omega, by simp [hy], by simp [List.take_of_length_le, hy]⟩⟩
  have hlA := hl.below (hbA.mono hB)
  have key : ∃ (lc : List Value) (v' : Value) (w' : World), lc.length = m * 7 ∧ (∀ j u, lm[j]? = some u → ∃ (d' : Nat) (cs : List Value), d = d' + 1 ∧ cs.length = 7 ∧ (∀ i, i < 7 → lc[j * 7 + i]? = cs[i]?) ∧ IsT A B d' (.agg cs.toArray) u) ∧ (Builtin.append_ #[22, 22] ty #[.slice (some ⟨w.heap.size, 0, none⟩) 1 1, .slice am m cm]).run Tryd.prog A = .ok v' w' ∧ w'.ownsRow w.heap.size 25 7 v' (1 + m) (y ++ lc) ∧ A.grownBy w' (some w.heap.size) := by
    by_cases h0 : m = 0
    · have hlm : lm = [] := List.eq_nil_of_length_eq_zero (by omega)
      subst h0 hlm
      rcases am with _ | p
      · refine ⟨[], .slice (some ⟨w.heap.size, 0, none⟩) 1 1, A, rfl, fun j u hu => by simp at hu, ?_, by simpa using hown, ⟨rfl, rfl, rfl, Nat.le_refl _, fun _ _ _ => rfl⟩⟩
        simp [Builtin.append_, run_underlying tTerms, sizeOf, typeInfo, zeroValue, hiT, hzT, Builtin.lenOf, run_firstCells_none, storeCells]
      · obtain ⟨v', w', hr, ho, hg, _⟩ := run_append_own (P := Tryd.prog) A w.heap.size 22 ty 25 iT _ 7 120 tTerms hiT hzT hsT hbT rfl (by omega) _ 1 y hown p 0 cm [] rfl (fun j u hu => by simp at hu) (fun u hu => by cases hu) (by unfold maxLen; omega) hby hbA.size
        exact ⟨[], v', w', rfl, fun j u hu => by simp at hu, hr, ho, hg⟩
    · obtain ⟨b, o, lc, rfl, h1, h2, h3, h4⟩ := term_cells hlA hm h0
      obtain ⟨v', w', hr, ho, hg, _⟩ := run_append_own (P := Tryd.prog) A w.heap.size 22 ty 25 iT _ 7 120 tTerms hiT hzT hsT hbT rfl (by omega) _ 1 y hown ⟨b, o, none⟩ m cm lc h1 (fun j u hu => by
        have h := h2 j u hu
        by_cases hj0 : j = 0
        · subst hj0
          simpa [Addr.add] using h
        · simpa [Addr.add, hj0] using h) h3 (by unfold maxLen; omega) hby hbA.size
      exact ⟨lc, v', w', h1, h4, hr, ho, hg⟩
  obtain ⟨lc, v', w', h1, h4, hr, ho, hg⟩ := key
  have hb' : Below w.heap.size w w' := below_appK (v := .slice (some ⟨w.heap.size, 0, none⟩) 1 1) hbA hg hown hbA.size
  refine ⟨v', w', hr, hb', ?_⟩
  obtain ⟨a, c, rfl, hc, hrow⟩ := own_cells ho
  refine ⟨a, c, rfl, hc, by omega, fun h0 => ?_⟩
  obtain ⟨g, rfl, hg1, hg2, hj⟩ := hrow h0
  have hBw' : Below B A w' := (below_appK (v := .slice (some ⟨w.heap.size, 0, none⟩) 1 1) (Below.refl w.heap.size A) hg hown hbA.size).mono hB
  refine ⟨g, 0, rfl, hg2, fun j hjn u hu => ?_⟩
  cases j with
  | zero =>
    have : t = u := by simpa using hu
    subst this
    refine TmAt.of_isT (hT.more (hb'.mono hB) (Nat.le_trans hB hb'.size) (Nat.le_refl _)) (fun i v hv => ?_) hg2
    have hi : i < 7 := by have := (List.getElem?_eq_some_iff.1 hv).1; omega
    have := hj i v (by rw [List.getElem?_append_left (by omega)]; exact hv)
    rw [show 0 + 0 * 7 + i = i by omega]
    exact this
  | succ j =>
    have hu' : lm[j]? = some u := by simpa using hu
    obtain ⟨d', cs, rfl, hcs, hcell, hIT⟩ := h4 j u hu'
    refine TmAt.more (d := d' + 1) (Below.refl _ _) (Nat.le_refl _) (by omega) (TmAt.of_isT (hIT.more hBw' (Nat.le_trans hB hb'.size) (Nat.le_refl _)) (fun i v hv => ?_) hg2)
    have hi : i < 7 := by have := (List.getElem?_eq_some_iff.1 hv).1; omega
    have := hj ((j + 1) * 7 + i) v (by rw [List.getElem?_append_right (by omega), hy, show (j + 1) * 7 + i - 7 = j * 7 + i by omega, hcell i hi]; exact hv)
    rw [show 0 + (j + 1) * 7 + i = (j + 1) * 7 + i by omega]
    exact this
end Go.Proofs.YtegmckpcchhmdaaDoor

namespace Go.Proofs.YtegmckpcchhmdaaDoor
open Go Go.RowKit
def zTm : Tm := ⟨0, ⟨#[]⟩, 0, ⟨#[]⟩, [], [], []⟩
theorem zTm_isT (w : World) (B d : Nat) : IsT w B d zeroT zTm := ⟨⟨by show (-9223372036854775808 : Int) ≤ 0; decide, by show (0 : Int) ≤ 9223372036854775807; decide⟩, ⟨by show (-9223372036854775808 : Int) ≤ 0; decide, by show (0 : Int) ≤ 9223372036854775807; decide⟩, none, none, none, 0, 0, 0, rfl, ⟨Nat.le_refl _, by simp [zTm], fun h => absurd rfl h⟩, ⟨Nat.le_refl _, by simp [zTm], fun h => absurd rfl h⟩, ⟨Nat.le_refl _, by simp [zTm], fun h => absurd rfl h⟩⟩
def IP (E : Int) (U : Tm) (V : World) (e : Ending) (w' : World) : Prop := ∃ r, e = .returned (.tuple #[r, .int .i64 E]) ∧ Below V.heap.size V w' ∧ IsT w' w'.heap.size 700 r U
theorem Lt.depth : ∀ {e : Nat} {t : Tm}, Lt e t → t.depth ≤ e
  | 0, _, h => h.elim
  | e + 1, t, h => by
    rw [t.depth_eq]
    have h1 : ∀ l : List Tm, (∀ u ∈ l, u.depth ≤ e) → maxOf (l.map Tm.depth) ≤ e := fun l => by
      refine snoc_ind (p := fun l => (∀ u ∈ l, u.depth ≤ e) → maxOf (l.map Tm.depth) ≤ e) (fun _ => by simp [maxOf]) (fun l a ih h => ?_) l
      have h1 := ih fun u hu => h u (by simp [hu])
      have h2 := h a (by simp)
      have e : maxOf ((l ++ [a]).map Tm.depth) = max (maxOf (l.map Tm.depth)) a.depth := by
        rw [List.map_append, maxOf, List.foldl_append]
        rfl
      omega
    have := h1 t.l fun u hu => Lt.depth (h.2.2.1 u hu)
    omega
theorem prod_le {a b : Nat} (h : a + b ≤ 301) : a * b ≤ 50000 := by
  rcases Nat.le_total a b with h1 | h1
  · have := Nat.mul_le_mul (show a ≤ 150 by omega) (show b ≤ 301 by omega)
    omega
  · have := Nat.mul_le_mul (show a ≤ 301 by omega) (show b ≤ 150 by omega)
    omega
theorem inst_both {t : Tm} {lm : List Tm} (hw : ((t :: lm).map Tm.wt).sum ≤ 300) (hlt : ∀ u ∈ t :: lm, Lt 61 u) : ∃ (E : Int) (U1 U2 : Tm), (0 ≤ E ∧ E ≤ 34) ∧ U1.same U2 = true ∧ ∀ (V : World) (B d m cm : Nat) (am : Option Addr) (v : Value), IsT V B d v t → Row B am m cm 7 (fun b o j => ∀ u, lm[j]? = some u → TmAt V B d b o u) → m = lm.length → B ≤ V.heap.size → Calls Tryd.prog 6 #[v, .slice am m cm] V (IP E U1 V) ∧ Calls Tryd.prog 7 #[v, .slice am m cm] V (IP E U2 V) := by
  have hws : t.wt + (lm.map Tm.wt).sum ≤ 300 := by simpa using hw
  have hln := len_wt lm
  have hlw : ∀ u ∈ lm, u.wt ≤ (lm.map Tm.wt).sum := fun u hu => mem_wt hu
  have hld : ∀ u ∈ lm, u.depth ≤ 61 := fun u hu => Lt.depth (hlt u (by simp [hu]))
  by_cases hyes : t.op = 19 ∧ t.l.length = 1 ∧ t.vars.length = lm.length
  · obtain ⟨h19, h1, hvl⟩ := hyes
    obtain ⟨x, hx⟩ : ∃ x, t.l = [x] := by
      cases hl : t.l with
      | nil => rw [hl] at h1; cases h1
      | cons x r =>
        rw [hl] at h1
        have : r = [] := List.eq_nil_of_length_eq_zero (by simpa using h1)
        exact ⟨x, by rw [this]⟩
    have hxw : x.wt + 1 ≤ t.wt := by
      rw [t.wt_eq, hx]
      simp
      omega
    have hxs := (size_wt x).1
    have hxd : x.depth ≤ 61 := by
      have h := Lt.depth (hlt t (by simp))
      rw [t.depth_eq, hx] at h
      have e : maxOf (([x] : List Tm).map Tm.depth) = x.depth := by simp [maxOf]
      omega
    obtain ⟨M, hM⟩ : ∃ M, max 1 (lm.map Tm.wt).sum = M := ⟨_, rfl⟩
    have hM1 : 1 ≤ M := by omega
    have hMx : x.size + M ≤ 301 := by omega
    have hsub : ∀ k u, subV t.vars lm k = some u → u.size ≤ M ∧ u.depth ≤ 61 := fun k u hu => by
      have hm := subV_mem _ _ _ _ hu
      have h1 := hlw u hm
      have h2 := (size_wt u).1
      exact ⟨by omega, hld u hm⟩
    have hb := isz_le hM1 hsub x (fun _ => 0)
    have hsz : x.size * M ≤ 50000 := prod_le hMx
    refine ⟨0, x.inst (subV t.vars lm) (fun _ => 0), x.putD (subV t.vars lm), by omega, ?_, ?_⟩
    · have h := same_inst (subV t.vars lm) x (fun _ => 0) (fun _ => Int.le_refl _)
      have e : vis (subV t.vars lm) (fun _ => 0) = subV t.vars lm := by
        funext k
        simp only [vis]
        cases subV t.vars lm k <;> simp
      rwa [e] at h
    · intro V B d m cm am v hT hl hm hB
      have hT3 : IsT V B 300 v t := hT.lower (by omega)
      have hl3 : Row B am m cm 7 (fun b o j => ∀ u, lm[j]? = some u → TmAt V B 300 b o u) := hl.mono (Nat.le_refl _) fun b o j _ h u hu => (h u hu).lower (by have := hlw u (List.mem_of_getElem? hu); omega)
      constructor
      · refine (Inst_any hT3 hl3 hm hB (by omega) (by omega) (fun u hu => ?_) (fun y hy _ => ?_)).mono ?_
        · have h1 := hlw u hu
          have h2 := (size_wt u).1
          have h3 := hld u hu
          exact ⟨by omega, by omega, by omega⟩
        · rw [hx] at hy
          obtain rfl : x = y := by simpa using hy
          refine Nat.le_trans (icp_le (M := 300) (fun k u hu => ?_) x _) ?_
          · have h1 := hlw u (subV_mem _ _ _ _ hu)
            omega
          · have := Nat.mul_le_mul (show x.wt ≤ 300 by omega) (Nat.le_refl 301)
            omega
        · rintro e w' ⟨v', er, rfl, hb', hR⟩
          rcases hR with ⟨hno, _⟩ | ⟨_, _, y, hy, hF⟩
          · exact absurd ⟨h19, h1, hvl⟩ hno
          · rw [hx] at hy
            obtain rfl : x = y := by simpa using hy
            rcases hF with ⟨h, _⟩ | ⟨_, h, _⟩ | ⟨_, _, rfl, hI⟩
            · omega
            · omega
            · exact ⟨v', rfl, hb', (hI.isT fun k hk => hk.2.1).more (Below.refl _ _) (Nat.le_refl _) (by omega)⟩
      · refine (instD_yes hT3 hl3 hm hB (by omega) (by omega) h19 hx hvl hM1 (D := 61) (fun u hu => ?_) hsz (by omega)).mono ?_
        · have h1 := hlw u hu
          have h2 := (size_wt u).1
          exact ⟨by omega, hld u hu⟩
        · rintro e w' ⟨r, er, rfl, hb', rfl, hI⟩
          exact ⟨r, rfl, hb', (hI.isT (B := w'.heap.size) fun k hk => by
            rcases hk with h | h
            · have := hb'.size; omega
            · exact h.2).more (Below.refl _ _) (Nat.le_refl _) (by omega)⟩
  · refine ⟨30, zTm, zTm, by omega, zTm.same_refl, ?_⟩
    intro V B d m cm am v hT hl hm hB
    have hT3 : IsT V B 300 v t := hT.lower (by omega)
    have hl3 : Row B am m cm 7 (fun b o j => ∀ u, lm[j]? = some u → TmAt V B 300 b o u) := hl.mono (Nat.le_refl _) fun b o j _ h u hu => (h u hu).lower (by have := hlw u (List.mem_of_getElem? hu); omega)
    constructor
    · refine (Inst_any hT3 hl3 hm hB (by omega) (by omega) (fun u hu => ?_) (fun y hy _ => ?_)).mono ?_
      · have h1 := hlw u hu
        have h2 := (size_wt u).1
        have h3 := hld u hu
        exact ⟨by omega, by omega, by omega⟩
      · have hyw : y.wt + 1 ≤ t.wt := by
          rw [t.wt_eq, hy]
          simp
          omega
        refine Nat.le_trans (icp_le (M := 300) (fun k u hu => ?_) y _) ?_
        · have h1 := hlw u (subV_mem _ _ _ _ hu)
          omega
        · have := Nat.mul_le_mul (show y.wt ≤ 300 by omega) (Nat.le_refl 301)
          omega
      · rintro e w' ⟨v', er, rfl, hb', hR⟩
        rcases hR with ⟨_, rfl, rfl⟩ | ⟨a1, a2, y, hy, hF⟩
        · exact ⟨_, rfl, hb', zTm_isT _ _ _⟩
        · exact absurd ⟨a1, by rw [hy]; rfl, a2⟩ hyes
    · refine (instD_no hT3 hl3 hm hB (by omega) (by omega) hyes).mono ?_
      rintro e w' ⟨r, er, rfl, hb', rfl, rfl⟩
      exact ⟨_, rfl, hb', zTm_isT _ _ _⟩
end Go.Proofs.YtegmckpcchhmdaaDoor
