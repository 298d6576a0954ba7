/- Package farkas: splits, its region of two sides. -/
import Derived.Test.YtnkigifcilgmbaaGreatDoorZAN
set_option linter.unusedVariables false
set_option linter.unusedSimpArgs false

/- Package farkas: opposite, its other regions. -/
namespace Go.Proofs.YtnkigifcilgmbaaGreatDoor
open Go Go.RowKit Go.Maps
open _root_.Go.Proofs.YtnkigifcilgmbaaGreatDoor.Nm (IsI pw)
set_option maxRecDepth 100000 in
theorem ix_P {pb n i : Nat} (w : World) (hi : i < n) (hn : n ≤ 1000000) : (Instr.indexAt 75 (.slice (some ⟨pb, 0, none⟩) n n) (.int .i64 i)).run Tryz.prog w = .ok (.pointer (some ⟨pb, i * 3, none⟩)) w := by
  have g1 : (i : Int) < (n : Int) := by omega
  have g0 : (0 : Int) ≤ (i : Int) := by omega
  have g2 : (n : Int) ≤ 1000000 := by omega
  go_simp
def spO5 (ob pb qb n i : Nat) (nm : ByteArray) (y1 y2 : Value) (z : Int) (j : Nat) (w : World) (v : Value) : Prop :=
  (j = 0 → v = .pointer (some ⟨ob, 0, none⟩)) ∧ (j = 1 → v = .slice (some ⟨pb, 0, none⟩) n n) ∧ (j = 2 → v = .int .i64 i) ∧ (j = 3 → v = .pointer (some ⟨qb, 0, none⟩)) ∧ (j = 4 → v = .string nm) ∧ (j = 5 → v = .pointer (some ⟨qb, 1, none⟩)) ∧ (j = 6 → v = .agg #[y1, y2]) ∧ (j = 7 → IsI w v (-z)) ∧
  (j = 8 → ∃ z0 za zl zc, v = .agg #[.string nm, .int .i64 z0, .slice za zl zc] ∧ IsI w (.agg #[.int .i64 z0, .slice za zl zc]) (-z)) ∧ (j = 9 → v = .pointer (some ⟨pb, i * 3, none⟩))
def keptO5 : List Nat := (List.range 41).filter fun i => !(decide (25 ≤ i) && decide (i ≤ 34))
def JO5 (w0 : World) (pb i : Nat) (nm : ByteArray) (z : Int) (w : World) (_ : Value) : Prop := ∃ V z0 za zl zc, Below w0.heap.size w0 V ∧ IsI V (.agg #[.int .i64 z0, .slice za zl zc]) (-z) ∧ w = ((V.setCell ⟨pb, i * 3, none⟩ (.string nm)).setCell ⟨pb, i * 3 + 1, none⟩ (.int .i64 z0)).setCell ⟨pb, i * 3 + 2, none⟩ (.slice za zl zc)
set_option maxRecDepth 100000 in
set_option maxHeartbeats 4000000 in
theorem opp_r5 {Q : Exit → Act → World → Prop} {a0 : Act} {w0 : World} {ob pb qb n i : Nat} {nm : ByteArray} {m1 m2 y1 y2 : Value} {z : Int} {cs : Array Value} (hN : a0.tmps.size = 41) (h4 : a0.tmps[4]? = some (.pointer (some ⟨ob, 0, none⟩))) (h5 : a0.tmps[5]? = some (.int .i64 i)) (h6 : a0.tmps[6]? = some (.pointer (some ⟨qb, 0, none⟩)))
    (hO : w0.heap[ob]? = some (.cells #[.slice (some ⟨pb, 0, none⟩) n n, m1, m2] 77)) (hq : w0.heap[qb]? = some (.cells #[.string nm, y1, y2] 102)) (hP : w0.heap[pb]? = some (.cells cs 102)) (hcs : cs.size = n * 3) (hy : IsB w0 w0.heap.size (.agg #[y1, y2]) z) (bz : (z.natAbs : Int) < pw 10000) (hi : i < n) (hn : n ≤ 1000000)
    (hend : ∀ (a : Act) (w : World), a.defers = a0.defers → a.tmps.size = 41 → (∀ k, k ∈ keptO5 → a.tmps[k]? = a0.tmps[k]?) → JO5 w0 pb i nm z w undef → Q .normal a w) :
    (Code.region 5 (Nm.regionOf Tryz.f63 5).toArray true).wp Tryz.prog Q a0 w0 := by
  have hD : Below w0.heap.size w0 w0.drew := (Below.refl _ w0).drew
  have hl : (Nm.regionOf Tryz.f63 5).length = 11 := by kernel_rfl
  have hOlt : ob < w0.heap.size := (Array.getElem?_eq_some_iff.1 hO).1
  have hqlt : qb < w0.heap.size := (Array.getElem?_eq_some_iff.1 hq).1
  have hplt : pb < w0.heap.size := (Array.getElem?_eq_some_iff.1 hP).1
  refine wp_region_any (by kernel_rfl) ?_
  refine one_store2 (l := (Nm.regionOf Tryz.f63 5)) (w0 := w0.drew) 41 w0.heap.size 10 9 keptO5 [0, 1, 2, 3, 4, 5, 6, 7, 8, 9] (spO5 ob pb qb n i nm y1 y2 z) (fun _ _ => True) (JO5 w0 pb i nm z) (by kernel_rfl) hN (Nat.le_refl _) (by rw [hl]; omega) (by kernel_rfl) (by kernel_rfl) (by kernel_rfl) (by kernel_rfl) (by decide) (by decide) (by kernel_rfl) ?_ (fun _ => trivial) ?_ ?_ ?_ ?_
  · intro j w w' v h hb
    obtain ⟨q0, q1, q2, q3, q4, q5, q6, q7, q8, q9⟩ := h
    refine ⟨q0, q1, q2, q3, q4, q5, q6, fun e => (q7 e).below hb, fun e => ?_, q9⟩
    obtain ⟨z0, za, zl, zc, e1, e2⟩ := q8 e
    exact ⟨z0, za, zl, zc, e1, e2.below hb⟩
  · intro j hj a w hb hnn hk hp
    have hb0 : Below w0.heap.size w0 w := hD.trans hb
    have k4 : a.eval (.tmp 4) = .pointer (some ⟨ob, 0, none⟩) := getD_of ((hk 4 (by decide)).trans h4)
    have k5 : a.eval (.tmp 5) = .int .i64 i := getD_of ((hk 5 (by decide)).trans h5)
    have k6 : a.eval (.tmp 6) = .pointer (some ⟨qb, 0, none⟩) := getD_of ((hk 6 (by decide)).trans h6)
    have hOw := (hb0.block ob hOlt).trans hO
    have hqw := (hb0.block qb hqlt).trans hq
    have hi' : j = 0 ∨ j = 1 ∨ j = 2 ∨ j = 3 ∨ j = 4 ∨ j = 5 ∨ j = 6 ∨ j = 7 ∨ j = 8 ∨ j = 9 := by simpa using hj
    rcases hi' with rfl | rfl | rfl | rfl | rfl | rfl | rfl | rfl | rfl | rfl
    · exact st_want (wnone rfl) (op_fieldAddr k4 (fa_row0 ob w) ⟨_, rfl, Below.refl _ _, by simp [spO5], trivial⟩)
    · have e : a.eval (.tmp 25) = .pointer (some ⟨ob, 0, none⟩) := (hp 0 rfl (by decide)).1 rfl
      exact st_want (wnone rfl) (op_load e (ld_P ((blk hOw).2.1 0 _ rfl)) ⟨_, rfl, Below.refl _ _, by simp [spO5], trivial⟩)
    · refine st_want (wnone rfl) (op_move ⟨_, rfl, Below.refl _ _, ?_, trivial⟩)
      rw [k5]
      simp [spO5]
    · exact st_want (wnone rfl) (op_fieldAddr k6 (fa_part0 qb w) ⟨_, rfl, Below.refl _ _, by simp [spO5], trivial⟩)
    · have e : a.eval (.tmp 28) = .pointer (some ⟨qb, 0, none⟩) := (hp 3 rfl (by decide)).2.2.2.1 rfl
      exact st_want (wnone rfl) (op_load e (ld_S ((blk hqw).2.1 0 _ rfl)) ⟨_, rfl, Below.refl _ _, by simp [spO5], trivial⟩)
    · exact st_want (wnone rfl) (op_fieldAddr k6 (fa_part1 qb w) ⟨_, rfl, Below.refl _ _, by simp [spO5], trivial⟩)
    · have e : a.eval (.tmp 30) = .pointer (some ⟨qb, 1, none⟩) := (hp 5 rfl (by decide)).2.2.2.2.2.1 rfl
      refine st_want (wnone rfl) (op_load e (ld_I (x := y1) (y := y2) fun j v hv => ?_) ⟨_, rfl, Below.refl _ _, by simp [spO5], trivial⟩)
      match j, hv with
      | 0, hv => exact ((blk hqw).2.1 1 _ rfl).trans (by simpa using hv)
      | 1, hv => exact ((blk hqw).2.1 2 _ rfl).trans (by simpa using hv)
      | j + 2, hv => simp at hv
    · have e : a.tmps.getD 31 undef = .agg #[y1, y2] := (hp 6 rfl (by decide)).2.2.2.2.2.2.1 rfl
      refine st_want (wnone rfl) (op_call enter_Neg ?_)
      rw [show (#[Operand.tmp 31]).map a.eval = #[.agg #[y1, y2]] by simp only [List.map_toArray, List.map_cons, List.map_nil, Act.eval]; rw [e]]
      refine (Nm.neg_any _ z w (hy.more hb0 hb0.size).1 bz).mono ?_
      rintro ex w' ⟨q, rfl, hb', hI⟩
      exact ⟨q, rfl, q, rfl, hb', ⟨by simp, by simp, by simp, by simp, by simp, by simp, by simp, fun _ => hI, by simp, by simp⟩, trivial⟩
    · have e1 : a.tmps.getD 29 undef = .string nm := (hp 4 rfl (by decide)).2.2.2.2.1 rfl
      have hI : IsI w (a.tmps.getD 32 undef) (-z) := (hp 7 rfl (by decide)).2.2.2.2.2.2.2.1 rfl
      obtain ⟨z0, za, zl, zc, e4⟩ := hI.form
      rw [e4] at hI
      exact st_want (wnone rfl) (op_bldP e1 e4 ⟨_, rfl, Below.refl _ _, ⟨by simp, by simp, by simp, by simp, by simp, by simp, by simp, by simp, fun _ => ⟨z0, za, zl, zc, rfl, hI⟩, by simp⟩, trivial⟩)
    · have e1 : a.eval (.tmp 26) = .slice (some ⟨pb, 0, none⟩) n n := (hp 1 rfl (by decide)).2.1 rfl
      have e2 : a.eval (.tmp 27) = .int .i64 i := (hp 2 rfl (by decide)).2.2.1 rfl
      exact st_want (wnone rfl) (op_idx e1 e2 (ix_P w hi hn) ⟨_, rfl, Below.refl _ _, by simp [spO5], trivial⟩)
  · intro j hj hj1 hj2 a w hn hk hp
    rw [hl] at hj
    have hj1' : ¬ (j = 0 ∨ j = 1 ∨ j = 2 ∨ j = 3 ∨ j = 4 ∨ j = 5 ∨ j = 6 ∨ j = 7 ∨ j = 8 ∨ j = 9) := by simpa using hj1
    omega
  · intro a w hb hnn hk hp
    have hb0 : Below w0.heap.size w0 w := hD.trans hb
    obtain ⟨z0, za, zl, zc, e1, hI⟩ := (hp 8 (by decide)).2.2.2.2.2.2.2.2.1 rfl
    have e4 : a.eval (.tmp 33) = .agg #[.string nm, .int .i64 z0, .slice za zl zc] := e1
    have f4 : a.eval (.tmp 34) = .pointer (some ⟨pb, i * 3, none⟩) := (hp 9 (by decide)).2.2.2.2.2.2.2.2.2 rfl
    have hPw := (hb0.block pb hplt).trans hP
    obtain ⟨d0, hd0⟩ : ∃ d, cs[i * 3]? = some d := ⟨_, Array.getElem?_eq_getElem (by omega)⟩
    obtain ⟨d1, hd1⟩ : ∃ d, cs[i * 3 + 1]? = some d := ⟨_, Array.getElem?_eq_getElem (by omega)⟩
    obtain ⟨d2, hd2⟩ : ∃ d, cs[i * 3 + 2]? = some d := ⟨_, Array.getElem?_eq_getElem (by omega)⟩
    have r0 : w.cell? ⟨pb, i * 3, none⟩ = some d0 := by rw [cell_arr hPw, hd0]
    have r1 : w.cell? ⟨pb, i * 3 + 1, none⟩ = some d1 := by rw [cell_arr hPw, hd1]
    have r2 : w.cell? ⟨pb, i * 3 + 2, none⟩ = some d2 := by rw [cell_arr hPw, hd2]
    have g0 := (blk hPw).2.2 (i * 3)
    have g1 := (blk hPw).2.2 (i * 3 + 1)
    have g2 := (blk hPw).2.2 (i * 3 + 2)
    have HJ : ∀ v, JO5 w0 pb i nm z (((w.setCell ⟨pb, i * 3, none⟩ (.string nm)).setCell ⟨pb, i * 3 + 1, none⟩ (.int .i64 z0)).setCell ⟨pb, i * 3 + 2, none⟩ (.slice za zl zc)) v := fun v => ⟨w, z0, za, zl, zc, hb0, hI, rfl⟩
    show Oper.wp Tryz.prog ⟨none, .store 102 (.tmp 34) (.tmp 33), _, _, _, _⟩ a w _ _
    unfold Oper.wp
    simp only [execOp, e4, f4]
    simp [go_sem, r0, r1, r2, g0, g1, g2]
    exact HJ _
  · intro a w hd hnn hk hpu hJ
    exact hend a w hd hnn hk hJ
def spO7 (ob : Nat) (x y z : Value) (st : ByteArray) (b : Bool) (j : Nat) (v : Value) : Prop :=
  (j = 0 → v = .agg #[x, y, z]) ∧ (j = 1 → v = .pointer (some ⟨ob, 1, none⟩)) ∧ (j = 2 → v = .agg #[y, z]) ∧ (j = 3 → v = .string st) ∧ (j = 4 → v = .bool b)
def keptO7 : List Nat := (List.range 41).filter fun i => !(decide (36 ≤ i) && decide (i ≤ 40)) && !(i == 3)
def JO7 (w0 : World) (rb : Nat) (x y z : Value) (w : World) (_ : Value) : Prop := ∃ V, Below w0.heap.size w0 V ∧ w = ((V.setCell ⟨rb, 0, none⟩ x).setCell ⟨rb, 1, none⟩ y).setCell ⟨rb, 2, none⟩ z
set_option maxRecDepth 100000 in
set_option maxHeartbeats 4000000 in
theorem opp_r7 {Q : Exit → Act → World → Prop} {a0 : Act} {w0 : World} {ob rb ml mc pl pc : Nat} {m0 k : Int} {pa ma : Option Addr} {u1 u2 u3 : Value} (hN : a0.tmps.size = 41) (h4 : a0.tmps[4]? = some (.pointer (some ⟨ob, 0, none⟩))) (h2 : a0.tmps[2]? = some (.pointer (some ⟨rb, 0, none⟩)))
    (hO : w0.heap[ob]? = some (.cells #[.slice pa pl pc, .int .i64 m0, .slice ma ml mc] 77)) (hR : w0.heap[rb]? = some (.cells #[u1, u2, u3] 77)) (hy : IsB w0 w0.heap.size (.agg #[.int .i64 m0, .slice ma ml mc]) k) (bk : (k.natAbs : Int) < pw 4000) (hT : Nm.Tab w0)
    (hend : ∀ (a : Act) (w : World), a.defers = a0.defers → a.tmps.size = 41 → (∀ k, k ∈ keptO7 → a.tmps[k]? = a0.tmps[k]?) → a.tmps.getD 3 undef = .bool (shortI k) → JO7 w0 rb (.slice pa pl pc) (.int .i64 m0) (.slice ma ml mc) w undef → Q .normal a w) :
    (Code.region 7 (Nm.regionOf Tryz.f63 7).toArray true).wp Tryz.prog Q a0 w0 := by
  have hD : Below w0.heap.size w0 w0.drew := (Below.refl _ w0).drew
  have hl : (Nm.regionOf Tryz.f63 7).length = 7 := by kernel_rfl
  have hOlt : ob < w0.heap.size := (Array.getElem?_eq_some_iff.1 hO).1
  have hRlt : rb < w0.heap.size := (Array.getElem?_eq_some_iff.1 hR).1
  refine wp_region_any (by kernel_rfl) ?_
  refine one_store2 (l := (Nm.regionOf Tryz.f63 7)) (w0 := w0.drew) 41 w0.heap.size 5 0 keptO7 [0, 1, 2, 3, 4] (fun j _ v => spO7 ob (.slice pa pl pc) (.int .i64 m0) (.slice ma ml mc) ⟨(Lib.itoa k).toArray⟩ (shortI k) j v) (fun j v => (j = 4 ∨ j = 6) → v = .bool (shortI k)) (JO7 w0 rb (.slice pa pl pc) (.int .i64 m0) (.slice ma ml mc)) (by kernel_rfl) hN (Nat.le_refl _) (by rw [hl]; omega) (by kernel_rfl) (by kernel_rfl) (by kernel_rfl) (by kernel_rfl) (by decide) (by decide) (by kernel_rfl) ?_ (fun _ => by simp) ?_ ?_ ?_ ?_
  · intro j w w' v h hb
    exact h
  · intro j hj a w hb hnn hk hp
    have hb0 : Below w0.heap.size w0 w := hD.trans hb
    have k4 : a.eval (.tmp 4) = .pointer (some ⟨ob, 0, none⟩) := getD_of ((hk 4 (by decide)).trans h4)
    have hOw := (hb0.block ob hOlt).trans hO
    have hi' : j = 0 ∨ j = 1 ∨ j = 2 ∨ j = 3 ∨ j = 4 := by simpa using hj
    rcases hi' with rfl | rfl | rfl | rfl | rfl
    · exact st_want (wnone rfl) (op_load k4 (ld_R (range_block (cs := [.slice pa pl pc, .int .i64 m0, .slice ma ml mc]) hOw)) ⟨_, rfl, Below.refl _ _, by simp [spO7], by simp⟩)
    · exact st_want (wnone rfl) (op_fieldAddr k4 (fa_row ob w) ⟨_, rfl, Below.refl _ _, by simp [spO7], by simp⟩)
    · have e : a.eval (.tmp 37) = .pointer (some ⟨ob, 1, none⟩) := (hp 1 rfl (by decide)).2.1 rfl
      refine st_want (wnone rfl) (op_load e (ld_I (x := .int .i64 m0) (y := .slice ma ml mc) fun j v hv => ?_) ⟨_, rfl, Below.refl _ _, by simp [spO7], by simp⟩)
      match j, hv with
      | 0, hv => exact ((blk hOw).2.1 1 _ rfl).trans (by simpa using hv)
      | 1, hv => exact ((blk hOw).2.1 2 _ rfl).trans (by simpa using hv)
      | j + 2, hv => simp at hv
    · have e : a.tmps.getD 38 undef = .agg #[.int .i64 m0, .slice ma ml mc] := (hp 2 rfl (by decide)).2.2.1 rfl
      refine st_want (wnone rfl) (op_call enter_Str ?_)
      rw [show (#[Operand.tmp 38]).map a.eval = #[.agg #[.int .i64 m0, .slice ma ml mc]] by simp only [List.map_toArray, List.map_cons, List.map_nil, Act.eval]; rw [e]]
      refine (Nm.str_any _ k w (Nm.Tab.below hT hb0) (hy.more hb0 hb0.size).1 bk).mono ?_
      rintro ex w' ⟨rfl, hb'⟩
      exact ⟨_, rfl, _, rfl, hb', by simp [spO7], by simp⟩
    · have e : a.tmps.getD 39 undef = .string ⟨(Lib.itoa k).toArray⟩ := (hp 3 rfl (by decide)).2.2.2.1 rfl
      refine st_want (wnone rfl) (op_call enter_Short ?_)
      rw [show (#[Operand.tmp 39, .const (.int .i64 400)]).map a.eval = #[.string ⟨(Lib.itoa k).toArray⟩, .int .i64 ((400 : Nat) : Int)] by simp only [List.map_toArray, List.map_cons, List.map_nil, Act.eval]; rw [e]; rfl]
      refine (isShort_any ⟨(Lib.itoa k).toArray⟩ 400 w (by omega)).mono ?_
      rintro ex w' ⟨rfl, hb'⟩
      refine ⟨_, rfl, _, rfl, hb', ?_, ?_⟩
      · simp [spO7, shortI]
      · simp [shortI]
  · intro j hj hj1 hj2 a w hn hk hp
    rw [hl] at hj
    have hj1' : ¬ (j = 0 ∨ j = 1 ∨ j = 2 ∨ j = 3 ∨ j = 4) := by simpa using hj1
    obtain rfl : j = 6 := by omega
    have e : a.eval (.tmp 40) = .bool (shortI k) := hp 4 rfl (.inl rfl)
    refine st_want (wnone rfl) (op_assign ⟨_, rfl, rfl, fun _ => ?_⟩)
    exact e
  · intro a w hb hnn hk hp
    have hb0 : Below w0.heap.size w0 w := hD.trans hb
    have e4 : a.eval (.tmp 36) = .agg #[.slice pa pl pc, .int .i64 m0, .slice ma ml mc] := (hp 0 (by decide)).1 rfl
    have f4 : a.eval (.tmp 2) = .pointer (some ⟨rb, 0, none⟩) := getD_of ((hk 2 (by decide)).trans h2)
    have hRw := (hb0.block rb hRlt).trans hR
    have r0 : w.cell? ⟨rb, 0, none⟩ = some u1 := (blk hRw).2.1 0 _ rfl
    have r1 : w.cell? ⟨rb, 1, none⟩ = some u2 := (blk hRw).2.1 1 _ rfl
    have r2 : w.cell? ⟨rb, 2, none⟩ = some u3 := (blk hRw).2.1 2 _ rfl
    have g0 := (blk hRw).2.2 0
    have g1 := (blk hRw).2.2 1
    have g2 := (blk hRw).2.2 2
    have HJ : ∀ v, JO7 w0 rb (.slice pa pl pc) (.int .i64 m0) (.slice ma ml mc) (((w.setCell ⟨rb, 0, none⟩ (.slice pa pl pc)).setCell ⟨rb, 1, none⟩ (.int .i64 m0)).setCell ⟨rb, 2, none⟩ (.slice ma ml mc)) v := fun v => ⟨w, hb0, rfl⟩
    show Oper.wp Tryz.prog ⟨none, .store 77 (.tmp 2) (.tmp 36), _, _, _, _⟩ a w _ _
    unfold Oper.wp
    simp only [execOp, e4, f4]
    simp [go_sem, r0, r1, r2, g0, g1, g2]
    exact HJ _
  · intro a w hd hnn hk hpu hJ
    exact hend a w hd hnn hk (hpu 6 (by rw [hl]; decide) (.inr rfl)) hJ
end Go.Proofs.YtnkigifcilgmbaaGreatDoor

/- Package farkas: a drawn region whose world-changing operations come one behind the other, some of them under guards. -/
namespace Go.Proofs.YtnkigifcilgmbaaGreatDoor
open Go Go.RowKit Go.Maps
open _root_.Go.Proofs.YtnkigifcilgmbaaGreatDoor.Nm (IsI pw)
section
variable {P : Program} {X : Exit → Act → World → Prop}
theorem seqG {l : List Oper} {a0 : Act} {w0 : World} (N : Nat) (kept : List Nat) (Φ : Nat → Value → Prop) (chn : Nat → Bool) (Q : (Nat → Bool) → (Nat → Value) → World → Prop)
    (hg : fitF N 0 kept l = true) (hN : a0.tmps.size = N)
    (hno : ((List.range l.length).all fun i => match l[i]? with | some o => o.dst.isSome | none => false) = true)
    (hlt : ∀ i, chn i = true → i < l.length)
    (h0 : Q (fun _ => false) (slotOf l.toArray a0) w0)
    (hloc : ∀ (L L' : Nat → Bool) (s s' : Nat → Value) (w : World), (∀ i, chn i = true → L i = L' i ∧ s i = s' i) → Q L s w → Q L' s' w)
    (hpure : ∀ i, i < l.length → chn i = false → ∀ (a : Act) (w : World) (L : Nat → Bool), a.tmps.size = N → (∀ k, k ∈ kept → a.tmps[k]? = a0.tmps[k]?) → (∀ j, (preds (l.getD i default)).contains j = true → Φ j (slotOf l.toArray a j)) → Q L (slotOf l.toArray a) w →
      if Region.wanted (l.getD i default) (yielded l.toArray a.tmps) then (l.getD i default).wp P a w (fun a' w' => ∃ v, a' = a.put (l.getD i default).dst v ∧ w' = w ∧ Φ i v) X else Φ i undef)
    (hch : ∀ i, chn i = true → ∀ (a : Act) (w : World) (L : Nat → Bool), a.tmps.size = N → (∀ k, k ∈ kept → a.tmps[k]? = a0.tmps[k]?) → (∀ j, (preds (l.getD i default)).contains j = true → L j = true ∧ Φ j (slotOf l.toArray a j)) → L i = false → (∀ j, j < l.length → L j = true → ∀ k, (preds (l.getD j default)).contains k = true → L k = true) → Q L (slotOf l.toArray a) w →
      if Region.wanted (l.getD i default) (yielded l.toArray a.tmps) then (l.getD i default).wp P a w (fun a' w' => ∃ v, a' = a.put (l.getD i default).dst v ∧ Φ i v ∧ Q (upL L i) (upS (slotOf l.toArray a) i v) w') X else Φ i undef ∧ Q (upL L i) (upS (slotOf l.toArray a) i undef) w)
    (hend : ∀ (a : Act) (w : World), a.defers = a0.defers → a.tmps.size = N → (∀ k, k ∈ kept → a.tmps[k]? = a0.tmps[k]?) → (∀ i, i < l.length → Φ i (slotOf l.toArray a i)) → Q (fun _ => true) (slotOf l.toArray a) w → X .normal a w) :
    wpAny P .any l.toArray X l.toArray.size (Array.replicate l.toArray.size false) a0 w0 := by
  have hgd : ∀ (i : Nat) (o : Oper), l[i]? = some o → l.getD i default = o := fun i o ho => by simp [List.getD_eq_getElem?_getD, ho]
  have hspec := fitF_spec l 0 kept hg
  have hdst : ∀ (i : Nat) (o : Oper), l[i]? = some o → ∃ d, o.dst = some d := fun i o ho => by
    have hi := (List.getElem?_eq_some_iff.1 ho).1
    have h := List.all_eq_true.1 hno i (List.mem_range.2 hi)
    simp only [ho] at h
    exact Option.isSome_iff_exists.1 h
  have hslot : ∀ (i : Nat) (o : Oper) (k : Nat) (ok : Oper) (a : Act) (v : Value), l[i]? = some o → l[k]? = some ok → k ≠ i → slotOf l.toArray (a.put o.dst v) k = slotOf l.toArray a k := fun i o k ok a v ho hk hne => by
    obtain ⟨dk, hdk⟩ := hdst k ok hk
    have hk' : l.toArray[k]? = some ok := by simpa using hk
    obtain ⟨d, hd⟩ := hdst i o ho
    rw [hd]
    refine slot_put_other hk' hdk fun e => ?_
    subst e
    rcases Nat.lt_or_gt_of_ne hne with h | h
    · exact ((hspec i o ho).2 d hd).2.2 k ok h hk hdk
    · exact ((hspec k ok hk).2 d hdk).2.2 i o h ho hd
  have hself : ∀ (i : Nat) (o : Oper) (a : Act) (v : Value), l[i]? = some o → a.tmps.size = N → slotOf l.toArray (a.put o.dst v) i = v := fun i o a v ho hn => by
    obtain ⟨d, hd⟩ := hdst i o ho
    have ho' : l.toArray[i]? = some o := by simpa using ho
    exact slot_put_same (a := a) (v := v) ho' hd (by have := ((hspec i o ho).2 d hd).2.1; omega)
  have hget : ∀ (listed : Array Bool) (i j : Nat), i ≠ j → (listed.setIfInBounds i true).getD j false = listed.getD j false := fun listed i j e => getD_set_ne false e
  refine stepsF N kept Φ (fun listed a w => Q (fun j => listed.getD j false) (slotOf l.toArray a) w) hg hN ?_ ?_ ?_ ?_
  · have hrep : ∀ i, (Array.replicate l.length false).getD i false = false := fun i => by
      simp only [Array.getD_eq_getD_getElem?, Array.getElem?_replicate]
      split <;> rfl
    exact hloc _ _ _ _ w0 (fun i _ => ⟨(hrep i).symm, rfl⟩) h0
  · intro i o ho listed a w hsz hun hdown hdf hn hk hpr hQ
    have hi := (List.getElem?_eq_some_iff.1 ho).1
    have hun' : listed.getD i false = false := by
      have h1 : i < listed.size := by omega
      simpa [h1] using hun
    have hset : (listed.setIfInBounds i true).getD i false = true := by
      have h1 : i < listed.size := by omega
      simp [h1]
    have ed := hgd i o ho
    cases hc : chn i with
    | false =>
      have hkeep : ∀ v, Q (fun j => (listed.setIfInBounds i true).getD j false) (slotOf l.toArray (a.put o.dst v)) w := fun v => hloc _ _ _ _ w (fun j hj => by
        have hne : i ≠ j := fun e => by rw [← e, hc] at hj; cases hj
        exact ⟨(hget listed i j hne).symm, (hslot i o j _ a v ho (List.getElem?_eq_getElem (hlt j hj)) (Ne.symm hne)).symm⟩) hQ
      have h := hpure i hi hc a w (fun j => listed.getD j false) hn hk (fun j hj => (hpr j (by rw [ed] at hj; exact hj)).2) hQ
      rw [ed] at h
      split at h
      · rename_i hw
        rw [if_pos hw]
        refine Oper.wp_mono ?_ h
        rintro a' w' ⟨v, rfl, rfl, hv⟩
        exact ⟨v, rfl, fun _ => hv, hkeep v⟩
      · rename_i hw
        rw [if_neg hw]
        exact ⟨fun _ => h, hkeep undef⟩
    | true =>
      have hkeep : ∀ v w', Q (upL (fun j => listed.getD j false) i) (upS (slotOf l.toArray a) i v) w' → Q (fun j => (listed.setIfInBounds i true).getD j false) (slotOf l.toArray (a.put o.dst v)) w' := fun v w' hQ' => hloc _ _ _ _ w' (fun j hj => by
        by_cases ej : j = i
        · subst ej
          rw [upL_same, upS_same]
          exact ⟨hset.symm, (hself j o a v ho hn).symm⟩
        · rw [upL_other ej, upS_other ej]
          exact ⟨(hget listed i j (Ne.symm ej)).symm, (hslot i o j _ a v ho (List.getElem?_eq_getElem (hlt j hj)) ej).symm⟩) hQ'
      have h := hch i hc a w (fun j => listed.getD j false) hn hk (fun j hj => hpr j (by rw [ed] at hj; exact hj)) hun' (fun j hj h2 k h3 => hdown j _ (List.getElem?_eq_getElem hj) h2 k (by rw [hgd j _ (List.getElem?_eq_getElem hj)] at h3; exact h3)) hQ
      rw [ed] at h
      split at h
      · rename_i hw
        rw [if_pos hw]
        refine Oper.wp_mono ?_ h
        rintro a' w' ⟨v, rfl, hv, hQ'⟩
        exact ⟨v, rfl, fun _ => hv, hkeep v w' hQ'⟩
      · rename_i hw
        rw [if_neg hw]
        exact ⟨fun _ => h.1, hkeep undef w h.2⟩
  · intro i o ho hd v
    obtain ⟨d, hd'⟩ := hdst i o ho
    rw [hd] at hd'
    cases hd'
  · intro listed a w hsz hall hdf hn hk hΦ hJ
    exact hend a w hdf hn hk hΦ (hloc _ _ _ _ w (fun i hi => ⟨hall i (hlt i hi), rfl⟩) hJ)
end
end Go.Proofs.YtnkigifcilgmbaaGreatDoor

/- Package farkas: splits, its region of two sides. -/
namespace Go.Proofs.YtnkigifcilgmbaaGreatDoor
open Go Go.RowKit Go.Maps
open _root_.Go.Proofs.YtnkigifcilgmbaaGreatDoor.Nm (IsI pw)
/-- The checker's block. -/
def chk (left : Int) : Obj := .cells #[.int .i64 left] 81
def RefPost (B k cb g c : Nat) (left : Int) (rs : List (List (ByteArray × Int) × Int)) (f : Fk) (w : World) (e : Ending) (w' : World) : Prop := ∃ b : Bool, e = .returned (.bool b) ∧ (b = true ↔ refP k rs f) ∧ Fr cb g w w' ∧ RowsM w' B g c rs ∧ ∃ left', w'.heap[cb]? = some (chk left') ∧ left - (f.cnt : Int) ≤ left' ∧ left' ≤ left
/-- What is wanted of refutes with so many levels left. -/
def RefC (k : Nat) : Prop := ∀ (wB w : World) (cb g c fb fo d : Nat) (left : Int) (rs : List (List (ByteArray × Int) × Int)) (f : Fk), Nm.Tab wB → Below wB.heap.size wB w → w.heap[cb]? = some (chk left) → wB.heap.size ≤ cb → (f.cnt : Int) ≤ left → left ≤ 33554432 → RowsM w wB.heap.size g c rs → rs.length + k ≤ 1000 → (∀ r ∈ rs, RowOk r) → FkAt wB wB.heap.size d fb fo f → k ≤ 200 →
  Calls Tryz.prog 33 #[.pointer (some ⟨cb, 0, none⟩), .slice (some ⟨g, 0, none⟩) rs.length c, .pointer (some ⟨fb, fo, none⟩), .int .i64 (201 - (k : Int))] w (RefPost wB.heap.size k cb g c left rs f w)
theorem chk_noS (left : Int) : NoS #[.int .i64 left] := fun o u hu hs => by
  match o, hu with
  | 0, hu => simp at hu; subst hu; rcases hs with ⟨s, e⟩ | ⟨s, e⟩ <;> cases e
  | o + 1, hu => simp at hu
theorem KeepS.trans {a b c : World} (h : KeepS a b) (k : KeepS b c) : KeepS a c := fun q hq ⟨o, u, hu, hs⟩ => by
  obtain ⟨h1, h2, _⟩ := h q hq ⟨o, u, hu, hs⟩
  obtain ⟨k1, k2, _⟩ := k q h2 ⟨o, u, (World.cell?_of_block (w := a) (a := ⟨q, o, none⟩) h1).trans hu, hs⟩
  exact ⟨k1.trans h1, k2, k2⟩
theorem RowsM.ne {w : World} {B g c cb : Nat} {left : Int} {rs : List (List (ByteArray × Int) × Int)} (h : RowsM w B g c rs) (hc : w.heap[cb]? = some (chk left)) : g ≠ cb := by
  rintro rfl
  obtain ⟨cs, _, h2, _⟩ := h
  rw [h2] at hc
  simp [chk] at hc
theorem RowsM.lt {w : World} {B g c : Nat} {rs : List (List (ByteArray × Int) × Int)} (h : RowsM w B g c rs) : g < w.heap.size := (Array.getElem?_eq_some_iff.1 h.choose_spec.2.1).1
/-- What stands all the while. -/
structure StA (cb g : Nat) (w0 w : World) : Prop where
  fr : Fr cb g w0 w
  keep : KeepS w0 w
/-- Between the operations: rows, and what is left to the checker. -/
def StR (B cb g c : Nat) (left : Int) (rs : List (List (ByteArray × Int) × Int)) (m : Int) (w : World) : Prop := RowsM w B g c rs ∧ ∃ left', w.heap[cb]? = some (chk left') ∧ left - m ≤ left' ∧ left' ≤ left
def StB (w0 : World) (B cb g c g1 c1 : Nat) (left : Int) (rs : List (List (ByteArray × Int) × Int)) (r : List (ByteArray × Int) × Int) (m : Int) (w : World) : Prop := StR B cb g c left rs m w ∧ RowsM w B g1 c1 (rs ++ [r]) ∧ ((g1 = g ∧ c1 = c) ∨ w0.heap.size ≤ g1)
section
variable {w0 w w' : World} {B cb g c g1 c1 h m : Nat} {left mm : Int} {rs : List (List (ByteArray × Int) × Int)} {r : List (ByteArray × Int) × Int}
theorem StA.grow (hA : StA cb g w0 w) (hb : Below w.heap.size w w') : StA cb g w0 w' := ⟨hA.fr.trans (Fr.of hb (Nat.le_refl _)), hA.keep.trans (.of hb)⟩
theorem StR.grow (hS : StR B cb g c left rs mm w) (hb : Below w.heap.size w w') : StR B cb g c left rs mm w' := by
  obtain ⟨h1, l, h2, h3⟩ := hS
  exact ⟨h1.more hb, l, (hb.block cb (Array.getElem?_eq_some_iff.1 h2).1).trans h2, h3⟩
theorem StR.weak {mn : Int} (hS : StR B cb g c left rs mm w) (h : mm ≤ mn) : StR B cb g c left rs mn w := by
  obtain ⟨h1, l, h2, h3, h4⟩ := hS
  exact ⟨h1, l, h2, by omega, h4⟩
/-- A row is appended. -/
theorem StR.app {a a2 : Option Addr} {n0 c0 n2 c2 : Nat} {i : Int} (hA : StA cb g w0 w) (hS : StR B cb g c left rs mm w) (hh : w.rangeAt h 0 [.slice a n0 c0, .int .i64 i, .slice a2 n2 c2]) (hI : IsR w0 w0.heap.size (.agg #[.slice a n0 c0, .int .i64 i, .slice a2 n2 c2]) r.1 r.2) (hn : rs.length ≤ 1000) (hB : B ≤ w0.heap.size) (ty : TypeId) :
    ∃ g' c' w', (Builtin.append_ #[58, 58] ty #[.slice (some ⟨g, 0, none⟩) rs.length c, .slice (some ⟨h, 0, none⟩) 1 m]).run Tryz.prog w = .ok (.slice (some ⟨g', 0, none⟩) (rs.length + 1) c') w' ∧ StA cb g w0 w' ∧ StB w0 B cb g c g' c' left rs r mm w' := by
  obtain ⟨hR, l, hc, h3⟩ := hS
  have hs := hA.fr.size
  obtain ⟨g', c', w', hr, hp⟩ := app_row (m := m) hR hh (hI.keep fun b hb hx => hA.keep b hb hx) hn (by omega) ty
  have hg := hR.ne hc
  refine ⟨g', c', w', hr, ⟨hA.fr.trans (hp.fr cb), hA.keep.trans hp.keep⟩, ⟨hp.old, l, ((hp.fr g).block cb (Array.getElem?_eq_some_iff.1 hc).1 (Ne.symm hg) (Ne.symm hg)).trans hc, h3⟩, hp.rows, ?_⟩
  rcases hp.at_ with h | h
  · exact .inl h
  · exact .inr (by omega)
/-- A side was looked at. -/
theorem StB.called {lc : Int} {mc : Nat} (hA : StA cb g w0 w) (hS : StB w0 B cb g c g1 c1 left rs r mm w) (hc : w.heap[cb]? = some (chk lc)) (hl : left - mm ≤ lc ∧ lc ≤ left) (hf : Fr cb g1 w w') (hR : RowsM w' B g1 c1 (rs ++ [r])) (hx : ∃ l', w'.heap[cb]? = some (chk l') ∧ lc - (mc : Int) ≤ l' ∧ l' ≤ lc) : StA cb g w0 w' ∧ StR B cb g c left rs (mm + mc) w' := by
  obtain ⟨⟨hO, _⟩, h1, h2⟩ := hS
  obtain ⟨l', k1, k2, k3⟩ := hx
  obtain ⟨cs1, _, q2, _, _, q5, _⟩ := id h1
  have hk : KeepS w w' := .fr hf hc (chk_noS lc) q2 q5
  have hg := hO.ne hc
  have hR' : RowsM w' B g c rs := by
    rcases h2 with ⟨rfl, rfl⟩ | h2
    · exact hR.front
    · by_cases e : g1 = g
      · subst e
        obtain ⟨cs, p1, p2, p3, p4, p5, p6⟩ := hO
        rw [q2] at p2
        injection p2 with p2
        injection p2 with p2 _ _
        subst p2
        obtain ⟨ds, u1, u2, u3, u4, u5, u6⟩ := hR.front
        refine ⟨ds, u1, u2, p3, ?_, u5, u6⟩
        obtain ⟨cs2, t1, t2, t3, t4, t5, t6⟩ := id h1
        rw [q2] at t2
        injection t2 with t2
        injection t2 with t2 _ _
        subst t2
        omega
      · exact hO.keep (hf.block g hO.lt hg (Ne.symm e)) hk
  refine ⟨⟨?_, hA.keep.trans hk⟩, hR', l', k1, by omega, by omega⟩
  have hs := hA.fr.size
  refine ⟨hf.os.trans hA.fr.os, hf.tape.trans hA.fr.tape, hf.output.trans hA.fr.output, Nat.le_trans hs hf.size, fun j hj h3 h4 => ?_⟩
  have hne : j ≠ g1 := by
    rcases h2 with ⟨rfl, rfl⟩ | h2
    · exact h4
    · omega
  exact (hf.block j (by omega) h3 hne).trans (hA.fr.block j hj h3 h4)
end
theorem getD_bool {a : Act} {k : Nat} {b : Bool} (h : a.tmps.getD k undef = .bool b) : a.tmps[k]? = some (.bool b) := by
  rw [Array.getD_eq_getD_getElem?] at h
  cases hk : a.tmps[k]? with
  | none => rw [hk] at h; cases h
  | some v => rw [hk] at h; simp at h; rw [h]
/-- An operation under a guard: by the slot of what it hangs on. -/
theorem guarded {P : Program} {l : List Oper} {a : Act} {w : World} {Q : Exit → Act → World → Prop} {o : Oper} {X : Act → World → Prop} {Y : Prop} {i d : Nat} {b : Bool} (hg : o.guard = some (i, true)) (hd : (l.toArray[i]?).bind (·.dst) = some d) (hv : a.tmps.getD d undef = .bool b) (h1 : b = true → o.wp P a w X Q) (h2 : b = false → Y) : if Region.wanted o (yielded l.toArray a.tmps) then o.wp P a w X Q else Y := by
  have hy : yielded l.toArray a.tmps i = some b := by
    unfold yielded
    rw [hd]
    show (match a.tmps[d]? with | some (.bool b) => some b | _ => none) = some b
    rw [getD_bool hv]
  have hw : Region.wanted o (yielded l.toArray a.tmps) = (b == true) := by
    simp [Region.wanted, hg, hy]
  rw [hw]
  cases b with
  | true => exact h1 rfl
  | false => exact h2 rfl
end Go.Proofs.YtnkigifcilgmbaaGreatDoor

namespace Go.Proofs.YtnkigifcilgmbaaGreatDoor
open Go Go.RowKit Go.Maps
open _root_.Go.Proofs.YtnkigifcilgmbaaGreatDoor.Nm (IsI pw)
theorem enter_ref : Enters Tryz.prog 33 := ⟨fun xs w => by go_simp⟩
section
variable {X : Exit → Act → World → Prop} {K : Act → World → Prop} {a : Act} {w : World} {dst : Option Tmp} {ty : TypeId} {pos : String} {af : Array Edge} {gd : Option (Nat × Bool)} {k : Nat}
set_option maxRecDepth 100000 in
set_option maxHeartbeats 4000000 in
theorem op_bsR {b b2 : Option Addr} {n c n2 c2 : Nat} {i : Int} (hv : a.tmps.getD k undef = .agg #[.slice b n c, .int .i64 i, .slice b2 n2 c2]) (h : K (a.put dst (.slice (some ⟨w.heap.size, 0, none⟩) 1 1)) (w.alloc (.cells #[.slice b n c, .int .i64 i, .slice b2 n2 c2] 77))) : Oper.wp Tryz.prog ⟨dst, .buildSlice 58 1 #[(0, .tmp k)], ty, pos, af, gd⟩ a w K X := by
  have he : a.eval (.tmp k) = .agg #[.slice b n c, .int .i64 i, .slice b2 n2 c2] := hv
  unfold Oper.wp
  simp only [execOp, List.map_toArray, List.map_cons, List.map_nil, he]
  go_simp
  exact h
set_option maxRecDepth 100000 in
set_option maxHeartbeats 4000000 in
theorem op_addI {x : Operand} {m : Int} (hx : a.eval x = .int .i64 m) (hm : 0 ≤ m ∧ m ≤ 1000000) (h : K (a.put dst (.int .i64 (m + 1))) w) : Oper.wp Tryz.prog ⟨dst, .binOp .add 3 x (.const (.int .i64 1)) 3, ty, pos, af, gd⟩ a w K X := by
  have g3 : IntKind.i64.wrap (m + 1) = m + 1 := by rw [IntKind.wrap_i64]; omega
  unfold Oper.wp
  simp only [execOp, hx]
  go_simp
  exact h
end
set_option maxRecDepth 100000 in
theorem fa_F3 (b o : Nat) (w : World) : (Instr.fieldAt 31 (.pointer (some ⟨b, o, none⟩)) 3).run Tryz.prog w = .ok (.pointer (some ⟨b, o + 4, none⟩)) w := by go_simp
set_option maxRecDepth 100000 in
theorem ld_F {r o : Nat} {v : Value} {w : World} (h : w.cell? ⟨r, o, none⟩ = some v) : (Instr.loadAt 29 (.pointer (some ⟨r, o, none⟩))).run Tryz.prog w = .ok v w := by
  go_simp
set_option maxRecDepth 100000 in
theorem ix_F0 (b o c : Nat) (w : World) : (Instr.indexAt 29 (.slice (some ⟨b, o, none⟩) 2 c) (.int .i64 0)).run Tryz.prog w = .ok (.pointer (some ⟨b, o, none⟩)) w := by
  go_simp
set_option maxRecDepth 100000 in
theorem ix_F1 (b o c : Nat) (w : World) : (Instr.indexAt 29 (.slice (some ⟨b, o, none⟩) 2 c) (.int .i64 1)).run Tryz.prog w = .ok (.pointer (some ⟨b, o + 5, none⟩)) w := by
  go_simp
def expS (cb fb fo Lb Lo cL : Nat) (rv e1 e2 : Value) (dp : Int) (p1 p2 : Bool) : List Value :=
  [.bool true, .bool true, .pointer (some ⟨cb, 0, none⟩), rv, e1, undef, undef, .pointer (some ⟨fb, fo, none⟩), .pointer (some ⟨fb, fo, none⟩), .pointer (some ⟨fb, fo + 4, none⟩), .slice (some ⟨Lb, Lo, none⟩) 2 cL, .pointer (some ⟨Lb, Lo, none⟩), .int .i64 dp, .int .i64 (dp + 1), .bool p1, .bool p1, .bool p1,
   .pointer (some ⟨cb, 0, none⟩), rv, e2, undef, undef, .pointer (some ⟨fb, fo, none⟩), .pointer (some ⟨fb, fo, none⟩), .pointer (some ⟨fb, fo + 4, none⟩), .slice (some ⟨Lb, Lo, none⟩) 2 cL, .pointer (some ⟨Lb, Lo + 5, none⟩), .int .i64 dp, .int .i64 (dp + 1), .bool p2, .bool (p1 && p2), .bool (p1 && p2)]
def phiS (E : List Value) (p1 : Bool) (j : Nat) (v : Value) : Prop := j ≠ 5 → j ≠ 6 → j ≠ 20 → j ≠ 21 → (17 ≤ j ∧ j ≤ 29 → p1 = true) → v = E.getD j undef
def keptS : List Nat := (List.range 27).filter fun i => !(i == 8)
def chnS (i : Nat) : Bool := i == 5 || i == 6 || i == 14 || i == 20 || i == 21 || i == 29
def stg (l5 l6 l14 l20 l21 l29 : Bool) : Nat := cond l29 6 (cond l21 5 (cond l20 4 (cond l14 3 (cond l6 2 (cond l5 1 0)))))
def bodyS (w0 : World) (B cb g c : Nat) (left : Int) (rs : List (List (ByteArray × Int) × Int)) (r1 r2 : List (ByteArray × Int) × Int) (cA cB : Nat) (x1 x2 : List Value) (p1 : Bool) (s5 s6 s20 s21 : Value) (w : World) : Nat → Prop
  | 0 => StR B cb g c left rs 0 w
  | 1 => StR B cb g c left rs 0 w ∧ ∃ h : Nat, s5 = .slice (some ⟨h, 0, none⟩) 1 1 ∧ w.rangeAt h 0 x1
  | 2 => ∃ g1 c1, s6 = .slice (some ⟨g1, 0, none⟩) (rs.length + 1) c1 ∧ StB w0 B cb g c g1 c1 left rs r1 0 w
  | 3 => StR B cb g c left rs cA w
  | 4 => StR B cb g c left rs cA w ∧ (p1 = true → ∃ h : Nat, s20 = .slice (some ⟨h, 0, none⟩) 1 1 ∧ w.rangeAt h 0 x2)
  | 5 => (p1 = false → StR B cb g c left rs cA w) ∧ (p1 = true → ∃ g1 c1, s21 = .slice (some ⟨g1, 0, none⟩) (rs.length + 1) c1 ∧ StB w0 B cb g c g1 c1 left rs r2 cA w)
  | _ => StR B cb g c left rs (cA + cB) w
def QS (w0 : World) (B cb g c : Nat) (left : Int) (rs : List (List (ByteArray × Int) × Int)) (r1 r2 : List (ByteArray × Int) × Int) (cA cB : Nat) (x1 x2 : List Value) (p1 : Bool) (L : Nat → Bool) (s : Nat → Value) (w : World) : Prop :=
  StA cb g w0 w ∧ bodyS w0 B cb g c left rs r1 r2 cA cB x1 x2 p1 (s 5) (s 6) (s 20) (s 21) w (stg (L 5) (L 6) (L 14) (L 20) (L 21) (L 29))
set_option maxRecDepth 100000 in
set_option maxHeartbeats 4000000 in
theorem spl_r5 {X : Exit → Act → World → Prop} {a0 : Act} {wB w0 : World} {cb g c fb fo Lb Lo cL b9 b11 d k : Nat} {left : Int} {rs : List (List (ByteArray × Int) × Int)} {r1 r2 : List (ByteArray × Int) × Int} {fA fB : Fk} {q1 q2 q3 q4 : Option Addr} {t1 u1 t2 u2 t3 u3 t4 u4 : Nat} {i1 i2 : Int} {p1 p2 : Bool}
    (hN : a0.tmps.size = 58) (h0 : a0.tmps[0]? = some (.pointer (some ⟨cb, 0, none⟩))) (h1 : a0.tmps[1]? = some (.slice (some ⟨g, 0, none⟩) rs.length c)) (h2 : a0.tmps[2]? = some (.pointer (some ⟨fb, fo, none⟩))) (h3 : a0.tmps[3]? = some (.int .i64 (200 - (k : Int)))) (h9 : a0.tmps[9]? = some (.pointer (some ⟨b9, 0, none⟩))) (h10 : a0.tmps[10]? = some (.bool true)) (h11 : a0.tmps[11]? = some (.pointer (some ⟨b11, 0, none⟩)))
    (hT : Nm.Tab wB) (hbB : Below wB.heap.size wB w0) (hc : w0.heap[cb]? = some (chk left)) (hcB : wB.heap.size ≤ cb) (hR : RowsM w0 wB.heap.size g c rs) (hF : w0.cell? ⟨fb, fo + 4, none⟩ = some (.slice (some ⟨Lb, Lo, none⟩) 2 cL)) (hfB : fb < wB.heap.size)
    (hA : FkAt wB wB.heap.size d Lb Lo fA) (hB : FkAt wB wB.heap.size d Lb (Lo + 5) fB) (h9b : w0.heap[b9]? = some (.cells #[.slice q1 t1 u1, .int .i64 i1, .slice q2 t2 u2] 77)) (h11b : w0.heap[b11]? = some (.cells #[.slice q3 t3 u3, .int .i64 i2, .slice q4 t4 u4] 77)) (hb9g : b9 ≠ g) (hb11g : b11 ≠ g)
    (hI1 : IsR w0 w0.heap.size (.agg #[.slice q1 t1 u1, .int .i64 i1, .slice q2 t2 u2]) r1.1 r1.2) (hI2 : IsR w0 w0.heap.size (.agg #[.slice q3 t3 u3, .int .i64 i2, .slice q4 t4 u4]) r2.1 r2.2) (hok1 : RowOk r1) (hok2 : RowOk r2) (hoks : ∀ r ∈ rs, RowOk r)
    (hcnt : ((fA.cnt + fB.cnt : Nat) : Int) ≤ left) (hleft : left ≤ 33554432) (hlen : rs.length + 1 + k ≤ 1000) (hk2 : k ≤ 199) (hC : RefC k) (hp1 : p1 = true ↔ refP k (rs ++ [r1]) fA) (hp2 : p2 = true ↔ refP k (rs ++ [r2]) fB)
    (hend : ∀ (a : Act) (w : World), a.defers = a0.defers → a.tmps.size = 58 → (∀ k, k ∈ keptS → a.tmps[k]? = a0.tmps[k]?) → a.tmps.getD 8 undef = .bool (p1 && p2) → StA cb g w0 w → StR wB.heap.size cb g c left rs ((fA.cnt : Int) + (fB.cnt : Int)) w → X .normal a w) :
    (Code.region 5 (Nm.regionOf Tryz.f49 5).toArray true).wp Tryz.prog X a0 w0 := by
  have hl : (Nm.regionOf Tryz.f49 5).length = 32 := by kernel_rfl
  have hcl : cb < w0.heap.size := (Array.getElem?_eq_some_iff.1 hc).1
  have hb9 : b9 < w0.heap.size := (Array.getElem?_eq_some_iff.1 h9b).1
  have hb11 : b11 < w0.heap.size := (Array.getElem?_eq_some_iff.1 h11b).1
  have hb9c : b9 ≠ cb := by
    rintro rfl
    rw [h9b] at hc
    simp [chk] at hc
  have hb11c : b11 ≠ cb := by
    rintro rfl
    rw [h11b] at hc
    simp [chk] at hc
  have hBs := hbB.size
  have hgB : wB.heap.size ≤ g := hR.choose_spec.1
  have hfb : fb < w0.heap.size := by omega
  have hfbc : fb ≠ cb := by omega
  have hfbg : fb ≠ g := by omega
  have hdp : (0 : Int) ≤ 200 - (k : Int) ∧ 200 - (k : Int) ≤ 1000000 := by omega
  have hln1 : ∀ r : List (ByteArray × Int) × Int, (rs ++ [r]).length = rs.length + 1 := fun r => by simp
  refine wp_region_any (by kernel_rfl) ?_
  refine seqG (l := (Nm.regionOf Tryz.f49 5)) (w0 := w0.drew) 58 keptS (phiS (expS cb fb fo Lb Lo cL (.slice (some ⟨g, 0, none⟩) rs.length c) (.agg #[.slice q1 t1 u1, .int .i64 i1, .slice q2 t2 u2]) (.agg #[.slice q3 t3 u3, .int .i64 i2, .slice q4 t4 u4]) (200 - (k : Int)) p1 p2) p1) chnS
    (QS w0 wB.heap.size cb g c left rs r1 r2 fA.cnt fB.cnt [.slice q1 t1 u1, .int .i64 i1, .slice q2 t2 u2] [.slice q3 t3 u3, .int .i64 i2, .slice q4 t4 u4] p1) (by kernel_rfl) hN (by kernel_rfl) ?_ ?_ ?_ ?_ ?_ ?_
  · intro j hj
    rw [hl]
    simp [chnS] at hj
    omega
  · have hbd : Below w0.heap.size w0 w0.drew := (Below.refl w0.heap.size w0).drew
    exact ⟨StA.grow ⟨Fr.refl _ _ _, .of (Below.refl _ _)⟩ hbd, StR.grow ⟨hR, left, hc, by omega, Int.le_refl _⟩ hbd⟩
  · intro Lf Lf' s s' w hh hq
    unfold QS at hq ⊢
    rw [← (hh 5 rfl).1, ← (hh 5 rfl).2, ← (hh 6 rfl).1, ← (hh 6 rfl).2, ← (hh 14 rfl).1, ← (hh 20 rfl).1, ← (hh 20 rfl).2, ← (hh 21 rfl).1, ← (hh 21 rfl).2, ← (hh 29 rfl).1]
    exact hq
  · intro j hj hcn a w Lf hn' hk hp hq
    rw [hl] at hj
    have hj' : j = 0 ∨ j = 1 ∨ j = 2 ∨ j = 3 ∨ j = 4 ∨ j = 7 ∨ j = 8 ∨ j = 9 ∨ j = 10 ∨ j = 11 ∨ j = 12 ∨ j = 13 ∨ j = 15 ∨ j = 16 ∨ j = 17 ∨ j = 18 ∨ j = 19 ∨ j = 22 ∨ j = 23 ∨ j = 24 ∨ j = 25 ∨ j = 26 ∨ j = 27 ∨ j = 28 ∨ j = 30 ∨ j = 31 := by
      simp [chnS] at hcn
      omega
    have k0 : a.eval (.tmp 0) = .pointer (some ⟨cb, 0, none⟩) := getD_of ((hk 0 (by decide)).trans h0)
    have k1 : a.eval (.tmp 1) = .slice (some ⟨g, 0, none⟩) rs.length c := getD_of ((hk 1 (by decide)).trans h1)
    have k2 : a.eval (.tmp 2) = .pointer (some ⟨fb, fo, none⟩) := getD_of ((hk 2 (by decide)).trans h2)
    have k3 : a.eval (.tmp 3) = .int .i64 (200 - (k : Int)) := getD_of ((hk 3 (by decide)).trans h3)
    have k9 : a.eval (.tmp 9) = .pointer (some ⟨b9, 0, none⟩) := getD_of ((hk 9 (by decide)).trans h9)
    have k10 : a.eval (.tmp 10) = .bool true := getD_of ((hk 10 (by decide)).trans h10)
    have k11 : a.eval (.tmp 11) = .pointer (some ⟨b11, 0, none⟩) := getD_of ((hk 11 (by decide)).trans h11)
    rcases hj' with rfl | rfl | rfl | rfl | rfl | rfl | rfl | rfl | rfl | rfl | rfl | rfl | rfl | rfl | rfl | rfl | rfl | rfl | rfl | rfl | rfl | rfl | rfl | rfl | rfl | rfl
    · exact st_want (wnone rfl) (op_move ⟨_, rfl, rfl, fun _ _ _ _ _ => k10⟩)
    · exact st_want (wnone rfl) (op_move ⟨_, rfl, rfl, fun _ _ _ _ _ => hp 0 rfl (by decide) (by decide) (by decide) (by decide) (fun h => absurd h (by decide))⟩)
    · refine guarded (i := 1) (d := 28) rfl rfl (hp 1 rfl (by decide) (by decide) (by decide) (by decide) (fun h => absurd h (by decide))) (fun _ => ?_) (fun h => by cases h)
      exact op_move ⟨_, rfl, rfl, fun _ _ _ _ _ => k0⟩
    · refine guarded (i := 1) (d := 28) rfl rfl (hp 1 rfl (by decide) (by decide) (by decide) (by decide) (fun h => absurd h (by decide))) (fun _ => ?_) (fun h => by cases h)
      exact op_move ⟨_, rfl, rfl, fun _ _ _ _ _ => k1⟩
    · refine guarded (i := 1) (d := 28) rfl rfl (hp 1 rfl (by decide) (by decide) (by decide) (by decide) (fun h => absurd h (by decide))) (fun _ => ?_) (fun h => by cases h)
      exact op_load k9 (ld_R (range_block (cs := [.slice q1 t1 u1, .int .i64 i1, .slice q2 t2 u2]) ((hq.1.fr.block b9 hb9 hb9c hb9g).trans h9b))) ⟨_, rfl, rfl, fun _ _ _ _ _ => rfl⟩
    · refine guarded (i := 1) (d := 28) rfl rfl (hp 1 rfl (by decide) (by decide) (by decide) (by decide) (fun h => absurd h (by decide))) (fun _ => ?_) (fun h => by cases h)
      exact op_move ⟨_, rfl, rfl, fun _ _ _ _ _ => k2⟩
    · refine guarded (i := 1) (d := 28) rfl rfl (hp 1 rfl (by decide) (by decide) (by decide) (by decide) (fun h => absurd h (by decide))) (fun _ => ?_) (fun h => by cases h)
      exact op_nilCheck (hp 7 rfl (by decide) (by decide) (by decide) (by decide) (fun h => absurd h (by decide))) ⟨_, rfl, rfl, fun _ _ _ _ _ => rfl⟩
    · refine guarded (i := 1) (d := 28) rfl rfl (hp 1 rfl (by decide) (by decide) (by decide) (by decide) (fun h => absurd h (by decide))) (fun _ => ?_) (fun h => by cases h)
      exact op_fieldAddr (hp 8 rfl (by decide) (by decide) (by decide) (by decide) (fun h => absurd h (by decide))) (fa_F3 fb fo w) ⟨_, rfl, rfl, fun _ _ _ _ _ => rfl⟩
    · refine guarded (i := 1) (d := 28) rfl rfl (hp 1 rfl (by decide) (by decide) (by decide) (by decide) (fun h => absurd h (by decide))) (fun _ => ?_) (fun h => by cases h)
      exact op_load (hp 9 rfl (by decide) (by decide) (by decide) (by decide) (fun h => absurd h (by decide))) (ld_F ((hq.1.fr.cell hfb hfbc hfbg).trans hF)) ⟨_, rfl, rfl, fun _ _ _ _ _ => rfl⟩
    · refine guarded (i := 1) (d := 28) rfl rfl (hp 1 rfl (by decide) (by decide) (by decide) (by decide) (fun h => absurd h (by decide))) (fun _ => ?_) (fun h => by cases h)
      exact op_idx (hp 10 rfl (by decide) (by decide) (by decide) (by decide) (fun h => absurd h (by decide))) rfl (ix_F0 Lb Lo cL w) ⟨_, rfl, rfl, fun _ _ _ _ _ => rfl⟩
    · refine guarded (i := 1) (d := 28) rfl rfl (hp 1 rfl (by decide) (by decide) (by decide) (by decide) (fun h => absurd h (by decide))) (fun _ => ?_) (fun h => by cases h)
      exact op_move ⟨_, rfl, rfl, fun _ _ _ _ _ => k3⟩
    · refine guarded (i := 1) (d := 28) rfl rfl (hp 1 rfl (by decide) (by decide) (by decide) (by decide) (fun h => absurd h (by decide))) (fun _ => ?_) (fun h => by cases h)
      exact op_addI (hp 12 rfl (by decide) (by decide) (by decide) (by decide) (fun h => absurd h (by decide))) hdp ⟨_, rfl, rfl, fun _ _ _ _ _ => rfl⟩
    · exact st_want (wnone rfl) (op_pick (hp 1 rfl (by decide) (by decide) (by decide) (by decide) (fun h => absurd h (by decide))) ⟨_, rfl, rfl, fun _ _ _ _ _ => hp 14 rfl (by decide) (by decide) (by decide) (by decide) (fun h => absurd h (by decide))⟩)
    · exact st_want (wnone rfl) (op_move ⟨_, rfl, rfl, fun _ _ _ _ _ => hp 15 rfl (by decide) (by decide) (by decide) (by decide) (fun h => absurd h (by decide))⟩)
    · refine guarded (i := 16) (d := 43) rfl rfl (hp 16 rfl (by decide) (by decide) (by decide) (by decide) (fun h => absurd h (by decide))) (fun hpt => ?_) (fun hpf _ _ _ _ h17 => by have := h17 (by decide); rw [hpf] at this; cases this)
      exact op_move ⟨_, rfl, rfl, fun _ _ _ _ _ => k0⟩
    · refine guarded (i := 16) (d := 43) rfl rfl (hp 16 rfl (by decide) (by decide) (by decide) (by decide) (fun h => absurd h (by decide))) (fun hpt => ?_) (fun hpf _ _ _ _ h17 => by have := h17 (by decide); rw [hpf] at this; cases this)
      exact op_move ⟨_, rfl, rfl, fun _ _ _ _ _ => k1⟩
    · refine guarded (i := 16) (d := 43) rfl rfl (hp 16 rfl (by decide) (by decide) (by decide) (by decide) (fun h => absurd h (by decide))) (fun hpt => ?_) (fun hpf _ _ _ _ h17 => by have := h17 (by decide); rw [hpf] at this; cases this)
      exact op_load k11 (ld_R (range_block (cs := [.slice q3 t3 u3, .int .i64 i2, .slice q4 t4 u4]) ((hq.1.fr.block b11 hb11 hb11c hb11g).trans h11b))) ⟨_, rfl, rfl, fun _ _ _ _ _ => rfl⟩
    · refine guarded (i := 16) (d := 43) rfl rfl (hp 16 rfl (by decide) (by decide) (by decide) (by decide) (fun h => absurd h (by decide))) (fun hpt => ?_) (fun hpf _ _ _ _ h17 => by have := h17 (by decide); rw [hpf] at this; cases this)
      exact op_move ⟨_, rfl, rfl, fun _ _ _ _ _ => k2⟩
    · refine guarded (i := 16) (d := 43) rfl rfl (hp 16 rfl (by decide) (by decide) (by decide) (by decide) (fun h => absurd h (by decide))) (fun hpt => ?_) (fun hpf _ _ _ _ h17 => by have := h17 (by decide); rw [hpf] at this; cases this)
      exact op_nilCheck (hp 22 rfl (by decide) (by decide) (by decide) (by decide) (fun _ => hpt)) ⟨_, rfl, rfl, fun _ _ _ _ _ => rfl⟩
    · refine guarded (i := 16) (d := 43) rfl rfl (hp 16 rfl (by decide) (by decide) (by decide) (by decide) (fun h => absurd h (by decide))) (fun hpt => ?_) (fun hpf _ _ _ _ h17 => by have := h17 (by decide); rw [hpf] at this; cases this)
      exact op_fieldAddr (hp 23 rfl (by decide) (by decide) (by decide) (by decide) (fun _ => hpt)) (fa_F3 fb fo w) ⟨_, rfl, rfl, fun _ _ _ _ _ => rfl⟩
    · refine guarded (i := 16) (d := 43) rfl rfl (hp 16 rfl (by decide) (by decide) (by decide) (by decide) (fun h => absurd h (by decide))) (fun hpt => ?_) (fun hpf _ _ _ _ h17 => by have := h17 (by decide); rw [hpf] at this; cases this)
      exact op_load (hp 24 rfl (by decide) (by decide) (by decide) (by decide) (fun _ => hpt)) (ld_F ((hq.1.fr.cell hfb hfbc hfbg).trans hF)) ⟨_, rfl, rfl, fun _ _ _ _ _ => rfl⟩
    · refine guarded (i := 16) (d := 43) rfl rfl (hp 16 rfl (by decide) (by decide) (by decide) (by decide) (fun h => absurd h (by decide))) (fun hpt => ?_) (fun hpf _ _ _ _ h17 => by have := h17 (by decide); rw [hpf] at this; cases this)
      exact op_idx (hp 25 rfl (by decide) (by decide) (by decide) (by decide) (fun _ => hpt)) rfl (ix_F1 Lb Lo cL w) ⟨_, rfl, rfl, fun _ _ _ _ _ => rfl⟩
    · refine guarded (i := 16) (d := 43) rfl rfl (hp 16 rfl (by decide) (by decide) (by decide) (by decide) (fun h => absurd h (by decide))) (fun hpt => ?_) (fun hpf _ _ _ _ h17 => by have := h17 (by decide); rw [hpf] at this; cases this)
      exact op_move ⟨_, rfl, rfl, fun _ _ _ _ _ => k3⟩
    · refine guarded (i := 16) (d := 43) rfl rfl (hp 16 rfl (by decide) (by decide) (by decide) (by decide) (fun h => absurd h (by decide))) (fun hpt => ?_) (fun hpf _ _ _ _ h17 => by have := h17 (by decide); rw [hpf] at this; cases this)
      exact op_addI (hp 27 rfl (by decide) (by decide) (by decide) (by decide) (fun _ => hpt)) hdp ⟨_, rfl, rfl, fun _ _ _ _ _ => rfl⟩
    · refine st_want (wnone rfl) (op_pick (hp 16 rfl (by decide) (by decide) (by decide) (by decide) (fun h => absurd h (by decide))) ⟨_, rfl, rfl, fun _ _ _ _ _ => ?_⟩)
      cases hpt : p1 with
      | true =>
        have e : a.eval (.tmp 56) = .bool p2 := hp 29 rfl (by decide) (by decide) (by decide) (by decide) (fun _ => hpt)
        exact e
      | false => rfl
    · exact st_want (wnone rfl) (op_assign ⟨_, rfl, rfl, fun _ _ _ _ _ => hp 30 rfl (by decide) (by decide) (by decide) (by decide) (fun h => absurd h (by decide))⟩)
  · intro j hcn a w Lf hn' hk hp0 hLj hd hq
    have hp : ∀ j', (preds ((Nm.regionOf Tryz.f49 5).getD j default)).contains j' = true → phiS (expS cb fb fo Lb Lo cL (.slice (some ⟨g, 0, none⟩) rs.length c) (.agg #[.slice q1 t1 u1, .int .i64 i1, .slice q2 t2 u2]) (.agg #[.slice q3 t3 u3, .int .i64 i2, .slice q4 t4 u4]) (200 - (k : Int)) p1 p2) p1 j' (slotOf (Nm.regionOf Tryz.f49 5).toArray a j') := fun j' h => (hp0 j' h).2
    have dn : ∀ j k, j < 32 → (preds ((Nm.regionOf Tryz.f49 5).getD j default)).contains k = true → Lf k = false → Lf j = false := fun j k hj hk hLk => by
      cases hL : Lf j with
      | false => rfl
      | true => rw [hd j (by rw [hl]; exact hj) hL k hk] at hLk; cases hLk
    have d6 : Lf 5 = false → Lf 6 = false := dn 6 5 (by decide) rfl
    have d14 : Lf 6 = false → Lf 14 = false := dn 14 6 (by decide) rfl
    have d20 : Lf 14 = false → Lf 20 = false := fun h => dn 20 16 (by decide) rfl (dn 16 15 (by decide) rfl (dn 15 14 (by decide) rfl h))
    have d21 : Lf 20 = false → Lf 21 = false := dn 21 20 (by decide) rfl
    have d29 : Lf 21 = false → Lf 29 = false := dn 29 21 (by decide) rfl
    have hj' : j = 5 ∨ j = 6 ∨ j = 14 ∨ j = 20 ∨ j = 21 ∨ j = 29 := by simp [chnS] at hcn; omega
    obtain ⟨hSA, hq⟩ := hq
    rcases hj' with rfl | rfl | rfl | rfl | rfl | rfl
    · rw [hLj, d6 hLj, d14 (d6 hLj), d20 (d14 (d6 hLj)), d21 (d20 (d14 (d6 hLj))), d29 (d21 (d20 (d14 (d6 hLj))))] at hq
      refine guarded (i := 1) (d := 28) rfl rfl (hp 1 rfl (by decide) (by decide) (by decide) (by decide) (fun h => absurd h (by decide))) (fun _ => ?_) (fun h => by cases h)
      have e4 : a.tmps.getD 31 undef = .agg #[.slice q1 t1 u1, .int .i64 i1, .slice q2 t2 u2] := hp 4 rfl (by decide) (by decide) (by decide) (by decide) (fun h => absurd h (by decide))
      obtain ⟨A, eA, hbA, hsA, hcA, hhA⟩ := box_new w #[.slice q1 t1 u1, .int .i64 i1, .slice q2 t2 u2] 77
      refine op_bsR e4 ?_
      rw [eA]
      refine ⟨_, rfl, fun h => absurd rfl h, hSA.grow hbA, ?_⟩
      simp only [upL, upS, d6 hLj, d14 (d6 hLj), d20 (d14 (d6 hLj)), d21 (d20 (d14 (d6 hLj))), d29 (d21 (d20 (d14 (d6 hLj))))]
      exact ⟨StR.grow hq hbA, w.heap.size, rfl, range_block hhA⟩
    · have l5 : Lf 5 = true := (hp0 5 rfl).1
      rw [hLj, l5, d14 hLj, d20 (d14 hLj), d21 (d20 (d14 hLj)), d29 (d21 (d20 (d14 hLj)))] at hq
      refine guarded (i := 1) (d := 28) rfl rfl (hp 1 rfl (by decide) (by decide) (by decide) (by decide) (fun h => absurd h (by decide))) (fun _ => ?_) (fun h => by cases h)
      obtain ⟨hS, h, e5, hr⟩ := hq
      have e3 : a.tmps.getD 30 undef = .slice (some ⟨g, 0, none⟩) rs.length c := hp 3 rfl (by decide) (by decide) (by decide) (by decide) (fun h => absurd h (by decide))
      obtain ⟨g', c', w', hrun, hA', hB'⟩ := StR.app (m := 1) hSA hS hr hI1 (by omega) (by omega) 58
      refine op_app (v := .slice (some ⟨g, 0, none⟩) rs.length c) (u := .slice (some ⟨h, 0, none⟩) 1 1) e3 e5 hrun ⟨_, rfl, fun _ h => absurd rfl h, hA', ?_⟩
      simp only [upL, upS, l5, d14 hLj, d20 (d14 hLj), d21 (d20 (d14 hLj)), d29 (d21 (d20 (d14 hLj)))]
      exact ⟨g', c', rfl, hB'⟩
    · have l6 : Lf 6 = true := (hp0 6 rfl).1
      have l5 : Lf 5 = true := hd 6 (by rw [hl]; decide) l6 5 rfl
      rw [hLj, l5, l6, d20 hLj, d21 (d20 hLj), d29 (d21 (d20 hLj))] at hq
      refine guarded (i := 1) (d := 28) rfl rfl (hp 1 rfl (by decide) (by decide) (by decide) (by decide) (fun h => absurd h (by decide))) (fun _ => ?_) (fun h => by cases h)
      obtain ⟨g1, c1, e6, hSB⟩ := hq
      have e2 : a.tmps.getD 29 undef = .pointer (some ⟨cb, 0, none⟩) := hp 2 rfl (by decide) (by decide) (by decide) (by decide) (fun h => absurd h (by decide))
      have e11 : a.tmps.getD 38 undef = .pointer (some ⟨Lb, Lo, none⟩) := hp 11 rfl (by decide) (by decide) (by decide) (by decide) (fun h => absurd h (by decide))
      have e13 : a.tmps.getD 40 undef = .int .i64 (200 - (k : Int) + 1) := hp 13 rfl (by decide) (by decide) (by decide) (by decide) (fun h => absurd h (by decide))
      have e6' : a.tmps.getD 33 undef = .slice (some ⟨g1, 0, none⟩) (rs.length + 1) c1 := e6
      refine op_call enter_ref ?_
      rw [show (#[Operand.tmp 29, .tmp 33, .tmp 38, .tmp 40]).map a.eval = #[.pointer (some ⟨cb, 0, none⟩), .slice (some ⟨g1, 0, none⟩) (rs ++ [r1]).length c1, .pointer (some ⟨Lb, Lo, none⟩), .int .i64 (201 - (k : Int))] by
        simp only [List.map_toArray, List.map_cons, List.map_nil, Act.eval]
        rw [e2, e6', e11, e13, hln1 r1, show 200 - (k : Int) + 1 = 201 - (k : Int) by omega]]
      obtain ⟨l', hcw, hl1, hl2⟩ := hSB.1.2
      have hbW : Below wB.heap.size wB w := hbB.trans (hSA.fr.below hcB hgB hBs)
      have hcA' : (fA.cnt : Int) ≤ l' := by
        have : ((fA.cnt + fB.cnt : Nat) : Int) = (fA.cnt : Int) + (fB.cnt : Int) := by omega
        omega
      refine (hC wB w cb g1 c1 Lb Lo d l' (rs ++ [r1]) fA hT hbW hcw hcB hcA' (by omega) hSB.2.1 (by rw [hln1]; exact hlen) (fun r hr => ?_) hA (by omega)).mono ?_
      · rcases List.mem_append.1 hr with h | h
        · exact hoks r h
        · rw [List.mem_singleton.1 h]; exact hok1
      · rintro e w' ⟨b, rfl, hb, hfr, hR', hx⟩
        have hbp : b = p1 := Bool.eq_iff_iff.2 (hb.trans hp1.symm)
        subst hbp
        obtain ⟨hA2, hS2⟩ := StB.called hSA hSB hcw ⟨hl1, hl2⟩ hfr hR' hx
        refine ⟨_, rfl, _, rfl, fun _ _ _ _ _ => rfl, hA2, ?_⟩
        simp only [upL, upS, l5, l6, d20 hLj, d21 (d20 hLj), d29 (d21 (d20 hLj))]
        exact hS2.weak (by omega)
    · have l16 : Lf 16 = true := (hp0 16 rfl).1
      have l15 : Lf 15 = true := hd 16 (by rw [hl]; decide) l16 15 rfl
      have l14 : Lf 14 = true := hd 15 (by rw [hl]; decide) l15 14 rfl
      rw [hLj, l14, d21 hLj, d29 (d21 hLj)] at hq
      have hq' : StR wB.heap.size cb g c left rs fA.cnt w := hq
      refine guarded (i := 16) (d := 43) rfl rfl (hp 16 rfl (by decide) (by decide) (by decide) (by decide) (fun h => absurd h (by decide))) (fun hpt => ?_) (fun hpf => ⟨fun _ _ h => absurd rfl h, hSA, ?_⟩)
      · have e4 : a.tmps.getD 46 undef = .agg #[.slice q3 t3 u3, .int .i64 i2, .slice q4 t4 u4] := hp 19 rfl (by decide) (by decide) (by decide) (by decide) (fun _ => hpt)
        obtain ⟨A, eA, hbA, hsA, hcA, hhA⟩ := box_new w #[.slice q3 t3 u3, .int .i64 i2, .slice q4 t4 u4] 77
        refine op_bsR e4 ?_
        rw [eA]
        refine ⟨_, rfl, fun _ _ h => absurd rfl h, hSA.grow hbA, ?_⟩
        simp only [upL, upS, d21 hLj, d29 (d21 hLj)]
        exact ⟨hq'.grow hbA, fun _ => ⟨w.heap.size, rfl, range_block hhA⟩⟩
      · simp only [upL, upS, d21 hLj, d29 (d21 hLj)]
        exact ⟨hq', fun h => by rw [hpf] at h; cases h⟩
    · have l20 : Lf 20 = true := (hp0 20 rfl).1
      rw [hLj, l20, d29 hLj] at hq
      obtain ⟨hS, hq⟩ := hq
      refine guarded (i := 16) (d := 43) rfl rfl (hp 16 rfl (by decide) (by decide) (by decide) (by decide) (fun h => absurd h (by decide))) (fun hpt => ?_) (fun hpf => ⟨fun _ _ _ h => absurd rfl h, hSA, ?_⟩)
      · obtain ⟨h, e5, hr⟩ := hq hpt
        have e3 : a.tmps.getD 45 undef = .slice (some ⟨g, 0, none⟩) rs.length c := hp 18 rfl (by decide) (by decide) (by decide) (by decide) (fun _ => hpt)
        obtain ⟨g', c', w', hrun, hA', hB'⟩ := StR.app (m := 1) hSA hS hr hI2 (by omega) (by omega) 58
        refine op_app (v := .slice (some ⟨g, 0, none⟩) rs.length c) (u := .slice (some ⟨h, 0, none⟩) 1 1) e3 e5 hrun ⟨_, rfl, fun _ _ _ h => absurd rfl h, hA', ?_⟩
        simp only [upL, upS, l20, d29 hLj]
        exact ⟨fun h => (by rw [hpt] at h; cases h), fun _ => ⟨g', c', rfl, hB'⟩⟩
      · simp only [upL, upS, l20, d29 hLj]
        exact ⟨fun _ => hS, fun h => (by rw [hpf] at h; cases h)⟩
    · have l21 : Lf 21 = true := (hp0 21 rfl).1
      rw [hLj, l21] at hq
      obtain ⟨hqf, hqt⟩ := hq
      refine guarded (i := 16) (d := 43) rfl rfl (hp 16 rfl (by decide) (by decide) (by decide) (by decide) (fun h => absurd h (by decide))) (fun hpt => ?_) (fun hpf => ⟨fun _ _ _ _ h17 => (by have := h17 (by decide); rw [hpf] at this; cases this), hSA, ?_⟩)
      · obtain ⟨g1, c1, e6, hSB⟩ := hqt hpt
        have e2 : a.tmps.getD 44 undef = .pointer (some ⟨cb, 0, none⟩) := hp 17 rfl (by decide) (by decide) (by decide) (by decide) (fun _ => hpt)
        have e11 : a.tmps.getD 53 undef = .pointer (some ⟨Lb, Lo + 5, none⟩) := hp 26 rfl (by decide) (by decide) (by decide) (by decide) (fun _ => hpt)
        have e13 : a.tmps.getD 55 undef = .int .i64 (200 - (k : Int) + 1) := hp 28 rfl (by decide) (by decide) (by decide) (by decide) (fun _ => hpt)
        have e6' : a.tmps.getD 48 undef = .slice (some ⟨g1, 0, none⟩) (rs.length + 1) c1 := e6
        refine op_call enter_ref ?_
        rw [show (#[Operand.tmp 44, .tmp 48, .tmp 53, .tmp 55]).map a.eval = #[.pointer (some ⟨cb, 0, none⟩), .slice (some ⟨g1, 0, none⟩) (rs ++ [r2]).length c1, .pointer (some ⟨Lb, Lo + 5, none⟩), .int .i64 (201 - (k : Int))] by
          simp only [List.map_toArray, List.map_cons, List.map_nil, Act.eval]
          rw [e2, e6', e11, e13, hln1 r2, show 200 - (k : Int) + 1 = 201 - (k : Int) by omega]]
        obtain ⟨l', hcw, hl1, hl2⟩ := hSB.1.2
        have hbW : Below wB.heap.size wB w := hbB.trans (hSA.fr.below hcB hgB hBs)
        have hcA' : (fB.cnt : Int) ≤ l' := by
          have : ((fA.cnt + fB.cnt : Nat) : Int) = (fA.cnt : Int) + (fB.cnt : Int) := by omega
          omega
        refine (hC wB w cb g1 c1 Lb (Lo + 5) d l' (rs ++ [r2]) fB hT hbW hcw hcB hcA' (by omega) hSB.2.1 (by rw [hln1]; exact hlen) (fun r hr => ?_) hB (by omega)).mono ?_
        · rcases List.mem_append.1 hr with h | h
          · exact hoks r h
          · rw [List.mem_singleton.1 h]; exact hok2
        · rintro e w' ⟨b, rfl, hb, hfr, hR', hx⟩
          have hbp : b = p2 := Bool.eq_iff_iff.2 (hb.trans hp2.symm)
          subst hbp
          obtain ⟨hA2, hS2⟩ := StB.called hSA hSB hcw ⟨hl1, hl2⟩ hfr hR' hx
          refine ⟨_, rfl, _, rfl, fun _ _ _ _ _ => rfl, hA2, ?_⟩
          simp only [upL, upS, l21]
          exact hS2
      · simp only [upL, upS, l21]
        exact (hqf hpf).weak (by omega)
  · intro a w hdf hn' hk hp hq
    exact hend a w hdf hn' hk (hp 31 (by rw [hl]; decide) (by decide) (by decide) (by decide) (by decide) (fun h => absurd h (by decide))) hq.1 hq.2
end Go.Proofs.YtnkigifcilgmbaaGreatDoor
