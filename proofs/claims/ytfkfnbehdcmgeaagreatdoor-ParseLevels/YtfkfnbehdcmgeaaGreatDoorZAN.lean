/- Package parse: a parameter's drawn region. -/
import Derived.Test.YtfkfnbehdcmgeaaGreatDoorZAM
import Derived.Test.YtfkfnbehdcmgeaaGreatDoorZAF
import Derived.Deep.RegionHeld3
set_option linter.unusedVariables false
set_option linter.unusedSimpArgs false

/- Package parse: types. -/
namespace Go.Proofs.YtfkfnbehdcmgeaaGreatDoor
open Go Go.RowKit
set_option maxRecDepth 100000 in
set_option maxHeartbeats 8000000 in
theorem typeOf_of {r d lo : Nat} {ts : List (Int × ByteArray × Int)} (hT : TsOk ts) (hE : RuC 59 r ts d lo (exR ts)) {w : World} {p : Nat} (hlo : lo ≤ p) (hR : RD w r ts p d) : Calls Tryz.prog 91 #[.pointer (some ⟨r, 0, none⟩)] w (RP (fun w' v t => TyV w' w.heap.size v t) (typeR ts p) r ts p d w) := by
  obtain ⟨Y, hY⟩ : ∃ Y, typeR ts p = Y := ⟨_, rfl⟩
  rw [hY]
  unfold typeR at hY
  have hr := hR.rlt
  obtain ⟨A, eA, hbA, hsA, hzA⟩ := box_new w #[.int .i64 0, .string ⟨#[]⟩, .slice none 0 0, .int .i64 0] 54
  have HB := hide (But.of (r := r) hbA)
  have HR := hide (hR.keep hbA)
  have HZ := hide hzA
  have HS : Hid (w.heap.size < A.heap.size) := by show _ < _; omega
  have HL : Hid (p ≤ p ∧ lo ≤ p) := ⟨Nat.le_refl _, hlo⟩
  have HSA := hide hsA
  have HE := hide eA
  have HT := hide hT
  have HY := hide hY
  have hrne : r ≠ w.heap.size := by omega
  replace hE := hide hE
  clear hlo hR hbA hzA hsA eA hT hY
  go_enter Tryz.func91, Tryz.ntmps91
  have HC0 := hide (sees_any (unhide HR) (unhide HT) ⟨#[123]⟩)
  obtain ⟨bo0, hbo0⟩ : ∃ b, sees ts (p) ⟨#[123]⟩ = b := ⟨_, rfl⟩
  rw [hbo0] at HC0
  have hY0 := unhide HY
  rw [hbo0] at hY0
  replace HY := hide hY0
  have HO0 := hide hbo0
  clear hY0 hbo0
  go_wp2_with fail
  rw [unhide HE]
  refine (unhide HC0).mono ?_
  rintro e w0 ⟨rfl, hb0⟩
  have hbu1 := But.of (r := r) hb0
  replace HR := hide ((unhide HR).keep hb0)
  replace HB := hide ((unhide HB).trans hbu1)
  replace HZ := hide (zkeep (unhide HZ) hbu1 hrne)
  replace HS := hide (Nat.lt_of_lt_of_le (unhide HS) hbu1.size)
  clear hb0 HC0
  rcases bo0 with _ | _
  · have hY0 := unhide HY
    simp only [Bool.false_eq_true, if_false] at hY0
    replace HY := hide hY0
    clear hY0
    have HC2 := hide (next_any (unhide HR) (unhide HT))
    unfold tkV at HC2
    obtain ⟨⟨kk2, T2, at2⟩, hN2⟩ : ∃ X, nx ts p = X := ⟨_, rfl⟩
    rw [hN2] at HC2
    have HN2 := hide hN2
    clear hN2
    go_wp2_with fail
    refine (unhide HC2).mono ?_
    rintro e w2 ⟨rfl, hb2⟩
    have hbu3 := But.of (r := r) hb2
    replace HR := hide ((unhide HR).keep hb2)
    replace HB := hide ((unhide HB).trans hbu3)
    replace HZ := hide (zkeep (unhide HZ) hbu3 hrne)
    replace HS := hide (Nat.lt_of_lt_of_le (unhide HS) hbu3.size)
    clear hb2 HC2
    have hf1 := fld1 (.int .i64 kk2) (.string T2) (.int .i64 at2)
    have htx : txt ts p = T2 := by unfold txt; rw [unhide HN2]
    obtain ⟨o, ho⟩ : ∃ o, kindD T2 = o := ⟨_, rfl⟩
    have HK := kindOf_any T2 w2
    rw [ho] at HK
    replace HK := hide HK
    go_wp2_with fail
    refine (unhide HK).mono ?_
    rintro e w90 ⟨rfl, hb90⟩
    have hbu4 := But.of (r := r) hb90
    replace HR := hide ((unhide HR).keep hb90)
    replace HB := hide ((unhide HB).trans hbu4)
    replace HZ := hide (zkeep (unhide HZ) hbu4 hrne)
    replace HS := hide (Nat.lt_of_lt_of_le (unhide HS) hbu4.size)
    clear hb90 HK
    by_cases ho0 : o = 0
    · subst ho0
      have hY5 := unhide HY
      rw [if_pos (by rw [htx]; exact ho)] at hY5
      replace HY := hide hY5
      clear hY5
      clear htx ho
      have HC6 := hide (refused_any (unhide HR) (unhide HT) 150)
      go_wp2_with fail
      refine (unhide HC6).mono ?_
      rintro e w6 ⟨rfl, hb6⟩
      have hbu7 := But.of (r := r) hb6
      replace HR := hide ((unhide HR).keep hb6)
      replace HB := hide ((unhide HB).trans hbu7)
      replace HZ := hide (zkeep (unhide HZ) hbu7 hrne)
      replace HS := hide (Nat.lt_of_lt_of_le (unhide HS) hbu7.size)
      clear hb6 HC6
      go_wp2
      obtain rfl := unhide HY
      exact ⟨rfl, unhide HB, rfl⟩
    · have g0 : (o == 0) = false := by simpa using ho0
      have g1 : decide (o = 0) = false := by simpa using ho0
      have hp1 : p + 1 < ts.length := nx_txt (unhide HT) (unhide HR).lt (by rw [htx]; exact kindD_txt (by rw [ho]; exact ho0))
      have hY8 := unhide HY
      rw [if_neg (by rw [htx, ho]; exact ho0), htx, ho] at hY8
      replace HY := hide hY8
      clear hY8
      replace hp1 := hide hp1
      clear htx ho ho0
      have HC9 := hide (take_any (unhide HR) (unhide HT) (unhide hp1))
      unfold tkV at HC9
      obtain ⟨⟨kk9, T9, at9⟩, hN9⟩ : ∃ X, nx ts p = X := ⟨_, rfl⟩
      rw [hN9] at HC9
      have HN9 := hide hN9
      clear hN9
      go_wp2_with fail
      refine (unhide HC9).mono ?_
      rintro e w9 ⟨rfl, hb9, hR9⟩
      replace HB := hide ((unhide HB).trans hb9)
      replace HZ := hide (zkeep (unhide HZ) hb9 hrne)
      replace HS := hide (Nat.lt_of_lt_of_le (unhide HS) hb9.size)
      replace HR := hide hR9
      replace HL : Hid (p ≤ p + 1 ∧ lo + 1 ≤ p + 1) := And.intro (Nat.le_succ_of_le (unhide HL).1) (Nat.succ_le_succ (unhide HL).2)
      clear hb9 hR9 HC9
      have hf2 := fld2 (.int .i64 kk9) (.string T9) (.int .i64 at9)
      have HF9 : Hid (o = o) := rfl
      have HF0 : TyV w9 (w.heap.size + 1) (.agg #[.int .i64 o, .string ⟨#[]⟩, .slice none 0 0, .int .i64 at9]) (.mk o ⟨#[]⟩ [] at9) := ⟨none, 0, 0, rfl, lsn⟩
      have HF := hide HF0
      clear HF0
      have y0 := (blk (unhide HZ)).2.1 0 _ rfl
      have z0 := (blk (unhide HZ)).2.2 0
      have y1 := (blk (unhide HZ)).2.1 1 _ rfl
      have z1 := (blk (unhide HZ)).2.2 1
      have y2 := (blk (unhide HZ)).2.1 2 _ rfl
      have z2 := (blk (unhide HZ)).2.2 2
      have y3 := (blk (unhide HZ)).2.1 3 _ rfl
      have z3 := (blk (unhide HZ)).2.2 3
      go_wp2
      exact ret_row (cs := [.int .i64 o, .string ⟨#[]⟩, .slice none 0 0, .int .i64 at9]) (xs := [.int .i64 0, .string ⟨#[]⟩, .slice none 0 0, .int .i64 0]) TyV.keep rfl rfl rfl (unhide HB) hr (unhide HZ) rfl Tryz.underlying54 rfl (by kernel_rfl) (by have h := unhide HY; rw [unhide HN9] at h; exact h.symm) (unhide HL).1 (unhide HR) (lo := w.heap.size + 1) (by omega) (unhide HF)
  have hY0 := unhide HY
  simp only [if_true] at hY0
  replace HY := hide hY0
  clear hY0
  have hp1 : p + 1 < ts.length := nx_txt (unhide HT) (unhide HR).lt (by rw [sees_txt (unhide HO0)]; decide)
  replace hp1 := hide hp1
  have HC10 := hide (refinement_of (unhide HT) (unhide hE) (unhide HL).2 (unhide hp1) (unhide HR))
  go_wp2_with fail
  refine (unhide HC10).mono ?_
  intro e w10 h10
  rcases hX10 : refR ts (p) with er | ⟨t10, q10⟩
  · rw [hX10] at h10
    obtain ⟨ei, en⟩ := er
    have hYe : Y = .error (ei, en) := by have h := unhide HY; rw [hX10] at h; exact h.symm
    subst hYe
    obtain ⟨hb10, h10⟩ := h10
    obtain rfl : e = _ := h10
    have HP := hide ((unhide HB).trans hb10)
    clear hb10 HC10 hX10
    go_wp2
    exact ⟨rfl, unhide HP, rfl⟩
  rw [hX10] at h10
  obtain ⟨hb10, hle10, hR10, v10, rfl, hv10⟩ := h10
  have hY10 := unhide HY
  rw [hX10] at hY10
  replace HY := hide hY10
  clear hY10
  obtain ⟨a10, n10, c10, rfl, hv10⟩ := hv10
  have HT10 := hide (hv10.keep (lo' := w.heap.size + 1) (Stays.of (Below.refl _ _)) (unhide HS))
  replace HB := hide ((unhide HB).trans hb10)
  replace HZ := hide (zkeep (unhide HZ) hb10 hrne)
  replace HS := hide (Nat.lt_of_lt_of_le (unhide HS) hb10.size)
  replace HR := hide hR10
  replace HL := hide (And.intro (Nat.le_trans (unhide HL).1 hle10) (Nat.le_trans (unhide HL).2 hle10))
  clear hb10 hle10 hR10 hv10 HC10 hX10
  have HF0 : TyV w10 (w.heap.size + 1) (.agg #[.int .i64 t10.kind, .string t10.name, .slice a10 n10 c10, .int .i64 t10.at']) t10 := ⟨_, _, _, rfl, unhide HT10⟩
  have HF := hide HF0
  clear HF0
  have y0 := (blk (unhide HZ)).2.1 0 _ rfl
  have z0 := (blk (unhide HZ)).2.2 0
  have y1 := (blk (unhide HZ)).2.1 1 _ rfl
  have z1 := (blk (unhide HZ)).2.2 1
  have y2 := (blk (unhide HZ)).2.1 2 _ rfl
  have z2 := (blk (unhide HZ)).2.2 2
  have y3 := (blk (unhide HZ)).2.1 3 _ rfl
  have z3 := (blk (unhide HZ)).2.2 3
  go_wp2
  exact ret_row (cs := [.int .i64 t10.kind, .string t10.name, .slice a10 n10 c10, .int .i64 t10.at']) (xs := [.int .i64 0, .string ⟨#[]⟩, .slice none 0 0, .int .i64 0]) TyV.keep rfl rfl rfl (unhide HB) hr (unhide HZ) rfl Tryz.underlying54 rfl (by kernel_rfl) (by have h := unhide HY; exact h.symm) (unhide HL).1 (unhide HR) (lo := w.heap.size + 1) (by omega) (unhide HF)
end Go.Proofs.YtfkfnbehdcmgeaaGreatDoor

namespace Go.Proofs.YtfkfnbehdcmgeaaGreatDoor
open Go Go.RowKit
/-- A row of expressions in blocks of a kind. -/
def LsP (w : World) (P : Nat → Prop) (v : Value) (l : List Ex) : Prop := ∃ h a c, v = .slice a l.length c ∧ RowX w P a l.length c fun b o j => ∀ t, l[j]? = some t → ExAt w P h b o t
theorem LsP.keep {w w' : World} {P P' : Nat → Prop} {v : Value} {l : List Ex} (h : LsP w P v l) (hb : StaysP P w w') (hl : ∀ b, P b → P' b) : LsP w' P' v l := by
  obtain ⟨k, a, c, e, h2⟩ := h
  exact ⟨k, a, c, e, h2.mono hb.1 hl fun b o j hr hbl hj t ht => ExAt.keep hb hl k b o t hr hbl (hj t ht)⟩
theorem LsP.bnd {w : World} {P : Nat → Prop} {v : Value} {l : List Ex} (h : LsP w P v l) : LsP w (fun b => P b ∧ b < w.heap.size) v l := by
  obtain ⟨k, a, c, e, h1, h2, h3⟩ := h
  refine ⟨k, a, c, e, h1, h2, fun h0 => ?_⟩
  obtain ⟨b, off, e, hr, hb, hj⟩ := h3 h0
  exact ⟨b, off, e, ⟨hr, hb⟩, hb, fun j hjn t ht => ExAt.bnd k _ _ t (hj j hjn t ht)⟩
def TyP (w : World) (P : Nat → Prop) (v : Value) (t : Ty) : Prop := ∃ a n c, v = .agg #[.int .i64 t.kind, .string t.name, .slice a n c, .int .i64 t.at'] ∧ LsP w P (.slice a n c) t.r
theorem TyP.keep {w w' : World} {P P' : Nat → Prop} {v : Value} {t : Ty} (h : TyP w P v t) (hb : StaysP P w w') (hl : ∀ b, P b → P' b) : TyP w' P' v t := by
  obtain ⟨a, n, c, e, h⟩ := h
  exact ⟨a, n, c, e, h.keep hb hl⟩
theorem TyP.bnd {w : World} {P : Nat → Prop} {v : Value} {t : Ty} (h : TyP w P v t) : TyP w (fun b => P b ∧ b < w.heap.size) v t := by
  obtain ⟨a, n, c, e, h⟩ := h
  exact ⟨a, n, c, e, h.bnd⟩
theorem TyV.toP {w : World} {lo : Nat} {v : Value} {t : Ty} (h : TyV w lo v t) : TyP w (fun b => lo ≤ b) v t := h
section
variable {X : Exit → Act → World → Prop} {K : Act → World → Prop} {a0 : Act} {w : World} {dst : Option Tmp} {ty : TypeId} {pos : String} {af : Array Edge} {gd : Option (Nat × Bool)}
set_option maxRecDepth 100000 in
set_option maxHeartbeats 4000000 in
theorem op_bldP {k1 k2 k3 : Nat} {T n : ByteArray} {k i ai : Int} {a : Option Addr} {m c : Nat} (h1 : a0.tmps.getD k1 undef = .string T) (h2 : a0.tmps.getD k2 undef = .agg #[.int .i64 k, .string n, .slice a m c, .int .i64 i]) (h3 : a0.tmps.getD k3 undef = .int .i64 ai) (h : K (a0.put dst (.agg #[.string T, .int .i64 k, .string n, .slice a m c, .int .i64 i, .int .i64 ai])) w) : Oper.wp Tryz.prog ⟨dst, .build 81 #[(0, .tmp k1), (1, .tmp k2), (2, .tmp k3)], ty, pos, af, gd⟩ a0 w K X := by
  have e1 : a0.eval (.tmp k1) = .string T := h1
  have e2 : a0.eval (.tmp k2) = .agg #[.int .i64 k, .string n, .slice a m c, .int .i64 i] := h2
  have e3 : a0.eval (.tmp k3) = .int .i64 ai := h3
  unfold Oper.wp
  simp only [execOp, List.map_toArray, List.map_cons, List.map_nil, e1, e2, e3]
  go_simp
  exact h
set_option maxRecDepth 100000 in
set_option maxHeartbeats 4000000 in
theorem op_alP (h : K (a0.put dst (.pointer (some ⟨w.heap.size, 0, none⟩))) (w.alloc (.cells #[.string ⟨#[]⟩, .int .i64 0, .string ⟨#[]⟩, .slice none 0 0, .int .i64 0, .int .i64 0] 81))) : Oper.wp Tryz.prog ⟨dst, .alloc 81, ty, pos, af, gd⟩ a0 w K X := by
  unfold Oper.wp
  go_simp
  exact h
set_option maxRecDepth 100000 in
set_option maxHeartbeats 4000000 in
theorem op_stP {k1 k2 q : Nat} {T n : ByteArray} {k i ai : Int} {a : Option Addr} {m c : Nat} (h1 : a0.tmps.getD k1 undef = .pointer (some ⟨q, 0, none⟩)) (h2 : a0.tmps.getD k2 undef = .agg #[.string T, .int .i64 k, .string n, .slice a m c, .int .i64 i, .int .i64 ai]) (hz : w.heap[q]? = some (.cells #[.string ⟨#[]⟩, .int .i64 0, .string ⟨#[]⟩, .slice none 0 0, .int .i64 0, .int .i64 0] 81)) (h : K a0 (setN w q 0 [.string T, .int .i64 k, .string n, .slice a m c, .int .i64 i, .int .i64 ai])) : Oper.wp Tryz.prog ⟨none, .store 81 (.tmp k1) (.tmp k2), ty, pos, af, gd⟩ a0 w K X := by
  have e1 : a0.eval (.tmp k1) = .pointer (some ⟨q, 0, none⟩) := h1
  have e2 : a0.eval (.tmp k2) = .agg #[.string T, .int .i64 k, .string n, .slice a m c, .int .i64 i, .int .i64 ai] := h2
  have y0 := (blk hz).2.1 0 _ rfl
  have z0 := (blk hz).2.2 0
  have y1 := (blk hz).2.1 1 _ rfl
  have z1 := (blk hz).2.2 1
  have y2 := (blk hz).2.1 2 _ rfl
  have z2 := (blk hz).2.2 2
  have y3 := (blk hz).2.1 3 _ rfl
  have z3 := (blk hz).2.2 3
  have y4 := (blk hz).2.1 4 _ rfl
  have z4 := (blk hz).2.2 4
  have y5 := (blk hz).2.1 5 _ rfl
  have z5 := (blk hz).2.2 5
  have h9 : K a0 ((((((w.setCell ⟨q, 0, none⟩ (.string T)).setCell ⟨q, 1, none⟩ (.int .i64 k)).setCell ⟨q, 2, none⟩ (.string n)).setCell ⟨q, 3, none⟩ (.slice a m c)).setCell ⟨q, 4, none⟩ (.int .i64 i)).setCell ⟨q, 5, none⟩ (.int .i64 ai)) := h
  clear h
  unfold Oper.wp
  simp only [execOp, e1, e2]
  simp [go_sem, y0, y1, y2, y3, y4, y5, z0, z1, z2, z3, z4, z5]
  exact h9
end
/-- What typeOf has answered. -/
def cTy (W : World) (r : Nat) (ts : List (Int × ByteArray × Int)) (p d : Nat) (X : (Except (Int × Int) (Ty × Nat))) (P : Nat → Prop) (v : Value) (w : World) : Prop := ∃ t q, X = .ok (t, q) ∧ But r W w ∧ RD w r ts q d ∧ p ≤ q ∧ TyP w P v t
/-- How far the region has come. -/
def stP (W : World) (r : Nat) (ts : List (Int × ByteArray × Int)) (p d : Nat) (X : (Except (Int × Int) (Ty × Nat))) (T : ByteArray) (ai : Int) (L : Nat → Bool) (s : Nat → Value) (w : World) : Prop :=
  (L 6 = true → ∃ k n a m c i, s 3 = .agg #[.int .i64 k, .string n, .slice a m c, .int .i64 i] ∧ s 6 = .agg #[.string T, .int .i64 k, .string n, .slice a m c, .int .i64 i, .int .i64 ai]) ∧
  (L 8 = true → ∃ qb W2 k n a m c i, s 3 = .agg #[.int .i64 k, .string n, .slice a m c, .int .i64 i] ∧ s 7 = .pointer (some ⟨qb, 0, none⟩) ∧ W.heap.size ≤ qb ∧ W2.heap[qb]? = some (.cells #[.string ⟨#[]⟩, .int .i64 0, .string ⟨#[]⟩, .slice none 0 0, .int .i64 0, .int .i64 0] 81) ∧ cTy W r ts p d X (fun b => W.heap.size ≤ b ∧ b ≠ qb) (s 3) W2 ∧ w = setN W2 qb 0 [.string T, .int .i64 k, .string n, .slice a m c, .int .i64 i, .int .i64 ai]) ∧
  (L 8 = false → L 3 = false → L 7 = false → w = W.drew) ∧
  (L 8 = false → L 3 = false → L 7 = true → s 7 = .pointer (some ⟨W.heap.size, 0, none⟩) ∧ w = (W.drew.alloc (.cells #[.string ⟨#[]⟩, .int .i64 0, .string ⟨#[]⟩, .slice none 0 0, .int .i64 0, .int .i64 0] 81))) ∧
  (L 8 = false → L 3 = true → L 7 = false → cTy W r ts p d X (fun b => W.heap.size ≤ b) (s 3) w) ∧
  (L 8 = false → L 3 = true → L 7 = true → ∃ qb, s 7 = .pointer (some ⟨qb, 0, none⟩) ∧ W.heap.size ≤ qb ∧ w.heap[qb]? = some (.cells #[.string ⟨#[]⟩, .int .i64 0, .string ⟨#[]⟩, .slice none 0 0, .int .i64 0, .int .i64 0] 81) ∧ cTy W r ts p d X (fun b => W.heap.size ≤ b ∧ b ≠ qb) (s 3) w)
theorem cTy.at {W : World} {r : Nat} {ts : List (Int × ByteArray × Int)} {p d : Nat} {X : (Except (Int × Int) (Ty × Nat))} {P : Nat → Prop} {v : Value} {w : World} (h : cTy W r ts p d X P v w) {q : Nat} (hq : q < W.heap.size) (hr : r ≠ q) : w.heap[q]? = W.heap[q]? := by
  obtain ⟨t, z, -, hb, -⟩ := h
  exact hb.block q hq (Ne.symm hr)
theorem stP_at {W : World} {r : Nat} {ts : List (Int × ByteArray × Int)} {p d : Nat} {X : (Except (Int × Int) (Ty × Nat))} {T : ByteArray} {ai : Int} {L : Nat → Bool} {s : Nat → Value} {w : World} (h : stP W r ts p d X T ai L s w) {q : Nat} (hq : q < W.heap.size) (hr : r ≠ q) : w.heap[q]? = W.heap[q]? := by
  obtain ⟨-, h8, h1, h2, h3, h4⟩ := h
  have hA : Below W.heap.size W (W.drew.alloc (.cells #[.string ⟨#[]⟩, .int .i64 0, .string ⟨#[]⟩, .slice none 0 0, .int .i64 0, .int .i64 0] 81)) := ((Below.refl _ W).drew).alloc (Nat.le_refl _) _
  cases e8 : L 8 with
  | true =>
    obtain ⟨qb, W2, k, n, a, m, c, i, -, -, hqb, -, hc, rfl⟩ := h8 e8
    rw [heap_setN (by omega)]
    exact hc.at hq hr
  | false =>
    cases e3 : L 3 with
    | false =>
      cases e7 : L 7 with
      | false => rw [h1 e8 e3 e7]; rfl
      | true => rw [(h2 e8 e3 e7).2]; exact hA.block q hq
    | true =>
      cases e7 : L 7 with
      | false => exact (h3 e8 e3 e7).at hq hr
      | true =>
        obtain ⟨qb, -, -, -, hc⟩ := h4 e8 e3 e7
        exact hc.at hq hr
theorem enter_typeOf : Enters Tryz.prog 91 := ⟨fun xs w => by go_simp⟩
set_option maxRecDepth 100000 in
set_option maxHeartbeats 8000000 in
theorem param_r4 {Q : Exit → Act → World → Prop} {a0 : Act} {W : World} {r p d q3 : Nat} {ts : List (Int × ByteArray × Int)} {X : (Except (Int × Int) (Ty × Nat))} {kk ai : Int} {T : ByteArray} (hN : a0.tmps.size = 21) (h0 : a0.tmps[0]? = some (.pointer (some ⟨r, 0, none⟩))) (h3 : a0.tmps[3]? = some (.pointer (some ⟨q3, 0, none⟩)))
    (b3 : W.heap[q3]? = some (.cells #[.int .i64 kk, .string T, .int .i64 ai] 74)) (n1 : r ≠ q3) (hr : r < W.heap.size) (hC : ∀ W', Below W.heap.size W W' → Calls Tryz.prog 91 #[.pointer (some ⟨r, 0, none⟩)] W' (RP (fun w' v t => TyV w' W'.heap.size v t) X r ts p d W'))
    (herr : ∀ (a : Act) (w : World) (ei en : Int), X = .error (ei, en) → a.defers = a0.defers → But r W w → Q (.panic [{ v := .iface 89 (.agg #[.int .i64 ei, .int .i64 en]), recovered := false }]) a w)
    (hend : ∀ (a : Act) (W2 : World) (t : Ty) (q qb : Nat) (k : Int) (n : ByteArray) (ad : Option Addr) (m c : Nat) (i : Int), X = .ok (t, q) → a.defers = a0.defers → (∀ k, k ∈ ((List.range 21).filter fun i => !([11, 12, 13, 14, 15, 16, 17, 4].contains i)) → a.tmps[k]? = a0.tmps[k]?) → a.tmps[4]? = some (.pointer (some ⟨qb, 0, none⟩)) → a.tmps.size = 21 → W.heap.size ≤ qb → W2.heap[qb]? = some (.cells #[.string ⟨#[]⟩, .int .i64 0, .string ⟨#[]⟩, .slice none 0 0, .int .i64 0, .int .i64 0] 81) → But r W W2 → RD W2 r ts q d → p ≤ q → TyP W2 (fun b => W.heap.size ≤ b ∧ b ≠ qb) (.agg #[.int .i64 k, .string n, .slice ad m c, .int .i64 i]) t → Q .normal a (setN W2 qb 0 [.string T, .int .i64 k, .string n, .slice ad m c, .int .i64 i, .int .i64 ai])) :
    (Code.region 4 (regionOf Tryz.f105 4).toArray true).wp Tryz.prog Q a0 W := by
  have hl : (regionOf Tryz.f105 4).length = 9 := by kernel_rfl
  have hds : ((List.range 8).all fun i => ((regionOf Tryz.f105 4).getD i default).dst.isSome) = true := by kernel_rfl
  have hk3 : 3 ∈ ((List.range 21).filter fun i => !([11, 12, 13, 14, 15, 16, 17, 4].contains i)) := by decide
  have hk0 : 0 ∈ ((List.range 21).filter fun i => !([11, 12, 13, 14, 15, 16, 17, 4].contains i)) := by decide
  refine wp_region_any (by kernel_rfl) ?_
  refine seqP (l := (regionOf Tryz.f105 4)) 21 ((List.range 21).filter fun i => !([11, 12, 13, 14, 15, 16, 17, 4].contains i)) (fun j v => (j = 0 → v = .pointer (some ⟨q3, 1, none⟩)) ∧ (j = 1 → v = .string T) ∧ (j = 2 → v = .pointer (some ⟨r, 0, none⟩)) ∧ (j = 4 → v = .pointer (some ⟨q3, 2, none⟩)) ∧ (j = 5 → v = .int .i64 ai)) (fun j => j == 3 || j == 6 || j == 7 || j == 8) (stP W r ts p d X T ai) (by kernel_rfl) hN ?_ ?_ ?_ ?_ ?_ ?_ ?_
  · intro i hi
    rw [hl]
    simp at hi
    omega
  · refine ⟨fun h => ?_, fun h => ?_, fun _ _ _ => ?_, fun _ _ h => ?_, fun _ h => ?_, fun _ h => ?_⟩
    · cases h
    · cases h
    · rfl
    · cases h
    · cases h
    · cases h
  · intro L L' s s' w h hs
    have l3 := (h 3 (by decide)).1
    have l6 := (h 6 (by decide)).1
    have l7 := (h 7 (by decide)).1
    have l8 := (h 8 (by decide)).1
    have s3 := (h 3 (by decide)).2 (by kernel_rfl)
    have s6 := (h 6 (by decide)).2 (by kernel_rfl)
    have s7 := (h 7 (by decide)).2 (by kernel_rfl)
    unfold stP at hs ⊢
    rw [← l3, ← l6, ← l7, ← l8, ← s3, ← s6, ← s7]
    exact hs
  · intro i o ho hd
    have hi : i < 9 := by rw [← hl]; exact (List.getElem?_eq_some_iff.1 ho).1
    have he : (regionOf Tryz.f105 4).getD i default = o := by simp [List.getD, ho]
    rcases Nat.lt_or_ge i 8 with h | h
    · have := List.all_eq_true.1 hds i (List.mem_range.2 h)
      rw [he, hd] at this
      cases this
    · obtain rfl : i = 8 := by omega
      exact ⟨by decide, fun v => ⟨(fun h => absurd h (by decide)), (fun h => absurd h (by decide)), (fun h => absurd h (by decide)), (fun h => absurd h (by decide)), (fun h => absurd h (by decide))⟩⟩
  · intro i hi hni a w L hd hsz hk hp hs
    rw [hl] at hi
    have hii : i = 0 ∨ i = 1 ∨ i = 2 ∨ i = 4 ∨ i = 5 := by simp at hni; omega
    have ke3 : a.eval (.tmp 3) = .pointer (some ⟨q3, 0, none⟩) := getD_of ((hk 3 hk3).trans h3)
    have ke0 : a.eval (.tmp 0) = .pointer (some ⟨r, 0, none⟩) := getD_of ((hk 0 hk0).trans h0)
    have cc := (stP_at hs (blk b3).1 n1).trans b3
    rcases hii with rfl | rfl | rfl | rfl | rfl
    · exact st_want (wnone rfl) (op_fieldAddr ke3 (fa_tok q3 1 w (by omega)) ⟨_, rfl, rfl, ⟨fun _ => rfl, (fun h => absurd h (by decide)), (fun h => absurd h (by decide)), (fun h => absurd h (by decide)), (fun h => absurd h (by decide))⟩⟩)
    · have e1 : a.eval (.tmp 11) = .pointer (some ⟨q3, 1, none⟩) := (hp 0 (by kernel_rfl)).1 rfl
      exact st_want (wnone rfl) (op_load e1 (ld_str ((blk cc).2.1 1 _ rfl)) ⟨_, rfl, rfl, ⟨(fun h => absurd h (by decide)), fun _ => rfl, (fun h => absurd h (by decide)), (fun h => absurd h (by decide)), (fun h => absurd h (by decide))⟩⟩)
    · exact st_want (wnone rfl) (op_move ⟨_, rfl, rfl, ⟨(fun h => absurd h (by decide)), (fun h => absurd h (by decide)), fun _ => ke0, (fun h => absurd h (by decide)), (fun h => absurd h (by decide))⟩⟩)
    · exact st_want (wnone rfl) (op_fieldAddr ke3 (fa_tok q3 2 w (by omega)) ⟨_, rfl, rfl, ⟨(fun h => absurd h (by decide)), (fun h => absurd h (by decide)), (fun h => absurd h (by decide)), fun _ => rfl, (fun h => absurd h (by decide))⟩⟩)
    · have e1 : a.eval (.tmp 15) = .pointer (some ⟨q3, 2, none⟩) := (hp 4 (by kernel_rfl)).2.2.2.1 rfl
      exact st_want (wnone rfl) (op_load e1 (ld_int ((blk cc).2.1 2 _ rfl)) ⟨_, rfl, rfl, ⟨(fun h => absurd h (by decide)), (fun h => absurd h (by decide)), (fun h => absurd h (by decide)), (fun h => absurd h (by decide)), fun _ => rfl⟩⟩)
  · intro i hi a w L hd hsz hk hp hLi hdown hs
    have hi4 : i = 3 ∨ i = 6 ∨ i = 7 ∨ i = 8 := by simp at hi; omega
    obtain ⟨g6, g8, g1, g2, g3, g4⟩ := hs
    have dn : ∀ j k, j < 9 → L j = true → (preds ((regionOf Tryz.f105 4).getD j default)).contains k = true → L k = true := fun j k hj h1 h2 => hdown j (by rw [hl]; exact hj) h1 k h2
    rcases hi4 with rfl | rfl | rfl | rfl
    · have h8 : L 8 = false := by
        cases e : L 8 with
        | false => rfl
        | true => have := dn 8 3 (by omega) e (by kernel_rfl); rw [hLi] at this; cases this
      have h6 : L 6 = false := by
        cases e : L 6 with
        | false => rfl
        | true => have := dn 6 3 (by omega) e (by kernel_rfl); rw [hLi] at this; cases this
      have e1 : a.tmps.getD 13 undef = .pointer (some ⟨r, 0, none⟩) := (hp 2 (by kernel_rfl)).2.2.2.1 rfl
      have hargs : (#[Operand.tmp 13]).map a.eval = #[.pointer (some ⟨r, 0, none⟩)] := by
        simp only [List.map_toArray, List.map_cons, List.map_nil, Act.eval]
        rw [e1]
      have hB : Below W.heap.size W w := by
        cases e7 : L 7 with
        | false => rw [g1 h8 hLi e7]; exact (Below.refl _ W).drew
        | true => rw [(g2 h8 hLi e7).2]; exact ((Below.refl _ W).drew).alloc (Nat.le_refl _) _
      refine st_want (wnone rfl) (op_callP enter_typeOf ?_)
      rw [hargs]
      refine (hC w hB).mono ?_
      intro e w' h'
      rcases hX : X with er | ⟨t, q⟩
      · rw [hX] at h'
        obtain ⟨ei, en⟩ := er
        obtain ⟨hb, h'⟩ := h'
        obtain rfl : e = _ := h'
        exact .inr ⟨_, rfl, herr a w' ei en hX hd ((But.of hB).trans hb)⟩
      · rw [hX] at h'
        obtain ⟨hb, hle, hR, v, rfl, hv⟩ := h'
        refine .inl ⟨v, rfl, v, rfl, (fun _ => ⟨(fun h => absurd h (by decide)), (fun h => absurd h (by decide)), (fun h => absurd h (by decide)), (fun h => absurd h (by decide)), (fun h => absurd h (by decide))⟩), ?_⟩
        have hu : ∀ j, j ≠ 3 → upL L 3 j = L j := fun j h => upL_other h
        refine ⟨fun h => ?_, fun h => ?_, fun _ h => ?_, fun _ h => ?_, fun _ _ h => ?_, fun _ _ h => ?_⟩
        · rw [hu 6 (by decide), h6] at h; cases h
        · rw [hu 8 (by decide), h8] at h; cases h
        · rw [upL_same] at h; cases h
        · rw [upL_same] at h; cases h
        · rw [upS_same]
          exact ⟨t, q, by first | rfl | exact hX, (But.of hB).trans hb, hR, hle, hv.toP.keep ⟨Nat.le_refl _, fun _ _ _ => rfl⟩ fun b h => Nat.le_trans hB.size h⟩
        · rw [hu 7 (by decide)] at h
          obtain ⟨h1, h2⟩ := g2 h8 hLi h
          have hsz2 : w.heap.size = W.heap.size + 1 := by rw [h2]; simp
          refine ⟨W.heap.size, by rw [upS_other (by decide)]; exact h1, Nat.le_refl _, ?_, ?_⟩
          · refine (hb.block _ (by omega) (by omega)).trans ?_
            rw [h2]
            exact (MapKept.heap_alloc W.drew _).1
          · rw [upS_same]
            exact ⟨t, q, by first | rfl | exact hX, (But.of hB).trans hb, hR, hle, hv.toP.keep ⟨Nat.le_refl _, fun _ _ _ => rfl⟩ fun b h => ⟨by omega, by omega⟩⟩
    · have h3' := (hp 3 (by kernel_rfl)).1
      have h8 : L 8 = false := by
        cases e : L 8 with
        | false => rfl
        | true => have := dn 8 6 (by omega) e (by kernel_rfl); rw [hLi] at this; cases this
      have e1 : a.tmps.getD 12 undef = .string T := (hp 1 (by kernel_rfl)).2.2.1 rfl
      have e3 : a.tmps.getD 16 undef = .int .i64 ai := (hp 5 (by kernel_rfl)).2.2.2.2.2 rfl
      have hty : ∃ k n ad m c i, slotOf (regionOf Tryz.f105 4).toArray a 3 = .agg #[.int .i64 k, .string n, .slice ad m c, .int .i64 i] := by
        cases e7 : L 7 with
        | false =>
          obtain ⟨t, q, -, -, -, -, ad, m, c, e, -⟩ := g3 h8 h3' e7
          exact ⟨_, _, _, _, _, _, e⟩
        | true =>
          obtain ⟨qb, -, -, -, t, q, -, -, -, -, ad, m, c, e, -⟩ := g4 h8 h3' e7
          exact ⟨_, _, _, _, _, _, e⟩
      obtain ⟨k, n, ad, m, c, i, e2⟩ := hty
      have e2' : a.tmps.getD 14 undef = .agg #[.int .i64 k, .string n, .slice ad m c, .int .i64 i] := e2
      refine st_want (wnone rfl) (op_bldP e1 e2' e3 ⟨_, rfl, (fun _ => ⟨(fun h => absurd h (by decide)), (fun h => absurd h (by decide)), (fun h => absurd h (by decide)), (fun h => absurd h (by decide)), (fun h => absurd h (by decide))⟩), ?_⟩)
      have hu : ∀ j, j ≠ 6 → upL L 6 j = L j := fun j h => upL_other h
      refine ⟨fun _ => ⟨k, n, ad, m, c, i, by rw [upS_other (by decide)]; exact e2, upS_same _ _ _⟩, ?_⟩
      rw [hu 8 (by decide), hu 3 (by decide), hu 7 (by decide), upS_other (by decide), upS_other (by decide)]
      exact ⟨g8, g1, g2, g3, g4⟩
    · have h8 : L 8 = false := by
        cases e : L 8 with
        | false => rfl
        | true => have := dn 8 7 (by omega) e (by kernel_rfl); rw [hLi] at this; cases this
      refine st_want (wnone rfl) (op_alP ⟨_, rfl, (fun _ => ⟨(fun h => absurd h (by decide)), (fun h => absurd h (by decide)), (fun h => absurd h (by decide)), (fun h => absurd h (by decide)), (fun h => absurd h (by decide))⟩), ?_⟩)
      have hu : ∀ j, j ≠ 7 → upL L 7 j = L j := fun j h => upL_other h
      refine ⟨fun h => ?_, fun h => ?_, fun _ _ h => ?_, fun _ h _ => ?_, fun _ _ h => ?_, fun _ h _ => ?_⟩
      · rw [hu 6 (by decide)] at h
        rw [upS_other (by decide), upS_other (by decide)]
        exact g6 h
      · rw [hu 8 (by decide), h8] at h; cases h
      · rw [upL_same] at h; cases h
      · rw [hu 3 (by decide)] at h
        have hw := g1 h8 h hLi
        rw [upS_same, hw]
        exact ⟨rfl, rfl⟩
      · rw [upL_same] at h; cases h
      · rw [hu 3 (by decide)] at h
        obtain ⟨t, q, hX, hb, hR, hle, hv⟩ := g3 h8 h hLi
        have hB : Below w.heap.size w (w.alloc (.cells #[.string ⟨#[]⟩, .int .i64 0, .string ⟨#[]⟩, .slice none 0 0, .int .i64 0, .int .i64 0] 81)) := (Below.refl _ w).alloc (Nat.le_refl _) _
        rw [upS_same, upS_other (by decide)]
        exact ⟨w.heap.size, rfl, hb.size, (MapKept.heap_alloc w _).1, t, q, hX, hb.trans (But.of hB), hR.keep hB, hle, hv.bnd.keep ⟨hB.size, fun k hk hs => hB.block k hs⟩ fun b h => ⟨h.1, by have := h.2; omega⟩⟩
    · have h3' := (hp 3 (by kernel_rfl)).1
      have h7' := (hp 7 (by kernel_rfl)).1
      have h6' := (hp 6 (by kernel_rfl)).1
      obtain ⟨k, n, ad, m, c, i, e2, e6⟩ := g6 h6'
      obtain ⟨qb, e7, hqb, hz, hc⟩ := g4 hLi h3' h7'
      have e7' : a.tmps.getD 4 undef = .pointer (some ⟨qb, 0, none⟩) := e7
      have e6' : a.tmps.getD 17 undef = .agg #[.string T, .int .i64 k, .string n, .slice ad m c, .int .i64 i, .int .i64 ai] := e6
      refine st_want (wnone rfl) (op_stP e7' e6' hz ⟨undef, rfl, (fun h => absurd (show false = true from h) (by decide)), ?_⟩)
      have hu : ∀ j, j ≠ 8 → upL L 8 j = L j := fun j h => upL_other h
      refine ⟨fun _ => ?_, fun _ => ?_, fun h => ?_, fun h => ?_, fun h => ?_, fun h => ?_⟩
      · rw [upS_other (by decide), upS_other (by decide)]
        exact ⟨k, n, ad, m, c, i, e2, e6⟩
      · rw [upS_other (by decide), upS_other (by decide)]
        exact ⟨qb, w, k, n, ad, m, c, i, e2, e7, hqb, hz, hc, rfl⟩
      · rw [upL_same] at h; cases h
      · rw [upL_same] at h; cases h
      · rw [upL_same] at h; cases h
      · rw [upL_same] at h; cases h
  · intro a w hd hsz hk hp hs
    obtain ⟨qb, W2, k, n, ad, m, c, i, e2, e7, hqb, hz, ⟨t, q, hX, hb, hR, hle, hv⟩, rfl⟩ := hs.2.1 rfl
    have e7' : a.tmps.getD 4 undef = .pointer (some ⟨qb, 0, none⟩) := e7
    have hk4 : a.tmps[4]? = some (.pointer (some ⟨qb, 0, none⟩)) := by
      have h1 : 4 < a.tmps.size := by omega
      rw [Array.getD_eq_getD_getElem?, Array.getElem?_eq_getElem h1] at e7'
      rw [Array.getElem?_eq_getElem h1]
      exact congrArg some e7'
    rw [e2] at hv
    exact hend a W2 t q qb k n ad m c i hX hd hk hk4 hsz hqb hz hb hR hle hv
end Go.Proofs.YtfkfnbehdcmgeaaGreatDoor
