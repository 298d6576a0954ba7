/- Sub; quoSmall: the quotient of two int64s. -/
import Derived.Test.YtlcfldkmojpkpaaGreatDoorS3
import Derived.Deep.QuietTactic
import Derived.BigQuiet
namespace Go.Proofs.YtlcfldkmojpkpaaGreatDoor
open Go.RowKit
attribute [local go_sem] eqnil_some eqnil_none nenil_some nenil_none

set_option maxRecDepth 100000 in
set_option maxHeartbeats 1000000 in
theorem sub_any (va vb : Value) (za zb : Int) (w : World) (hA : IsI w va za) (hB : IsI w vb zb) (hza : (za.natAbs : Int) < pw 4000) (hzb : (zb.natAbs : Int) < pw 4000) :
    Calls Tryz.prog 46 #[va, vb] w fun e w' => ∃ r, e = .returned r ∧ Below w.heap.size w w' ∧ IsI w' r (za - zb) := by
  obtain ⟨na, aa, la, ca, rfl⟩ := hA.form
  obtain ⟨nb, ab, lb, cb, rfl⟩ := hB.form
  have hzb' : ((-zb).natAbs : Int) < pw 4000 := by rw [Int.natAbs_neg]; exact hzb
  have hzb10 : (zb.natAbs : Int) < pw 10000 := Int.lt_of_lt_of_le hzb (pw_mono (by omega))
  have HZA := hide hza
  have HZB := hide hzb'
  have HZC := hide hzb10
  clear hza hzb hzb' hzb10
  obtain ⟨W1, hW0, S⟩ := setup2 w (.int .i64 na) (.slice aa la ca) (.int .i64 nb) (.slice ab lb cb)
  have HW := hide hW0
  clear hW0
  obtain ⟨hB0, gA0, gA1, gB0, gB1, gR0, gR1, gf0, gf1, hRb, hz0, hz1, hz2⟩ := S
  have HRb := hide hRb
  clear hRb
  go_enter Tryz.func46, Tryz.ntmps46
  go_wp2_with fail
  rw [unhide HW]
  have hA0 : IsI W1.drew (.agg #[.int .i64 na, .slice aa la ca]) za := hA.below hB0.drew
  have hB1 : IsI W1.drew (.agg #[.int .i64 nb, .slice ab lb cb]) zb := hB.below hB0.drew
  clear hA hB
  go_region_with (first
    | (go_at_call 37; refine (neg_any _ zb _ ?_ (unhide HZC)).mono ?_; exact hB1; rintro e w1 ⟨r1, rfl, hb1, hI1⟩; have hbT1 := hb1; have kA0 := (hbT1.cell (p := ⟨w.heap.size, 0, none⟩) hz0).trans gA0; have kA1 := (hbT1.cell (p := ⟨w.heap.size, 1, none⟩) hz0).trans gA1)
    | (go_at_call 30; refine (add_any _ _ za (-zb) _ ?_ hI1 (unhide HZA) (unhide HZB)).mono ?_; exact hA0.below hb1; rintro e w2 ⟨r2, rfl, hb2, hI2⟩; obtain ⟨n4, a4, l4, c4, rfl⟩ := hI2.form; have hbT2 := hbT1.trans (hb2.mono hbT1.size); have HI2 := hide hI2; clear hI2; have kR0 := (hbT2.cell (p := ⟨w.heap.size + 1 + 1, 0, none⟩) hz2).trans gR0; have kR1 := (hbT2.cell (p := ⟨w.heap.size + 1 + 1, 1, none⟩) hz2).trans gR1; have kf0 := (hbT2.frozen (p := ⟨w.heap.size + 1 + 1, 0, none⟩) hz2).trans gf0; have kf1 := (hbT2.frozen (p := ⟨w.heap.size + 1 + 1, 1, none⟩) hz2).trans gf1))
  all_goals
    go_wp2
    refine bodyPost_ret (v := .agg #[.int .i64 n4, .slice a4 l4 c4]) ?_ rfl ?_
    · simp [results, Tryz.results46, go_sem, kR0, kR1]
    · have hI2 := unhide HI2
      have hrb2 := (hbT2.block (w.heap.size + 1 + 1) hz2).trans (unhide HRb)
      have e9 : za + -zb = za - zb := by omega
      rw [e9] at hI2
      exact ⟨_, rfl, ret_store (hB0.drew.trans (hbT2.mono (B' := w.heap.size) (Nat.le_of_lt hz0))) hI2 (by omega) hrb2 _ _⟩

theorem quo_facts (a b : Int) (hb : b ≠ 0) : (0 ≤ a.tmod b → a.tdiv b = a / b ∧ a.tmod b = a % b) ∧ (a.tmod b < 0 → 0 < b → a.tdiv b - 1 = a / b ∧ a.tmod b + b = a % b) ∧ (a.tmod b < 0 → b < 0 → a.tdiv b + 1 = a / b ∧ a.tmod b - b = a % b) := by
  have h3 := Int.emod_nonneg a hb
  have h4 : a % b < b.natAbs := by have := Int.emod_lt a hb; omega
  have e1 := @Int.tdiv_eq_ediv a b
  have e2 := @Int.tmod_eq_emod a b
  by_cases h : 0 ≤ a ∨ b ∣ a
  · rw [if_pos h] at e1 e2
    exact ⟨fun _ => by omega, fun h9 => by omega, fun h9 => by omega⟩
  · rw [if_neg h] at e1 e2
    refine ⟨fun _ => by omega, fun _ h9 => ?_, fun _ h9 => ?_⟩
    · have : b.sign = 1 := Int.sign_eq_one_of_pos h9
      omega
    · have : b.sign = -1 := Int.sign_eq_neg_one_of_neg h9
      omega
theorem quo_range (a b : Int) (a0 : -9223372036854775808 ≤ a) (a1 : a ≤ 9223372036854775807) (b0 : -9223372036854775808 ≤ b) (b1 : b ≤ 9223372036854775807) (hb : b ≠ 0) (hb1 : b ≠ -1) : -9223372036854775808 ≤ a.tdiv b ∧ a.tdiv b ≤ 9223372036854775807 ∧ - (b.natAbs : Int) ≤ a.tmod b ∧ a.tmod b < b.natAbs ∧ (a.tmod b < 0 → 0 < b → -9223372036854775808 < a.tdiv b) ∧ (a.tmod b < 0 → b < 0 → a.tdiv b < 9223372036854775807) := by
  have h1 := Int.mul_tdiv_add_tmod a b
  have h3 := Int.emod_nonneg a hb
  have h4 : a % b < b.natAbs := by have := Int.emod_lt a hb; omega
  have e2 := @Int.tmod_eq_emod a b
  have hm : - (b.natAbs : Int) ≤ a.tmod b ∧ a.tmod b < b.natAbs := by
    by_cases h : 0 ≤ a ∨ b ∣ a
    · rw [if_pos h] at e2; omega
    · rw [if_neg h] at e2; omega
  have ht := Int.natAbs_tdiv_le_natAbs a b
  clear e2 h3 h4
  generalize a.tmod b = m at *
  generalize a.tdiv b = t at *
  refine ⟨by omega, ?_, hm.1, hm.2, fun h5 h6 => ?_, fun h5 h6 => ?_⟩
  · apply Int.not_lt.1
    intro hc
    obtain rfl : t = 9223372036854775808 := by omega
    omega
  · apply Int.not_le.1
    intro hc
    obtain rfl : t = -9223372036854775808 := by omega
    omega
  · apply Int.not_le.1
    intro hc
    have : t = 9223372036854775807 ∨ t = 9223372036854775808 := by omega
    rcases this with rfl | rfl
    · omega
    · omega

/-- Two results' cells. -/
structure SetR (w W0 : World) : Prop where
  bel : Below w.heap.size w W0
  r0 : W0.cell? ⟨w.heap.size, 0, none⟩ = some (.int .i64 0)
  r1 : W0.cell? ⟨w.heap.size, 1, none⟩ = some (.slice none 0 0)
  s0 : W0.cell? ⟨w.heap.size + 1, 0, none⟩ = some (.int .i64 0)
  s1 : W0.cell? ⟨w.heap.size + 1, 1, none⟩ = some (.slice none 0 0)
  f : ∀ o, W0.frozen? ⟨w.heap.size, o, none⟩ = false
  g : ∀ o, W0.frozen? ⟨w.heap.size + 1, o, none⟩ = false
  z0 : w.heap.size < W0.heap.size
  z1 : w.heap.size + 1 < W0.heap.size
theorem setupR (w : World) : ∃ W0, (w.alloc (Obj.cells #[.int .i64 0, .slice none 0 0] 26)).alloc (Obj.cells #[.int .i64 0, .slice none 0 0] 26) = W0 ∧ SetR w W0 := by
  have fB := box_facts (w.alloc (Obj.cells #[.int .i64 0, .slice none 0 0] 26)) (.int .i64 0) (.slice none 0 0) 26
  have fA := box_facts w (.int .i64 0) (.slice none 0 0) 26
  simp only [World.size_alloc] at fB
  refine ⟨_, rfl, ((Below.refl _ _).alloc (Nat.le_refl _) _).alloc (by simp) _, ?_, ?_, fB.1, fB.2.1, fun o => ?_, fB.2.2, by simp <;> omega, by simp⟩
  · rw [World.cell?_alloc_past _ _ _ (by simp)]; exact fA.1
  · rw [World.cell?_alloc_past _ _ _ (by simp)]; exact fA.2.1
  · rw [World.frozen?_alloc_past _ _ _ (by simp)]; exact fA.2.2 o
theorem SetR.drewN {w W0 : World} (S : SetR w W0) (q : Nat) : SetR w (W0.drewN q) :=
  ⟨⟨S.bel.os, S.bel.tape, S.bel.output, S.bel.size, S.bel.block⟩, S.r0, S.r1, S.s0, S.s1, S.f, S.g, S.z0, S.z1⟩

set_option maxRecDepth 100000 in
set_option maxHeartbeats 1000000 in
theorem quoSmall_any (a b : Int) (w : World) (a0 : -9223372036854775808 ≤ a) (a1 : a ≤ 9223372036854775807) (b0 : -9223372036854775808 ≤ b) (b1 : b ≤ 9223372036854775807) (hb : b ≠ 0) (hb1 : b ≠ -1) :
    Calls Tryz.prog 93 #[.int .i64 a, .int .i64 b] w fun e w' => e = .returned (.tuple #[.agg #[.int .i64 (a / b), .slice none 0 0], .agg #[.int .i64 (a % b), .slice none 0 0]]) ∧ Below w.heap.size w w' := by
  obtain ⟨f1, f2, f3⟩ := quo_facts a b hb
  obtain ⟨r1, r2, r3, r4, r5, r6⟩ := quo_range a b a0 a1 b0 b1 hb hb1
  have HF := hide (And.intro f1 (And.intro f2 f3))
  have HR := hide (And.intro r5 r6)
  clear f1 f2 f3 r5 r6
  obtain ⟨W0, hW0, S0⟩ := setupR w
  have HW := hide hW0
  clear hW0
  go_enter Tryz.func93, Tryz.ntmps93
  go_wp2_with fail
  rw [unhide HW]
  go_quiet (fail)
  have S1 := S0.drewN nq
  generalize W0.drewN nq = W1 at *
  clear S0 HW
  obtain ⟨hB0, gR0, gR1, gS0, gS1, gf, gg, hz0, hz1⟩ := S1
  generalize hq : a.tdiv b = q at *
  generalize hm : a.tmod b = m at *
  clear hq hm
  by_cases c1 : 0 ≤ m
  · obtain ⟨e1, e2⟩ := (unhide HF).1 c1
    have E1 := hide e1
    have E2 := hide e2
    clear e1 e2 HF HR
    go_wp2_with fail
    refine (of_any _ _).mono ?_
    rintro e w1 ⟨rfl, hb1⟩
    go_wp2_with fail
    refine (of_any _ _).mono ?_
    rintro e w2 ⟨rfl, hb2⟩
    have hbT2 := hb1.trans (hb2.mono hb1.size)
    have kR0 := (hbT2.cell (p := ⟨w.heap.size, 0, none⟩) hz0).trans gR0
    have kR1 := (hbT2.cell (p := ⟨w.heap.size, 1, none⟩) hz0).trans gR1
    have kS0 := (hbT2.cell (p := ⟨w.heap.size + 1, 0, none⟩) hz1).trans gS0
    have kS1 := (hbT2.cell (p := ⟨w.heap.size + 1, 1, none⟩) hz1).trans gS1
    have kf0 := (hbT2.frozen (p := ⟨w.heap.size, 0, none⟩) hz0).trans (gf 0)
    have kf1 := (hbT2.frozen (p := ⟨w.heap.size, 1, none⟩) hz0).trans (gf 1)
    have kg0 := (hbT2.frozen (p := ⟨w.heap.size + 1, 0, none⟩) hz1).trans (gg 0)
    have kg1 := (hbT2.frozen (p := ⟨w.heap.size + 1, 1, none⟩) hz1).trans (gg 1)
    clear gf gg
    go_wp2
    refine bodyPost_ret (v := .tuple #[.agg #[.int .i64 (q), .slice none 0 0], .agg #[.int .i64 (m), .slice none 0 0]]) ?_ rfl ?_
    · simp [results, Tryz.results93, go_sem, kR0, kR1, kS0, kS1]
    · refine ⟨by rw [unhide E1, unhide E2], ?_⟩
      exact ((((hB0.trans (hbT2.mono (B' := w.heap.size) (Nat.le_of_lt hz0))).setCell (p := ⟨w.heap.size, 0, none⟩) (Nat.le_refl _) _).setCell (p := ⟨w.heap.size, 1, none⟩) (Nat.le_refl _) _).setCell (p := ⟨w.heap.size + 1, 0, none⟩) (Nat.le_succ _) _).setCell (p := ⟨w.heap.size + 1, 1, none⟩) (Nat.le_succ _) _

  · by_cases c2 : 0 < b
    · obtain ⟨e1, e2⟩ := (unhide HF).2.1 (by omega) c2
      have r5 := (unhide HR).1 (by omega) c2
      have E1 := hide e1
      have E2 := hide e2
      clear e1 e2 HF HR
      have cd : decide (0 ≤ m) = false := by simp; omega
      go_wp2_with fail
      refine (of_any _ _).mono ?_
      rintro e w1 ⟨rfl, hb1⟩
      go_wp2_with fail
      refine (of_any _ _).mono ?_
      rintro e w2 ⟨rfl, hb2⟩
      have hbT2 := hb1.trans (hb2.mono hb1.size)
      have kR0 := (hbT2.cell (p := ⟨w.heap.size, 0, none⟩) hz0).trans gR0
      have kR1 := (hbT2.cell (p := ⟨w.heap.size, 1, none⟩) hz0).trans gR1
      have kS0 := (hbT2.cell (p := ⟨w.heap.size + 1, 0, none⟩) hz1).trans gS0
      have kS1 := (hbT2.cell (p := ⟨w.heap.size + 1, 1, none⟩) hz1).trans gS1
      have kf0 := (hbT2.frozen (p := ⟨w.heap.size, 0, none⟩) hz0).trans (gf 0)
      have kf1 := (hbT2.frozen (p := ⟨w.heap.size, 1, none⟩) hz0).trans (gf 1)
      have kg0 := (hbT2.frozen (p := ⟨w.heap.size + 1, 0, none⟩) hz1).trans (gg 0)
      have kg1 := (hbT2.frozen (p := ⟨w.heap.size + 1, 1, none⟩) hz1).trans (gg 1)
      clear gf gg
      go_wp2
      refine bodyPost_ret (v := .tuple #[.agg #[.int .i64 (q - 1), .slice none 0 0], .agg #[.int .i64 (m + b), .slice none 0 0]]) ?_ rfl ?_
      · simp [results, Tryz.results93, go_sem, kR0, kR1, kS0, kS1]
      · refine ⟨by rw [unhide E1, unhide E2], ?_⟩
        exact ((((hB0.trans (hbT2.mono (B' := w.heap.size) (Nat.le_of_lt hz0))).setCell (p := ⟨w.heap.size, 0, none⟩) (Nat.le_refl _) _).setCell (p := ⟨w.heap.size, 1, none⟩) (Nat.le_refl _) _).setCell (p := ⟨w.heap.size + 1, 0, none⟩) (Nat.le_succ _) _).setCell (p := ⟨w.heap.size + 1, 1, none⟩) (Nat.le_succ _) _

    · obtain ⟨e1, e2⟩ := (unhide HF).2.2 (by omega) (by omega)
      have r6 := (unhide HR).2 (by omega) (by omega)
      have E1 := hide e1
      have E2 := hide e2
      clear e1 e2 HF HR
      have cd : decide (0 ≤ m) = false := by simp; omega
      have cd2 : decide (0 < b) = false := by simp; omega
      go_wp2_with fail
      refine (of_any _ _).mono ?_
      rintro e w1 ⟨rfl, hb1⟩
      go_wp2_with fail
      refine (of_any _ _).mono ?_
      rintro e w2 ⟨rfl, hb2⟩
      have hbT2 := hb1.trans (hb2.mono hb1.size)
      have kR0 := (hbT2.cell (p := ⟨w.heap.size, 0, none⟩) hz0).trans gR0
      have kR1 := (hbT2.cell (p := ⟨w.heap.size, 1, none⟩) hz0).trans gR1
      have kS0 := (hbT2.cell (p := ⟨w.heap.size + 1, 0, none⟩) hz1).trans gS0
      have kS1 := (hbT2.cell (p := ⟨w.heap.size + 1, 1, none⟩) hz1).trans gS1
      have kf0 := (hbT2.frozen (p := ⟨w.heap.size, 0, none⟩) hz0).trans (gf 0)
      have kf1 := (hbT2.frozen (p := ⟨w.heap.size, 1, none⟩) hz0).trans (gf 1)
      have kg0 := (hbT2.frozen (p := ⟨w.heap.size + 1, 0, none⟩) hz1).trans (gg 0)
      have kg1 := (hbT2.frozen (p := ⟨w.heap.size + 1, 1, none⟩) hz1).trans (gg 1)
      clear gf gg
      go_wp2
      refine bodyPost_ret (v := .tuple #[.agg #[.int .i64 (q + 1), .slice none 0 0], .agg #[.int .i64 (m - b), .slice none 0 0]]) ?_ rfl ?_
      · simp [results, Tryz.results93, go_sem, kR0, kR1, kS0, kS1]
      · refine ⟨by rw [unhide E1, unhide E2], ?_⟩
        exact ((((hB0.trans (hbT2.mono (B' := w.heap.size) (Nat.le_of_lt hz0))).setCell (p := ⟨w.heap.size, 0, none⟩) (Nat.le_refl _) _).setCell (p := ⟨w.heap.size, 1, none⟩) (Nat.le_refl _) _).setCell (p := ⟨w.heap.size + 1, 0, none⟩) (Nat.le_succ _) _).setCell (p := ⟨w.heap.size + 1, 1, none⟩) (Nat.le_succ _) _

end Go.Proofs.YtlcfldkmojpkpaaGreatDoor
