/- Quo. -/
import Derived.Test.YtlcfldkmojpkpaaGreatDoorW2
import Derived.Test.YtlcfldkmojpkpaaGreatDoorW3
namespace Go.Proofs.YtlcfldkmojpkpaaGreatDoor
open Go.RowKit
attribute [local go_sem] eqnil_some eqnil_none nenil_some nenil_none

set_option maxRecDepth 100000 in
set_option maxHeartbeats 2000000 in
theorem quo_zero (na : Int) (aa : Option Addr) (la ca : Nat) (za : Int) (w : World) (hA : IsI w (.agg #[.int .i64 na, .slice aa la ca]) za) (hza : (za.natAbs : Int) < pw 4000) :
    Calls Tryz.prog 72 #[.agg #[.int .i64 na, .slice aa la ca], .agg #[.int .i64 0, .slice none 0 0]] w fun e w' => ∃ r1 r2, e = .returned (.tuple #[r1, r2]) ∧ Below w.heap.size w w' ∧ IsI w' r1 0 ∧ IsI w' r2 za := by
  have HZA := hide (Int.lt_of_lt_of_le hza (pw_mono (show 4000 ≤ 10000 by omega)))
  clear hza
  have hB : IsI w (.agg #[.int .i64 0, .slice none 0 0]) 0 := .inl ⟨rfl, by omega, by omega⟩
  have hs0 : sgn 0 = 0 := by decide
  obtain ⟨W1, hW0, S0⟩ := setup4 w (.int .i64 na) (.slice aa la ca) (.int .i64 0) (.slice none 0 0)
  have HW := hide hW0
  clear hW0
  have gA0 := S0.a0
  have gA1 := S0.a1
  have gB0 := S0.b0
  have gB1 := S0.b1
  have gR0 := S0.r0
  have gR1 := S0.r1
  have gS0 := S0.s0
  have gS1 := S0.s1
  have gf0 := S0.rf 0
  have gf1 := S0.rf 1
  have gg0 := S0.sf 0
  have gg1 := S0.sf 1
  go_enter Tryz.func72, Tryz.ntmps72
  go_wp2_with fail
  rw [unhide HW]
  refine (sign_any _ 0 _ (hB.below S0.bel)).mono ?_
  rintro e w1 ⟨rfl, hb1⟩
  rw [hs0]
  have S1 := S0.below hb1
  clear gA0 gA1 gB0 gB1 gR0 gR1 gS0 gS1 gf0 gf1 gg0 gg1
  have gA0 := S1.a0
  have gA1 := S1.a1
  have gB0 := S1.b0
  have gB1 := S1.b1
  have gR0 := S1.r0
  have gR1 := S1.r1
  have gS0 := S1.s0
  have gS1 := S1.s1
  have gf0 := S1.rf 0
  have gf1 := S1.rf 1
  have gg0 := S1.sf 0
  have gg1 := S1.sf 1
  go_wp2_with fail
  refine (cloneI_any _ za _ (hA.below S1.bel) (unhide HZA)).mono ?_
  rintro e w2 ⟨r2, rfl, hb2, hI2⟩
  obtain ⟨n2, a2, l2, c2, rfl⟩ := hI2.form
  have HI2 := hide hI2
  clear hI2
  have S2 := S1.below hb2
  clear gA0 gA1 gB0 gB1 gR0 gR1 gS0 gS1 gf0 gf1 gg0 gg1
  have gA0 := S2.a0
  have gA1 := S2.a1
  have gB0 := S2.b0
  have gB1 := S2.b1
  have gR0 := S2.r0
  have gR1 := S2.r1
  have gS0 := S2.s0
  have gS1 := S2.s1
  have gf0 := S2.rf 0
  have gf1 := S2.rf 1
  have gg0 := S2.sf 0
  have gg1 := S2.sf 1
  go_wp2
  refine bodyPost_ret (v := .tuple #[.agg #[.int .i64 0, .slice none 0 0], .agg #[.int .i64 n2, .slice a2 l2 c2]]) ?_ rfl ?_
  · simp [results, Tryz.results72, go_sem, gR0, gR1, gS0, gS1]
  · have hst := ret_store2 S2 (y1 := 0) (.inl ⟨rfl, by omega, by omega⟩) (unhide HI2) (.int .i64 0) (.slice none 0 0) (.int .i64 n2) (.slice a2 l2 c2)
    exact ⟨_, _, rfl, hst.1, hst.2.1, hst.2.2⟩

theorem mod_range {a b : Int} (b0 : -9223372036854775808 ≤ b) (b1 : b ≤ 9223372036854775807) (hb : b ≠ 0) : -9223372036854775808 ≤ a % b ∧ a % b ≤ 9223372036854775807 := by
  have h3 := Int.emod_nonneg a hb
  have h4 := Int.emod_lt a hb
  omega
theorem div_range {a b : Int} (a0 : -9223372036854775808 ≤ a) (a1 : a ≤ 9223372036854775807) (b0 : -9223372036854775808 ≤ b) (b1 : b ≤ 9223372036854775807) (hb : b ≠ 0) (hb1 : b ≠ -1) : -9223372036854775808 ≤ a / b ∧ a / b ≤ 9223372036854775807 := by
  obtain ⟨f1, f2, f3⟩ := quo_facts a b hb
  obtain ⟨r1, r2, r3, r4, r5, r6⟩ := quo_range a b a0 a1 b0 b1 hb hb1
  by_cases c1 : 0 ≤ a.tmod b
  · have := f1 c1; omega
  · by_cases c2 : 0 < b
    · have := f2 (by omega) c2
      have := r5 (by omega) c2
      omega
    · have := f3 (by omega) (by omega)
      have := r6 (by omega) (by omega)
      omega

set_option maxRecDepth 100000 in
set_option maxHeartbeats 2000000 in
theorem quo_small (za zb : Int) (w : World) (a0 : -9223372036854775808 ≤ za) (a1 : za ≤ 9223372036854775807) (b0 : -9223372036854775808 ≤ zb) (b1 : zb ≤ 9223372036854775807) (hb : zb ≠ 0) (hb1 : zb ≠ -1) :
    Calls Tryz.prog 72 #[.agg #[.int .i64 za, .slice none 0 0], .agg #[.int .i64 zb, .slice none 0 0]] w fun e w' => ∃ r1 r2, e = .returned (.tuple #[r1, r2]) ∧ Below w.heap.size w w' ∧ IsI w' r1 (za / zb) ∧ IsI w' r2 (za % zb) := by
  have hB : IsI w (.agg #[.int .i64 zb, .slice none 0 0]) zb := .inl ⟨rfl, b0, b1⟩
  have hs0 := sgn_beq hb
  have hne : (zb != -1) = true := by simpa using hb1
  have HB := hide (And.intro hb hb1)
  clear hb hb1
  obtain ⟨W1, hW0, S0⟩ := setup4 w (.int .i64 za) (.slice none 0 0) (.int .i64 zb) (.slice none 0 0)
  have HW := hide hW0
  clear hW0
  have gA0 := S0.a0
  have gA1 := S0.a1
  have gB0 := S0.b0
  have gB1 := S0.b1
  have gR0 := S0.r0
  have gR1 := S0.r1
  have gS0 := S0.s0
  have gS1 := S0.s1
  have gf0 := S0.rf 0
  have gf1 := S0.rf 1
  have gg0 := S0.sf 0
  have gg1 := S0.sf 1
  go_enter Tryz.func72, Tryz.ntmps72
  go_wp2_with fail
  rw [unhide HW]
  refine (sign_any _ zb _ (hB.below S0.bel)).mono ?_
  rintro e w1 ⟨rfl, hb1⟩
  have S1 := S0.below hb1
  clear gA0 gA1 gB0 gB1 gR0 gR1 gS0 gS1 gf0 gf1 gg0 gg1
  have gA0 := S1.a0
  have gA1 := S1.a1
  have gB0 := S1.b0
  have gB1 := S1.b1
  have gR0 := S1.r0
  have gR1 := S1.r1
  have gS0 := S1.s0
  have gS1 := S1.s1
  have gf0 := S1.rf 0
  have gf1 := S1.rf 1
  have gg0 := S1.sf 0
  have gg1 := S1.sf 1
  go_wp2_with fail
  refine (quoSmall_any za zb _ a0 a1 b0 b1 (unhide HB).1 (unhide HB).2).mono ?_
  rintro e w2 ⟨rfl, hb2⟩
  have S2 := S1.below hb2
  have hd := div_range a0 a1 b0 b1 (unhide HB).1 (unhide HB).2
  have hm := mod_range (a := za) b0 b1 (unhide HB).1
  have HD := hide (And.intro hd hm)
  clear hd hm
  clear gA0 gA1 gB0 gB1 gR0 gR1 gS0 gS1 gf0 gf1 gg0 gg1
  have gA0 := S2.a0
  have gA1 := S2.a1
  have gB0 := S2.b0
  have gB1 := S2.b1
  have gR0 := S2.r0
  have gR1 := S2.r1
  have gS0 := S2.s0
  have gS1 := S2.s1
  have gf0 := S2.rf 0
  have gf1 := S2.rf 1
  have gg0 := S2.sf 0
  have gg1 := S2.sf 1
  go_wp2
  refine bodyPost_ret (v := .tuple #[.agg #[.int .i64 (za / zb), .slice none 0 0], .agg #[.int .i64 (za % zb), .slice none 0 0]]) ?_ rfl ?_
  · simp [results, Tryz.results72, go_sem, gR0, gR1, gS0, gS1]
  · obtain ⟨⟨d1, d2⟩, ⟨m1, m2⟩⟩ := unhide HD
    have hst := ret_store2 S2 (.inl ⟨rfl, d1, d2⟩) (.inl ⟨rfl, m1, m2⟩) (.int .i64 (za / zb)) (.slice none 0 0) (.int .i64 (za % zb)) (.slice none 0 0)
    exact ⟨_, _, rfl, hst.1, hst.2.1, hst.2.2⟩

/-- Quo: the quotient, and what is left, which is never below 0; of 0: 0, and the number. -/
theorem quo_any (hql : QuoLongSaid) (va vb : Value) (za zb : Int) (w : World) (hA : IsI w va za) (hB : IsI w vb zb) (hza : (za.natAbs : Int) < pw 4000) (hzb : (zb.natAbs : Int) < pw 4000) :
    Calls Tryz.prog 72 #[va, vb] w fun e w' => ∃ r1 r2, e = .returned (.tuple #[r1, r2]) ∧ Below w.heap.size w w' ∧ IsI w' r1 (za / zb) ∧ IsI w' r2 (za % zb) := by
  have hA' := hA
  have hB' := hB
  by_cases h0 : zb = 0
  · subst h0
    obtain ⟨na, aa, la, ca, rfl⟩ := hA.form
    rcases hB with ⟨rfl, _⟩ | ⟨b, off, cap, xs, rfl, _, _, _, _, _, _, h7⟩
    · rw [Int.ediv_zero, Int.emod_zero]
      exact quo_zero na aa la ca za w hA' hza
    · omega
  · rcases hA with ⟨rfl, h1, h2⟩ | ⟨b, off, cap, xs, rfl, _⟩
    · rcases hB with ⟨rfl, h3, h4⟩ | ⟨b, off, cap, xs, rfl, _⟩
      · by_cases hm : zb = -1
        · exact quo_one hql za zb za zb w hA' hB' hza hzb h0 hm
        · exact quo_small za zb w h1 h2 h3 h4 h0 hm
      · exact quo_big2 hql _ _ _ _ _ za zb w hA' hB' hza hzb h0
    · obtain ⟨nb, ab, lb, cb, rfl⟩ := hB.form
      exact quo_big1 hql _ _ _ _ _ _ _ _ za zb w hA' hB' hza hzb h0

end Go.Proofs.YtlcfldkmojpkpaaGreatDoor
