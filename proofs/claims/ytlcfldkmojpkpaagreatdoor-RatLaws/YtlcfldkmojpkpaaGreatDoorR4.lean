/- Mul of small numbers whose product is beyond 64 bits. -/
import Derived.Test.YtlcfldkmojpkpaaGreatDoorR1
import Derived.Deep.QuietTactic
import Derived.BigQuiet
namespace Go.Proofs.YtlcfldkmojpkpaaGreatDoor
open Go.RowKit
attribute [local go_sem] eqnil_some eqnil_none nenil_some nenil_none
set_option maxRecDepth 100000 in
set_option maxHeartbeats 4000000 in
theorem mul_hi (za zb : Int) (w : World) (h1 : -9223372036854775808 ≤ za) (h2 : za ≤ 9223372036854775807) (h3 : -9223372036854775808 ≤ zb) (h4 : zb ≤ 9223372036854775807) (hhi : 18446744073709551616 ≤ (za.natAbs : Int) * zb.natAbs) (hlo : if (!(decide (za < 0) == decide (zb < 0))) then (za.natAbs : Int) * zb.natAbs % 18446744073709551616 ≤ 9223372036854775808 else (za.natAbs : Int) * zb.natAbs % 18446744073709551616 < 9223372036854775808) :
    Calls Tryz.prog 50 #[.agg #[.int .i64 za, .slice none 0 0], .agg #[.int .i64 zb, .slice none 0 0]] w fun e w' => ∃ r, e = .returned r ∧ Below w.heap.size w w' ∧ IsI w' r (za * zb) := by
  have hA : IsI w (.agg #[.int .i64 za, .slice none 0 0]) za := .inl ⟨rfl, h1, h2⟩
  have hB : IsI w (.agg #[.int .i64 zb, .slice none 0 0]) zb := .inl ⟨rfl, h3, h4⟩
  have HZA := hide (small_pw h1 h2)
  have HZB := hide (small_pw h3 h4)
  have HLO := hide hlo
  clear hlo
  have HHI := hide hhi
  clear hhi
  obtain ⟨W0, hW0, S⟩ := setup2 w (.int .i64 za) (.slice none 0 0) (.int .i64 zb) (.slice none 0 0)
  have HW := hide hW0
  clear hW0
  have gA0 := S.a0
  have gB0 := S.b0
  go_enter Tryz.func50, Tryz.ntmps50
  go_wp2
  rw [unhide HW]
  go_quiet (first | (go_at_call 74; exact Calls.quiet_of_same (unsigned_any _ _ (by omega) (by omega))) | (go_at_call 73; exact Calls.quiet_of_same (mul64_any _ _ _ (by omega) (by omega) (by omega) (by omega))))
  clear gA0 gB0
  have S1 := S.drewN nq
  generalize W0.drewN nq = W1 at *
  clear S
  have S := S1
  clear S1 HW
  generalize hlo9 : (za.natAbs : Int) * zb.natAbs % 18446744073709551616 = lo
  generalize hhi9 : (za.natAbs : Int) * zb.natAbs / 18446744073709551616 = hi
  generalize hbl9 : (!(decide (za < 0) == decide (zb < 0))) = bl
  have HL9 := hide hlo9
  have HH9 := hide hhi9
  have HB9 := hide hbl9
  clear hlo9 hhi9 hbl9
  have HBL := hide (unhide HB9).symm
  have hlo0 : 0 ≤ lo := by have := unhide HL9; omega
  have hlo1 : lo < 18446744073709551616 := by have := unhide HL9; omega
  have hsg : if bl then lo ≤ 9223372036854775808 else lo < 9223372036854775808 := by
    have h8 := unhide HLO
    rw [unhide HB9, unhide HL9] at h8
    exact h8
  have hhi0 : (hi == 0) = false := by
    have h8 := unhide HH9
    have h9 := unhide HHI
    simp
    omega
  have hs := signed_yes bl lo W1 hlo0 hsg
  generalize (if bl = true then -lo else lo) = n9 at hs
  have HS := hide hs
  clear hs hsg
  go_wp2_with fail
  refine (unhide HS).mono ?_
  rintro e w1 ⟨rfl, hw1⟩
  have hw2 := hw1.symm
  subst hw2
  go_wp2
  obtain ⟨hB0, gA0, gA1, gB0, gB1, gR0, gR1, gf0, gf1, hRb, hz0, hz1, hz2⟩ := S
  have HRb := hide hRb
  have hA0 : IsI W1.drew (.agg #[.int .i64 za, .slice none 0 0]) za := hA.below hB0.drew
  have hB1 : IsI W1.drew (.agg #[.int .i64 zb, .slice none 0 0]) zb := hB.below hB0.drew
  clear hRb hA hB
  go_region_with (first
    | (go_at_call_of 57 (Value.agg #[Value.int IntKind.i64 za, Value.slice none 0 0]); refine (magnitude_any _ za _ ?_).mono ?_; exact hA0; rintro e w1 ⟨m1, xs, rfl, hb1, hm1, hd1, hn1, hv1⟩; have HV1 := hide hv1; clear hv1; have hbT1 := hb1; have kB01 := (hbT1.cell (p := ⟨w.heap.size + 1, 0, none⟩) hz1).trans gB0; have kB11 := (hbT1.cell (p := ⟨w.heap.size + 1, 1, none⟩) hz1).trans gB1)
    | (go_at_call_of 57 (Value.agg #[Value.int IntKind.i64 zb, Value.slice none 0 0]); refine (magnitude_any _ zb _ ?_).mono ?_; exact hB1.below hb1; rintro e w2 ⟨m2, ys, rfl, hb2, hm2, hd2, hn2, hv2⟩; have HV2 := hide hv2; clear hv2; have hbT2 := hbT1.trans (hb2.mono hbT1.size))
    | (go_at_call 76; refine (mulMag_any _ _ xs ys _ ?_ hm2 hd1 hd2 ?_ ?_).mono ?_; exact hm1.below hb2; exact lenk hd1 hn1 (unhide HV1) (unhide HZA); exact lenk hd2 hn2 (unhide HV2) (unhide HZB); rintro e w3 ⟨m3, zs, rfl, hb3, hm3, hd3, hn3, hv3, hl3⟩; have HV3 := hide hv3; clear hv3; have hbT3 := hbT2.trans (hb3.mono hbT2.size))
    | (go_at_call 58; refine (ofMag_any _ _ zs _ hm3 hd3 hn3 ?_).mono ?_; exact Nat.le_trans hl3 (lenk2 hd1 hn1 (unhide HV1) (unhide HZA) hd2 hn2 (unhide HV2) (unhide HZB)); rintro e w4 ⟨r4, rfl, hb4, hI4⟩; obtain ⟨n4, a4, l4, c4, rfl⟩ := hI4.form; have hbT4 := hbT3.trans (hb4.mono hbT3.size); have HI4 := hide hI4; clear hI4; have kR0 := (hbT4.cell (p := ⟨w.heap.size + 1 + 1, 0, none⟩) hz2).trans gR0; have kR1 := (hbT4.cell (p := ⟨w.heap.size + 1 + 1, 1, none⟩) hz2).trans gR1; have kf0 := (hbT4.frozen (p := ⟨w.heap.size + 1 + 1, 0, none⟩) hz2).trans gf0; have kf1 := (hbT4.frozen (p := ⟨w.heap.size + 1 + 1, 1, none⟩) hz2).trans gf1))
  all_goals
    go_wp2
    refine bodyPost_ret (v := .agg #[.int .i64 n4, .slice a4 l4 c4]) ?_ rfl ?_
    · simp [results, Tryz.results50, go_sem, kR0, kR1]
    · have hI4 := unhide HI4
      have hrb4 := (hbT4.block (w.heap.size + 1 + 1) hz2).trans (unhide HRb)
      have e9 := mul_sign (unhide HBL) (unhide HV1) (unhide HV2) (unhide HV3)
      rw [e9] at hI4
      exact ⟨_, rfl, ret_store (hB0.drew.trans (hbT4.mono (B' := w.heap.size) (Nat.le_of_lt hz0))) hI4 (by omega) hrb4 _ _⟩

end Go.Proofs.YtlcfldkmojpkpaaGreatDoor
