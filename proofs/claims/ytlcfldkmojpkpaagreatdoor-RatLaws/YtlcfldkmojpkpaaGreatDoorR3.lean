/- Mul of small numbers whose product is small. -/
import Derived.Test.YtlcfldkmojpkpaaGreatDoorR1
import Derived.Deep.QuietTactic
import Derived.BigQuiet
namespace Go.Proofs.YtlcfldkmojpkpaaGreatDoor
open Go.RowKit
attribute [local go_sem] eqnil_some eqnil_none nenil_some nenil_none
set_option maxRecDepth 100000 in
set_option maxHeartbeats 4000000 in
theorem mul_yes (za zb : Int) (w : World) (h1 : -9223372036854775808 ≤ za) (h2 : za ≤ 9223372036854775807) (h3 : -9223372036854775808 ≤ zb) (h4 : zb ≤ 9223372036854775807) (hlo : if (!(decide (za < 0) == decide (zb < 0))) then (za.natAbs : Int) * zb.natAbs ≤ 9223372036854775808 else (za.natAbs : Int) * zb.natAbs < 9223372036854775808) :
    Calls Tryz.prog 50 #[.agg #[.int .i64 za, .slice none 0 0], .agg #[.int .i64 zb, .slice none 0 0]] w fun e w' => ∃ r, e = .returned r ∧ Below w.heap.size w w' ∧ IsI w' r (za * zb) := by
  have hA : IsI w (.agg #[.int .i64 za, .slice none 0 0]) za := .inl ⟨rfl, h1, h2⟩
  have hB : IsI w (.agg #[.int .i64 zb, .slice none 0 0]) zb := .inl ⟨rfl, h3, h4⟩
  have HZA := hide (small_pw h1 h2)
  have HZB := hide (small_pw h3 h4)
  have HLO := hide hlo
  clear hlo
  obtain ⟨W0, hW0, S⟩ := setup2 w (.int .i64 za) (.slice none 0 0) (.int .i64 zb) (.slice none 0 0)
  have HW := hide hW0
  clear hW0
  have gA0 := S.a0
  have gB0 := S.b0
  go_enter Tryz.func50, Tryz.ntmps50
  go_wp2
  rw [unhide HW]
  go_quiet (first | (go_at_call 74; exact Calls.quiet_of_same (unsigned_any _ _ (by omega) (by omega))) | (go_at_call 73; exact Calls.quiet_of_same (mul64_any _ _ _ (by omega) (by omega) (by omega) (by omega))))
  clear gA0 gB0
  have S1 := S.drewN nq
  generalize W0.drewN nq = W1 at *
  clear S
  have S := S1
  clear S1 HW
  generalize hlo9 : (za.natAbs : Int) * zb.natAbs % 18446744073709551616 = lo
  generalize hhi9 : (za.natAbs : Int) * zb.natAbs / 18446744073709551616 = hi
  generalize hbl9 : (!(decide (za < 0) == decide (zb < 0))) = bl
  have HL9 := hide hlo9
  have HH9 := hide hhi9
  have HB9 := hide hbl9
  clear hlo9 hhi9 hbl9
  have HBL := hide (unhide HB9).symm
  have hlo0 : 0 ≤ lo := by have := unhide HL9; omega
  have hlo1 : lo < 18446744073709551616 := by have := unhide HL9; omega
  have hsg : if bl then lo ≤ 9223372036854775808 else lo < 9223372036854775808 := by
    have h8 := unhide HLO
    have h9 := unhide HL9
    have h7 : 0 ≤ (za.natAbs : Int) * zb.natAbs := Int.mul_nonneg (by omega) (by omega)
    rw [unhide HB9] at h8
    cases bl
    · simp at h8 ⊢; omega
    · simp at h8 ⊢; omega
  have hprod : Hid (lo = (za.natAbs : Int) * zb.natAbs) := by
    have h8 := unhide HLO
    have h9 := unhide HL9
    have h7 : 0 ≤ (za.natAbs : Int) * zb.natAbs := Int.mul_nonneg (by omega) (by omega)
    rw [unhide HB9] at h8
    show _ = _
    cases bl
    · simp at h8; omega
    · simp at h8; omega
  have hhi0 : (hi == 0) = true := by
    have h8 := unhide HH9
    have h9 := unhide hprod
    simp
    omega
  have hs := signed_yes bl lo W1 hlo0 hsg
  generalize hn9 : (if bl = true then -lo else lo) = n9 at hs
  have HN9 := hide hn9
  have HS := hide hs
  clear hs hn9 hsg
  obtain ⟨hB0, gA0, gA1, gB0, gB1, gR0, gR1, gf0, gf1, hRb, hz0, hz1, hz2⟩ := S
  have HRb := hide hRb
  clear hRb
  go_wp2_with fail
  refine (unhide HS).mono ?_
  rintro e w1 ⟨rfl, hw1⟩
  subst hw1
  go_wp2_with fail
  refine (of_any _ _).mono ?_
  rintro e w2 ⟨rfl, hb2⟩
  have kR0 := (hb2.cell (p := ⟨w.heap.size + 1 + 1, 0, none⟩) hz2).trans gR0
  have kR1 := (hb2.cell (p := ⟨w.heap.size + 1 + 1, 1, none⟩) hz2).trans gR1
  have kf0 := (hb2.frozen (p := ⟨w.heap.size + 1 + 1, 0, none⟩) hz2).trans gf0
  have kf1 := (hb2.frozen (p := ⟨w.heap.size + 1 + 1, 1, none⟩) hz2).trans gf1
  go_wp2
  refine bodyPost_ret (v := .agg #[.int .i64 n9, .slice none 0 0]) ?_ rfl ?_
  · simp [results, Tryz.results50, go_sem, kR0, kR1]
  · have hrb2 := (hb2.block (w.heap.size + 1 + 1) hz2).trans (unhide HRb)
    have e9 : n9 = za * zb := by
      have h8 := mul_sign (xs := [za.natAbs]) (ys := [zb.natAbs]) (zs := [lo]) (unhide HBL) (by simp [val]) (by simp [val]) (by simp [val, unhide hprod])
      rw [← unhide HN9, ← h8]
      simp [val]
    have hbd : -9223372036854775808 ≤ za * zb ∧ za * zb ≤ 9223372036854775807 := by
      have h8 := unhide HLO
      have h9 := unhide hprod
      have h7 := unhide HN9
      rw [unhide HB9] at h8
      rw [← e9, ← h7]
      cases bl
      · simp at h8 ⊢; omega
      · simp at h8 ⊢; omega
    exact ⟨_, rfl, ret_store (hB0.trans (hb2.mono (B' := w.heap.size) (Nat.le_of_lt hz0))) (.inl ⟨by rw [e9], hbd.1, hbd.2⟩) (by omega) hrb2 _ _⟩

end Go.Proofs.YtlcfldkmojpkpaaGreatDoor
