/- Mul; abs. -/
import Derived.Test.YtlcfldkmojpkpaaGreatDoorR2
import Derived.Test.YtlcfldkmojpkpaaGreatDoorR3
import Derived.Test.YtlcfldkmojpkpaaGreatDoorR4
import Derived.Test.YtlcfldkmojpkpaaGreatDoorR5
namespace Go.Proofs.YtlcfldkmojpkpaaGreatDoor
open Go.RowKit

/-- Mul. -/
theorem mul_any (va vb : Value) (za zb : Int) (w : World) (hA : IsI w va za) (hB : IsI w vb zb) (hza : (za.natAbs : Int) < pw 4000) (hzb : (zb.natAbs : Int) < pw 4000) :
    Calls Tryz.prog 50 #[va, vb] w fun e w' => ∃ r, e = .returned r ∧ Below w.heap.size w w' ∧ IsI w' r (za * zb) := by
  have hA' := hA
  have hB' := hB
  rcases hA with ⟨rfl, h1, h2⟩ | ⟨b, off, cap, xs, rfl, _⟩
  · rcases hB with ⟨rfl, h3, h4⟩ | ⟨b, off, cap, xs, rfl, _⟩
    · by_cases hy : if (!(decide (za < 0) == decide (zb < 0))) then (za.natAbs : Int) * zb.natAbs ≤ 9223372036854775808 else (za.natAbs : Int) * zb.natAbs < 9223372036854775808
      · exact mul_yes za zb w h1 h2 h3 h4 hy
      · by_cases hl : if (!(decide (za < 0) == decide (zb < 0))) then (za.natAbs : Int) * zb.natAbs % 18446744073709551616 ≤ 9223372036854775808 else (za.natAbs : Int) * zb.natAbs % 18446744073709551616 < 9223372036854775808
        · refine mul_hi za zb w h1 h2 h3 h4 ?_ hl
          cases hb : (!(decide (za < 0) == decide (zb < 0)))
          · rw [hb] at hy hl; simp at hy hl; omega
          · rw [hb] at hy hl; simp at hy hl; omega
        · refine mul_no za zb w h1 h2 h3 h4 ?_
          cases hb : (!(decide (za < 0) == decide (zb < 0)))
          · rw [hb] at hl; simp at hl ⊢; omega
          · rw [hb] at hl; simp at hl ⊢; omega
    · exact mul_big2 _ _ _ _ _ za zb w hA' hB' hza hzb
  · obtain ⟨nb, ab, lb, cb, rfl⟩ := hB.form
    exact mul_big1 _ _ _ _ _ _ _ _ za zb w hA' hB' hza hzb

set_option maxRecDepth 100000 in
set_option maxHeartbeats 1000000 in
theorem abs_any (v : Value) (z : Int) (w : World) (h : IsI w v z) (hz : (z.natAbs : Int) < pw 4000) :
    Calls Tryz.prog 71 #[v] w fun e w' => ∃ r, e = .returned r ∧ Below w.heap.size w w' ∧ IsI w' r z.natAbs := by
  obtain ⟨n, a, l, c, rfl⟩ := h.form
  have hs := h.below0
  have HZ := hide (Int.lt_of_lt_of_le hz (pw_mono (show 4000 ≤ 10000 by omega)))
  clear hz
  obtain ⟨W0, hW0, S⟩ := setup1 w (.int .i64 n) (.slice a l c)
  obtain ⟨hB0, gA0, gA1, gR0, gR1, gf0, gf1, hRb, hz0, hz1⟩ := S
  have HW := hide hW0
  have HRb := hide hRb
  have HS := hide hs
  clear hW0 hRb hs
  have hI0 : IsI W0 (.agg #[.int .i64 n, .slice a l c]) z := h.below hB0
  by_cases hn : n < 0
  · have hneg : Hid (z < 0) := by have := unhide HS; show z < 0; rw [← this]; exact hn
    go_enter Tryz.func71, Tryz.ntmps71
    go_wp2_with fail
    rw [unhide HW]
    refine (neg_any _ z _ hI0 (unhide HZ)).mono ?_
    rintro e w1 ⟨r, rfl, hb1, hI1⟩
    obtain ⟨n3, a3, l3, c3, rfl⟩ := hI1.form
    have HI := hide hI1
    clear hI1
    have kR0 := (hb1.cell (p := ⟨w.heap.size + 1, 0, none⟩) hz1).trans gR0
    have kR1 := (hb1.cell (p := ⟨w.heap.size + 1, 1, none⟩) hz1).trans gR1
    have kf0 := (hb1.frozen (p := ⟨w.heap.size + 1, 0, none⟩) hz1).trans gf0
    have kf1 := (hb1.frozen (p := ⟨w.heap.size + 1, 1, none⟩) hz1).trans gf1
    go_wp2
    refine bodyPost_ret (v := .agg #[.int .i64 n3, .slice a3 l3 c3]) ?_ rfl ?_
    · simp [results, Tryz.results71, go_sem, kR0, kR1]
    · have hI := unhide HI
      have e9 : -z = (z.natAbs : Int) := by have := unhide hneg; omega
      rw [e9] at hI
      exact ⟨_, rfl, ret_store (hB0.trans (hb1.mono (B' := w.heap.size) (Nat.le_of_lt hz0))) hI (by omega) ((hb1.block (w.heap.size + 1) hz1).trans (unhide HRb)) _ _⟩
  · have hneg : Hid (¬ z < 0) := by have := unhide HS; show ¬ z < 0; rw [← this]; exact hn
    go_enter Tryz.func71, Tryz.ntmps71
    go_wp2_with fail
    rw [unhide HW]
    refine (cloneI_any _ z _ hI0 (unhide HZ)).mono ?_
    rintro e w1 ⟨r, rfl, hb1, hI1⟩
    obtain ⟨n3, a3, l3, c3, rfl⟩ := hI1.form
    have HI := hide hI1
    clear hI1
    have kR0 := (hb1.cell (p := ⟨w.heap.size + 1, 0, none⟩) hz1).trans gR0
    have kR1 := (hb1.cell (p := ⟨w.heap.size + 1, 1, none⟩) hz1).trans gR1
    have kf0 := (hb1.frozen (p := ⟨w.heap.size + 1, 0, none⟩) hz1).trans gf0
    have kf1 := (hb1.frozen (p := ⟨w.heap.size + 1, 1, none⟩) hz1).trans gf1
    go_wp2
    refine bodyPost_ret (v := .agg #[.int .i64 n3, .slice a3 l3 c3]) ?_ rfl ?_
    · simp [results, Tryz.results71, go_sem, kR0, kR1]
    · have hI := unhide HI
      have e9 : z = (z.natAbs : Int) := by have := unhide hneg; omega
      rw [e9] at hI
      exact ⟨_, rfl, ret_store (hB0.trans (hb1.mono (B' := w.heap.size) (Nat.le_of_lt hz0))) hI (by omega) ((hb1.block (w.heap.size + 1) hz1).trans (unhide HRb)) _ _⟩

end Go.Proofs.YtlcfldkmojpkpaaGreatDoor
