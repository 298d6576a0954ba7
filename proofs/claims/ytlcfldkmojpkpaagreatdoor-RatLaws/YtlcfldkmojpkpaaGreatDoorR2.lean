/- Mul of numbers the second of which is great. -/
import Derived.Test.YtlcfldkmojpkpaaGreatDoorR1
import Derived.Deep.QuietTactic
import Derived.BigQuiet
namespace Go.Proofs.YtlcfldkmojpkpaaGreatDoor
open Go.RowKit
attribute [local go_sem] eqnil_some eqnil_none nenil_some nenil_none
set_option maxRecDepth 100000 in
set_option maxHeartbeats 4000000 in
theorem mul_big2 (na nb : Int) (adb : Addr) (lb cb : Nat) (za zb : Int) (w : World) (hA : IsI w (.agg #[.int .i64 na, .slice none 0 0]) za) (hB : IsI w (.agg #[.int .i64 nb, .slice (some adb) lb cb]) zb) (hza : (za.natAbs : Int) < pw 4000) (hzb : (zb.natAbs : Int) < pw 4000) :
    Calls Tryz.prog 50 #[.agg #[.int .i64 na, .slice none 0 0], .agg #[.int .i64 nb, .slice (some adb) lb cb]] w fun e w' => ∃ r, e = .returned r ∧ Below w.heap.size w w' ∧ IsI w' r (za * zb) := by
  have HBL := hide (below_of hA hB)
  have HZA := hide hza
  have HZB := hide hzb
  clear hza hzb
  obtain ⟨W1, hW0, S⟩ := setup2 w (.int .i64 na) (.slice none 0 0) (.int .i64 nb) (.slice (some adb) lb cb)
  have HW := hide hW0
  clear hW0
  go_enter Tryz.func50, Tryz.ntmps50
  go_wp2
  rw [unhide HW]
  obtain ⟨hB0, gA0, gA1, gB0, gB1, gR0, gR1, gf0, gf1, hRb, hz0, hz1, hz2⟩ := S
  have HRb := hide hRb
  have hA0 : IsI W1.drew (.agg #[.int .i64 na, .slice none 0 0]) za := hA.below hB0.drew
  have hB1 : IsI W1.drew (.agg #[.int .i64 nb, .slice (some adb) lb cb]) zb := hB.below hB0.drew
  clear hRb hA hB
  go_region_with (first
    | (go_at_call_of 57 (Value.agg #[Value.int IntKind.i64 na, Value.slice none 0 0]); refine (magnitude_any _ za _ ?_).mono ?_; exact hA0; rintro e w1 ⟨m1, xs, rfl, hb1, hm1, hd1, hn1, hv1⟩; have HV1 := hide hv1; clear hv1; have hbT1 := hb1; have kB01 := (hbT1.cell (p := ⟨w.heap.size + 1, 0, none⟩) hz1).trans gB0; have kB11 := (hbT1.cell (p := ⟨w.heap.size + 1, 1, none⟩) hz1).trans gB1)
    | (go_at_call_of 57 (Value.agg #[Value.int IntKind.i64 nb, Value.slice (some adb) lb cb]); refine (magnitude_any _ zb _ ?_).mono ?_; exact hB1.below hb1; rintro e w2 ⟨m2, ys, rfl, hb2, hm2, hd2, hn2, hv2⟩; have HV2 := hide hv2; clear hv2; have hbT2 := hbT1.trans (hb2.mono hbT1.size))
    | (go_at_call 76; refine (mulMag_any _ _ xs ys _ ?_ hm2 hd1 hd2 ?_ ?_).mono ?_; exact hm1.below hb2; exact lenk hd1 hn1 (unhide HV1) (unhide HZA); exact lenk hd2 hn2 (unhide HV2) (unhide HZB); rintro e w3 ⟨m3, zs, rfl, hb3, hm3, hd3, hn3, hv3, hl3⟩; have HV3 := hide hv3; clear hv3; have hbT3 := hbT2.trans (hb3.mono hbT2.size))
    | (go_at_call 58; refine (ofMag_any _ _ zs _ hm3 hd3 hn3 ?_).mono ?_; exact Nat.le_trans hl3 (lenk2 hd1 hn1 (unhide HV1) (unhide HZA) hd2 hn2 (unhide HV2) (unhide HZB)); rintro e w4 ⟨r4, rfl, hb4, hI4⟩; obtain ⟨n4, a4, l4, c4, rfl⟩ := hI4.form; have hbT4 := hbT3.trans (hb4.mono hbT3.size); have HI4 := hide hI4; clear hI4; have kR0 := (hbT4.cell (p := ⟨w.heap.size + 1 + 1, 0, none⟩) hz2).trans gR0; have kR1 := (hbT4.cell (p := ⟨w.heap.size + 1 + 1, 1, none⟩) hz2).trans gR1; have kf0 := (hbT4.frozen (p := ⟨w.heap.size + 1 + 1, 0, none⟩) hz2).trans gf0; have kf1 := (hbT4.frozen (p := ⟨w.heap.size + 1 + 1, 1, none⟩) hz2).trans gf1))
  all_goals
    go_wp2
    refine bodyPost_ret (v := .agg #[.int .i64 n4, .slice a4 l4 c4]) ?_ rfl ?_
    · simp [results, Tryz.results50, go_sem, kR0, kR1]
    · have hI4 := unhide HI4
      have hrb4 := (hbT4.block (w.heap.size + 1 + 1) hz2).trans (unhide HRb)
      have e9 := mul_sign (unhide HBL) (unhide HV1) (unhide HV2) (unhide HV3)
      rw [e9] at hI4
      exact ⟨_, rfl, ret_store (hB0.drew.trans (hbT4.mono (B' := w.heap.size) (Nat.le_of_lt hz0))) hI4 (by omega) hrb4 _ _⟩


end Go.Proofs.YtlcfldkmojpkpaaGreatDoor
