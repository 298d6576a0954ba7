/- Package scope: between declarations. -/
import Derived.Test.YtljhpbjngbbjbaaDoorZAF
set_option linter.unusedVariables false
set_option linter.unusedSimpArgs false

/- Package scope: param. -/
namespace Go.Proofs.YtljhpbjngbbjbaaDoor
open Go Go.RowKit
set_option maxRecDepth 100000 in
set_option maxHeartbeats 8000000 in
theorem xpar_any {H r mc md mb K lo hi b o : Nat} {w : World} {z : RZ} {p : Pr} (h : RSt H r mc md mb w z) (hx : OPm w K lo hi b o p) (hA : Ap H lo hi b) (hFi : Fi (K + 2) z) : Calls Tryd.prog 57 #[.pointer (some ⟨r, 0, none⟩), .pointer (some ⟨b, o, none⟩)] w (PaP H r mc md mb K lo hi b o (rxP K z p) w) := by
  have hl := fun n => (asked (h.below (below_dw _ w n)).nb p.name).2
  obtain ⟨pw, x0, x1, x2, x3, x4, x5, hf, hw⟩ := h.cells
  obtain ⟨a, n, c, h1, h2⟩ := id hx
  have y0 : w.cell? ⟨b, o, none⟩ = some (.string p.name) := h1 0 _ rfl
  have y2 : w.cell? ⟨b, o + 2, none⟩ = some (.string p.t.name) := h1 2 _ rfl
  have y3 : w.cell? ⟨b, o + 3, none⟩ = some (.slice a n c) := h1 3 _ rfl
  have y5 : w.cell? ⟨b, o + 5, none⟩ = some (.int .i64 p.at') := h1 5 _ rfl
  have HRF := hide (fun n => refus_any (h.below (below_dw _ w n)) p.at' 171)
  have HR0 := hide (fun n => h.below (below_dw w.heap.size w n))
  have HX := hide hx
  have HA := hide hA
  have HY := hide (And.intro y0 (And.intro y2 y3))
  unfold rxP
  obtain ⟨z1, hz1⟩ : ∃ z1, (if 0 < z.bnd p.name then z.ref p.at' 171 else z) = z1 := ⟨_, rfl⟩
  have hF1 : Fi (K + 2) z1 ∧ z1.depth = z.depth := by
    rw [← hz1]
    split
    · exact hFi.ref _ _
    · exact ⟨hFi, rfl⟩
  have hF2 : Fi (K + 1) z1 := hF1.1.down (by omega)
  rw [hz1]
  obtain ⟨Y, hY⟩ : ∃ Y, undS (thr (rxE K)) p.t.name z1 p.t.r = Y := ⟨_, rfl⟩
  have hYF : Fi (K + 1) Y.2 ∧ Y.2.depth = z1.depth := by rw [← hY]; exact und_kp (fun z l => thr_kp (rx_kp K) l z) _ _ _ hF2
  rw [hY]
  have HYE := hide hY
  have HYD := hide (show 0 ≤ Y.2.depth ∧ Y.2.depth ≤ 1000000000 from ⟨hYF.1.d0, by have := hYF.1.d1; push_cast at this; omega⟩)
  have HFi := hide hF2
  have hb := h.size
  by_cases hk : 0 < z.bnd p.name
  · rw [if_pos hk] at hz1
    obtain ⟨N, hN⟩ : ∃ N, z.bnd p.name = N := ⟨_, rfl⟩
    have hN' : (lkI p.name z.bind).getD 0 = N := hN
    rw [hN'] at hl
    rw [hN] at hk
    have d1 : decide (0 < N) = true := by simpa using hk
    have d2 : decide (N > 0) = true := by simpa using hk
    have HZ := hide hz1
    clear h hx hA hf hw h1 h2 y2 y3 hF1 hF2 hY hYF hFi hN hN' x0 x1 x3 x4 x5 hz1
    go_enter Tryd.func57, Tryd.ntmps57
    go_wp2_with fail
    go_quiet (fail)
    go_wp2_with fail
    refine (unhide HRF nq).mono ?_
    rintro e W1 ⟨rfl, hRq, hbq⟩
    rw [unhide HZ] at hRq
    have HR1 := hide hRq
    have HB1 := hide ((below_dw H w nq).trans hbq)
    clear hRq hbq HRF HR0 y0 y5 hl x2
    have hR1 := unhide HR1
    have hb1 := unhide HB1
    have hx1 := (unhide HX).low (unhide HA) hb1
    have u0 : W1.cell? ⟨b, o, none⟩ = some (.string p.name) := (hb1.cell (p := ⟨b, o, none⟩) (unhide HA).b1).trans (unhide HY).1
    have u2 : W1.cell? ⟨b, o + 2, none⟩ = some (.string p.t.name) := (hb1.cell (p := ⟨b, o + 2, none⟩) (unhide HA).b1).trans (unhide HY).2.1
    have u3 : W1.cell? ⟨b, o + 3, none⟩ = some (.slice a n c) := (hb1.cell (p := ⟨b, o + 3, none⟩) (unhide HA).b1).trans (unhide HY).2.2
    obtain ⟨a', n', c', q1, q2⟩ := hx1
    have e3 := q1 3 _ rfl
    rw [u3] at e3
    obtain ⟨rfl, rfl, rfl⟩ : a = a' ∧ n = n' ∧ c = c' := by simpa using e3
    have HC : Hid (∀ V, (V = W1 ∨ V = W1.drew) → Calls Tryd.prog 59 #[.pointer (some ⟨r, 0, none⟩), .string p.t.name, .slice a n c] V fun e w2 => e = .returned (.tuple #[]) ∧ RSt H r mc md mb w2 Y.2 ∧ OPm w2 K lo hi b o (p.setR Y.1) ∧ Fr H (Foot lo hi b o 6) w w2 ∧ w2.cell? ⟨b, o + 2, none⟩ = some (.string p.t.name) ∧ w2.cell? ⟨b, o + 3, none⟩ = some (.slice a n c) ∧ w2.cell? ⟨b, o, none⟩ = some (.string p.name)) := by
      intro V hV
      have hbV : Below W1.heap.size W1 V := by
        rcases hV with e | e
        · rw [e]; exact Below.refl _ _
        · rw [e]; exact (Below.refl _ _).drew
      have hbH : Below H W1 V := hbV.mono hR1.size
      refine (xund_os p.t.name (hR1.below hbV) (q2.fr (Fr.of (fun _ _ => False) hbH) (unhide HA).h1 fun _ _ _ _ h => h) (unhide HA).h1 (unhide HFi)).mono ?_
      rintro e w2 ⟨rfl, k1, k2, k3⟩
      rw [unhide HYE] at k1 k2
      have hx1 : OPm W1 K lo hi b o p := ⟨a, n, c, q1, q2⟩
      have k4 := (hx1.low (unhide HA) hbH).row (unhide HA) ((hbH.cell (p := ⟨b, o + 3, none⟩) (unhide HA).b1).trans u3) k3 k2
      obtain ⟨a3, n3, c3, m1, m2⟩ := k4.1
      have ho := (unhide HA).o1
      have hcc : ∀ j, w2.cell? ⟨b, o + j, none⟩ = V.cell? ⟨b, o + j, none⟩ := fun j => k3.cell b _ (unhide HA).b1 fun hk => by rcases hk with ⟨g1, g2⟩ | ⟨g1, g2, g3⟩ <;> omega
      exact ⟨rfl, k1, k4.1, (Fr.of _ (hb1.trans hbH)).trans k4.2, (hcc 2).trans ((hbH.cell (p := ⟨b, o + 2, none⟩) (unhide HA).b1).trans u2), (hcc 3).trans ((hbH.cell (p := ⟨b, o + 3, none⟩) (unhide HA).b1).trans u3), (hcc 0).trans ((hbH.cell (p := ⟨b, o, none⟩) (unhide HA).b1).trans u0)⟩
    clear hR1 hb1 q1 q2 e3 u0 HR1 HB1
    go_wp2_with fail
    go_region_held3 (fun w' => w'.cell? ⟨b, o + 2, none⟩ = some (.string p.t.name) ∧ w'.cell? ⟨b, o + 3, none⟩ = some (.slice a n c)) (first | assumption | exact ⟨u2, u3⟩) (first | (go_at_call 59; refine (unhide HC _ (.inr rfl)).mono ?_; rintro e w2 ⟨rfl, k1, k2, k3, k4, k5, k6⟩; have hk2 : w2.cell? ⟨b, o + 2, none⟩ = some (.string p.t.name) ∧ w2.cell? ⟨b, o + 3, none⟩ = some (.slice a n c) := ⟨k4, k5⟩))
    all_goals
      obtain ⟨pw2, x0, x1, x2, x3, x4, x5, hf, hw⟩ := k1.cells
      have f3 := hf 3
      have hd := unhide HYD
      have q1 : wrap64 (Y.2.depth + 1) = Y.2.depth + 1 := by unfold wrap64; omega
      have hR3 := k1.depth (Y.2.depth + 1)
      have hb3 : Below H w2 (w2.setCell ⟨r, 3, none⟩ (.int .i64 (Y.2.depth + 1))) := below_set (Below.refl H w2) k1.hr _ _
      obtain ⟨W3, eW3⟩ : ∃ W3, w2.setCell ⟨r, 3, none⟩ (.int .i64 (Y.2.depth + 1)) = W3 := ⟨_, rfl⟩
      rw [eW3] at hR3 hb3
      obtain ⟨pw3, b0, b1, b2, b3, b4, b5, bf, -⟩ := hR3.cells
      obtain ⟨W5, hrun5, hput5, hN5⟩ := updated (hR3.below (Below.refl _ W3).drew).nb p.name (Y.2.depth + 1)
      have hB5 := (hR3.below (Below.refl _ W3).drew).bound hput5 hN5
      have hb35 : Below H w2 W5 := (hb3.trans (Below.refl _ W3).drew).trans hB5.2
      have v0 : W3.cell? ⟨b, o, none⟩ = some (.string p.name) := (hb3.cell (p := ⟨b, o, none⟩) (unhide HA).b1).trans k6
      have HF := hide (show PaP H r mc md mb K lo hi b o (p.setR Y.1, Y.2.setB (Y.2.depth + 1) p.name (Y.2.depth + 1)) w (.returned (.tuple #[])) W5 from ⟨rfl, hB5.1, k2.low (unhide HA) hb35, k3.trans (Fr.of _ hb35)⟩)
      clear k1 k2 k3 k4 k5 k6 hk2 hf hw hd hR3 hb3 bf hput5 hN5 hB5 hb35 HC x0 x1 x4 x5 u2 u3
      go_wp2_with fail
      go_region
      go_wp2
      refine bodyPost_end (results_none rfl _ _ _) rfl ?_
      exact unhide HF
  · rw [if_neg hk] at hz1
    subst hz1
    obtain ⟨N, hN⟩ : ∃ N, z.bnd p.name = N := ⟨_, rfl⟩
    have hN' : (lkI p.name z.bind).getD 0 = N := hN
    rw [hN'] at hl
    rw [hN] at hk
    have d1 : decide (0 < N) = false := by simpa using hk
    have d2 : decide (N > 0) = false := by simpa using hk
    clear h hx hA hf hw h1 h2 y2 y3 hF1 hF2 hY hYF hFi hN hN' x0 x1 x3 x4 x5
    go_enter Tryd.func57, Tryd.ntmps57
    go_wp2_with fail
    go_quiet (fail)
    go_wp2_with fail
    have hRq := unhide HR0 nq
    have hbq := below_dw H w nq
    obtain ⟨W1, eW1⟩ : ∃ W, w.drewN nq = W := ⟨_, rfl⟩
    rw [eW1] at hRq hbq ⊢
    have HR1 := hide hRq
    have HB1 := hide hbq
    clear hRq hbq HRF HR0 y0 y5 hl x2 eW1
    have hR1 := unhide HR1
    have hb1 := unhide HB1
    have hx1 := (unhide HX).low (unhide HA) hb1
    have u0 : W1.cell? ⟨b, o, none⟩ = some (.string p.name) := (hb1.cell (p := ⟨b, o, none⟩) (unhide HA).b1).trans (unhide HY).1
    have u2 : W1.cell? ⟨b, o + 2, none⟩ = some (.string p.t.name) := (hb1.cell (p := ⟨b, o + 2, none⟩) (unhide HA).b1).trans (unhide HY).2.1
    have u3 : W1.cell? ⟨b, o + 3, none⟩ = some (.slice a n c) := (hb1.cell (p := ⟨b, o + 3, none⟩) (unhide HA).b1).trans (unhide HY).2.2
    obtain ⟨a', n', c', q1, q2⟩ := hx1
    have e3 := q1 3 _ rfl
    rw [u3] at e3
    obtain ⟨rfl, rfl, rfl⟩ : a = a' ∧ n = n' ∧ c = c' := by simpa using e3
    have HC : Hid (∀ V, (V = W1 ∨ V = W1.drew) → Calls Tryd.prog 59 #[.pointer (some ⟨r, 0, none⟩), .string p.t.name, .slice a n c] V fun e w2 => e = .returned (.tuple #[]) ∧ RSt H r mc md mb w2 Y.2 ∧ OPm w2 K lo hi b o (p.setR Y.1) ∧ Fr H (Foot lo hi b o 6) w w2 ∧ w2.cell? ⟨b, o + 2, none⟩ = some (.string p.t.name) ∧ w2.cell? ⟨b, o + 3, none⟩ = some (.slice a n c) ∧ w2.cell? ⟨b, o, none⟩ = some (.string p.name)) := by
      intro V hV
      have hbV : Below W1.heap.size W1 V := by
        rcases hV with e | e
        · rw [e]; exact Below.refl _ _
        · rw [e]; exact (Below.refl _ _).drew
      have hbH : Below H W1 V := hbV.mono hR1.size
      refine (xund_os p.t.name (hR1.below hbV) (q2.fr (Fr.of (fun _ _ => False) hbH) (unhide HA).h1 fun _ _ _ _ h => h) (unhide HA).h1 (unhide HFi)).mono ?_
      rintro e w2 ⟨rfl, k1, k2, k3⟩
      rw [unhide HYE] at k1 k2
      have hx1 : OPm W1 K lo hi b o p := ⟨a, n, c, q1, q2⟩
      have k4 := (hx1.low (unhide HA) hbH).row (unhide HA) ((hbH.cell (p := ⟨b, o + 3, none⟩) (unhide HA).b1).trans u3) k3 k2
      obtain ⟨a3, n3, c3, m1, m2⟩ := k4.1
      have ho := (unhide HA).o1
      have hcc : ∀ j, w2.cell? ⟨b, o + j, none⟩ = V.cell? ⟨b, o + j, none⟩ := fun j => k3.cell b _ (unhide HA).b1 fun hk => by rcases hk with ⟨g1, g2⟩ | ⟨g1, g2, g3⟩ <;> omega
      exact ⟨rfl, k1, k4.1, (Fr.of _ (hb1.trans hbH)).trans k4.2, (hcc 2).trans ((hbH.cell (p := ⟨b, o + 2, none⟩) (unhide HA).b1).trans u2), (hcc 3).trans ((hbH.cell (p := ⟨b, o + 3, none⟩) (unhide HA).b1).trans u3), (hcc 0).trans ((hbH.cell (p := ⟨b, o, none⟩) (unhide HA).b1).trans u0)⟩
    clear hR1 hb1 q1 q2 e3 u0 HR1 HB1
    go_wp2_with fail
    go_region_held3 (fun w' => w'.cell? ⟨b, o + 2, none⟩ = some (.string p.t.name) ∧ w'.cell? ⟨b, o + 3, none⟩ = some (.slice a n c)) (first | assumption | exact ⟨u2, u3⟩) (first | (go_at_call 59; refine (unhide HC _ (.inr rfl)).mono ?_; rintro e w2 ⟨rfl, k1, k2, k3, k4, k5, k6⟩; have hk2 : w2.cell? ⟨b, o + 2, none⟩ = some (.string p.t.name) ∧ w2.cell? ⟨b, o + 3, none⟩ = some (.slice a n c) := ⟨k4, k5⟩))
    all_goals
      obtain ⟨pw2, x0, x1, x2, x3, x4, x5, hf, hw⟩ := k1.cells
      have f3 := hf 3
      have hd := unhide HYD
      have q1 : wrap64 (Y.2.depth + 1) = Y.2.depth + 1 := by unfold wrap64; omega
      have hR3 := k1.depth (Y.2.depth + 1)
      have hb3 : Below H w2 (w2.setCell ⟨r, 3, none⟩ (.int .i64 (Y.2.depth + 1))) := below_set (Below.refl H w2) k1.hr _ _
      obtain ⟨W3, eW3⟩ : ∃ W3, w2.setCell ⟨r, 3, none⟩ (.int .i64 (Y.2.depth + 1)) = W3 := ⟨_, rfl⟩
      rw [eW3] at hR3 hb3
      obtain ⟨pw3, b0, b1, b2, b3, b4, b5, bf, -⟩ := hR3.cells
      obtain ⟨W5, hrun5, hput5, hN5⟩ := updated (hR3.below (Below.refl _ W3).drew).nb p.name (Y.2.depth + 1)
      have hB5 := (hR3.below (Below.refl _ W3).drew).bound hput5 hN5
      have hb35 : Below H w2 W5 := (hb3.trans (Below.refl _ W3).drew).trans hB5.2
      have v0 : W3.cell? ⟨b, o, none⟩ = some (.string p.name) := (hb3.cell (p := ⟨b, o, none⟩) (unhide HA).b1).trans k6
      have HF := hide (show PaP H r mc md mb K lo hi b o (p.setR Y.1, Y.2.setB (Y.2.depth + 1) p.name (Y.2.depth + 1)) w (.returned (.tuple #[])) W5 from ⟨rfl, hB5.1, k2.low (unhide HA) hb35, k3.trans (Fr.of _ hb35)⟩)
      clear k1 k2 k3 k4 k5 k6 hk2 hf hw hd hR3 hb3 bf hput5 hN5 hB5 hb35 HC x0 x1 x4 x5 u2 u3
      go_wp2_with fail
      go_region
      go_wp2
      refine bodyPost_end (results_none rfl _ _ _) rfl ?_
      exact unhide HF
end Go.Proofs.YtljhpbjngbbjbaaDoor

/- Package scope: a declaration's parts, gone through one after another. -/
namespace Go.Proofs.YtljhpbjngbbjbaaDoor
open Go Go.RowKit
theorem kp_up {k j : Nat} {f : RZ → Er → Er × RZ} (hf : Kp k f) (hj : k ≤ j) : Kp j f := fun z t h => by
  have h1 := hf z t (h.down hj)
  exact ⟨⟨h1.1.d0, by rw [h1.2]; exact h.d1, h1.1.b⟩, h1.2⟩
theorem par_fi {K m : Nat} {z : RZ} (p : Pr) (h : Fi (K + 2 + (m + 1)) z) : Fi (K + 2 + m) (rxP K z p).2 := by
  obtain ⟨z1, hz1⟩ : ∃ z1, (if 0 < z.bnd p.name then z.ref p.at' 171 else z) = z1 := ⟨_, rfl⟩
  have hF1 : Fi (K + 2 + (m + 1)) z1 ∧ z1.depth = z.depth := by
    rw [← hz1]
    split
    · exact h.ref _ _
    · exact ⟨h, rfl⟩
  have e : (rxP K z p).2 = (undS (thr (rxE K)) p.t.name z1 p.t.r).2.setB ((undS (thr (rxE K)) p.t.name z1 p.t.r).2.depth + 1) p.name ((undS (thr (rxE K)) p.t.name z1 p.t.r).2.depth + 1) := by rw [← hz1]; rfl
  have hu : Fi (K + 2 + m + 1) (undS (thr (rxE K)) p.t.name z1 p.t.r).2 ∧ (undS (thr (rxE K)) p.t.name z1 p.t.r).2.depth = z1.depth := und_kp (k := K + 2 + m) (fun z l => thr_kp (kp_up (rx_kp K) (by omega)) l z) _ _ _ (hF1.1.down (by omega))
  have h0 := hu.1.d0
  have h1 := hu.1.d1
  rw [e]
  exact hu.1.setB _ (by omega) (by push_cast at h1 ⊢; omega) (by omega) (by push_cast at h1; omega)
theorem fresh_fi {K m : Nat} (z : RZ) (hK : K + m ≤ 100000000) : Fi (K + m) z.fresh := ⟨Int.le_refl _, by show (0 : Int) + ((K + m : Nat) : Int) ≤ 1000000000; omega, fun s => by show 0 ≤ (lkI s []).getD 0 ∧ (lkI s []).getD 0 ≤ 1000000000; simp [lkI]⟩
theorem RSt.ens {H r mc md mb : Nat} {w : World} {z : RZ} (h : RSt H r mc md mb w z) (b : Bool) : RSt H r mc md mb (w.setCell ⟨r, 4, none⟩ (.bool b)) (z.setE b) := by
  obtain ⟨pw, h1, h2⟩ := h.box
  have hu : Up H r w (w.setCell ⟨r, 4, none⟩ (.bool b)) := fun k _ _ hn => heap_set _ _ hn
  exact h.boxed hu rfl rfl rfl (pw := pw) (set_block h1 _) (h2.up hu fun cs e => by rw [h1] at e; injection e with e; injection e with e1 e2; exact absurd e2 (by decide))
theorem RS0.lt {H r mc md : Nat} {w : World} {z : RZ} (h : RS0 H r mc md w z) : r < w.heap.size := by
  obtain ⟨mb, pw, h1, h2⟩ := h.box
  exact (blk h1).1
theorem RS0.cells {H r mc md : Nat} {w : World} {z : RZ} (h : RS0 H r mc md w z) : ∃ mb pw, w.cell? ⟨r, 0, none⟩ = some (.map (some mc)) ∧ w.cell? ⟨r, 1, none⟩ = some (.map (some md)) ∧ w.cell? ⟨r, 2, none⟩ = some (.map mb) ∧ w.cell? ⟨r, 3, none⟩ = some (.int .i64 z.depth) ∧ w.cell? ⟨r, 4, none⟩ = some (.bool z.ens) ∧ w.cell? ⟨r, 5, none⟩ = some (.pointer pw) ∧ (∀ o, w.frozen? ⟨r, o, none⟩ = false) ∧ WrP H w pw z.wr := by
  obtain ⟨mb, pw, h1, h2⟩ := h.box
  exact ⟨mb, pw, (blk h1).2.1 0 _ rfl, (blk h1).2.1 1 _ rfl, (blk h1).2.1 2 _ rfl, (blk h1).2.1 3 _ rfl, (blk h1).2.1 4 _ rfl, (blk h1).2.1 5 _ rfl, (blk h1).2.2, h2⟩
theorem RS0.same {H r mc md : Nat} {w w' : World} {z : RZ} (h : RS0 H r mc md w z) (hs : ∀ k, H ≤ k → k < w.heap.size → w'.heap[k]? = w.heap[k]?) : RS0 H r mc md w' z := by
  obtain ⟨mb, pw, h1, h2⟩ := h.box
  exact ⟨⟨mb, pw, (hs r h.hr h.lt).trans h1, h2.same hs⟩, h.nc.same (hs _ h.hc h.nc.lt), h.nd.same (hs _ h.hd h.nd.lt), h.hr, h.hc, h.hd, h.ne⟩
theorem RS0.below {H r mc md : Nat} {w w' : World} {z : RZ} (h : RS0 H r mc md w z) (hb : Below w.heap.size w w') : RS0 H r mc md w' z := h.same fun k _ hk => hb.block k hk
/-- New binders. -/
theorem RS0.fresh {H r mc md : Nat} {w : World} {z : RZ} (h : RS0 H r mc md w z) : RSt H r mc md w.heap.size (((w.alloc (.map #[] 0)).setCell ⟨r, 2, none⟩ (.map (some w.heap.size))).setCell ⟨r, 3, none⟩ (.int .i64 0)) z.fresh ∧ Below H w (((w.alloc (.map #[] 0)).setCell ⟨r, 2, none⟩ (.map (some w.heap.size))).setCell ⟨r, 3, none⟩ (.int .i64 0)) := by
  have hlt := h.lt
  have hr := h.hr
  have hbA := (Below.refl w.heap.size w).alloc (Nat.le_refl _) (.map #[] 0)
  have hA := h.below hbA
  have hnb := NM.new w
  obtain ⟨mb, pw, h1, h2⟩ := hA.box
  have hne : r ≠ w.heap.size := by omega
  have hb1 : ∀ k, k ≠ r → (((w.alloc (.map #[] 0)).setCell ⟨r, 2, none⟩ (.map (some w.heap.size))).setCell ⟨r, 3, none⟩ (.int .i64 0)).heap[k]? = (w.alloc (.map #[] 0)).heap[k]? := fun k hk => (heap_set _ _ hk).trans (heap_set _ _ hk)
  have hcr : ∀ m es, NM (w.alloc (.map #[] 0)) m es → m ≠ r := fun m es hm e => by
    obtain ⟨a, c, h3, -⟩ := hm
    rw [e, h1] at h3
    cases h3
  have hcl := h.nc.lt
  have hdl := h.nd.lt
  refine ⟨⟨⟨pw, set_block (set_block h1 _) _, ?_⟩, hA.nc.same (hb1 _ (hcr _ _ hA.nc)), hA.nd.same (hb1 _ (hcr _ _ hA.nd)), hnb.same (hb1 _ (Ne.symm hne)), hr, h.hc, h.hd, by omega, h.ne, by omega, by omega⟩, below_set (below_set (hbA.mono (by omega)) hr _ _) hr _ _⟩
  have hz : z.fresh.wr = z.wr := rfl
  rw [hz]
  exact h2.up (fun k _ _ hn => hb1 k hn) fun cs e => by rw [h1] at e; injection e with e; injection e with e1 e2; exact absurd e2 (by decide)
theorem ODi.s_ps {w w' : World} {K lo i1 i2 i3 i4 i5 hi b o H : Nat} {d : Dz} {x : DeV} (h : ODi w K lo i1 i2 i3 i4 i5 hi b o d x) (hA : Ap H lo hi b) {l : List Pr} (hf : Fr H (Foot lo i1 0 0 0) w w') (hl : OSg 6 (OPm w' K) lo i1 x.pa x.pn x.pc l) : ODi w' K lo i1 i2 i3 i4 i5 hi b o { d with ps := l } x ∧ Fr H (Foot lo hi b o 22) w w' := by
  obtain ⟨l1, l2, l3, l4, l5, l6⟩ := h.le
  have hb := hA.b1
  have hh := hA.h1
  have ho := hA.o1
  refine ⟨⟨fun j v hv => ?_, (hf.cell b _ hb fun hk => by rcases hk with ⟨g1, g2⟩ | ⟨g1, g2, g3⟩ <;> omega).trans h.place, hl, h.ty.fr hf (by omega) fun k j k1 k2 hk => by rcases hk with ⟨g1, g2⟩ | ⟨g1, g2, g3⟩ <;> omega, h.req.fr hf (by omega) fun k j k1 k2 hk => by rcases hk with ⟨g1, g2⟩ | ⟨g1, g2, g3⟩ <;> omega, h.ens.fr hf (by omega) fun k j k1 k2 hk => by rcases hk with ⟨g1, g2⟩ | ⟨g1, g2, g3⟩ <;> omega, h.mea.fr hf (by omega) fun k j k1 k2 hk => by rcases hk with ⟨g1, g2⟩ | ⟨g1, g2, g3⟩ <;> omega, h.body.fr hf hb hh (fun j k1 k2 hk => by rcases hk with ⟨g1, g2⟩ | ⟨g1, g2, g3⟩ <;> omega) fun k j k1 k2 hk => by rcases hk with ⟨g1, g2⟩ | ⟨g1, g2, g3⟩ <;> omega⟩, hf.mono fun k j hk => ?_⟩
  · have hj : j < 14 := (List.getElem?_eq_some_iff.1 hv).1
    refine (hf.cell b (o + j) hb fun hk => by rcases hk with ⟨g1, g2⟩ | ⟨g1, g2, g3⟩ <;> omega).trans (h.cells j v hv)
  · rcases hk with ⟨g1, g2⟩ | ⟨g1, g2, g3⟩
    · exact .inl ⟨by omega, by omega⟩
    · first | exact .inr ⟨g1, by omega, by omega⟩ | omega
theorem ODi.s_ty {w w' : World} {K lo i1 i2 i3 i4 i5 hi b o H : Nat} {d : Dz} {x : DeV} (h : ODi w K lo i1 i2 i3 i4 i5 hi b o d x) (hA : Ap H lo hi b) {l : List Er} (hf : Fr H (Foot i1 i2 0 0 0) w w') (hl : OSp (OE w' K) i1 i2 x.ta x.tn x.tc l) : ODi w' K lo i1 i2 i3 i4 i5 hi b o { d with t := d.t.setR l } x ∧ Fr H (Foot lo hi b o 22) w w' := by
  obtain ⟨l1, l2, l3, l4, l5, l6⟩ := h.le
  have hb := hA.b1
  have hh := hA.h1
  have ho := hA.o1
  refine ⟨⟨fun j v hv => ?_, (hf.cell b _ hb fun hk => by rcases hk with ⟨g1, g2⟩ | ⟨g1, g2, g3⟩ <;> omega).trans h.place, OPs.fr h.ps hf (by omega) fun k j k1 k2 hk => by rcases hk with ⟨g1, g2⟩ | ⟨g1, g2, g3⟩ <;> omega, hl, h.req.fr hf (by omega) fun k j k1 k2 hk => by rcases hk with ⟨g1, g2⟩ | ⟨g1, g2, g3⟩ <;> omega, h.ens.fr hf (by omega) fun k j k1 k2 hk => by rcases hk with ⟨g1, g2⟩ | ⟨g1, g2, g3⟩ <;> omega, h.mea.fr hf (by omega) fun k j k1 k2 hk => by rcases hk with ⟨g1, g2⟩ | ⟨g1, g2, g3⟩ <;> omega, h.body.fr hf hb hh (fun j k1 k2 hk => by rcases hk with ⟨g1, g2⟩ | ⟨g1, g2, g3⟩ <;> omega) fun k j k1 k2 hk => by rcases hk with ⟨g1, g2⟩ | ⟨g1, g2, g3⟩ <;> omega⟩, hf.mono fun k j hk => ?_⟩
  · have hj : j < 14 := (List.getElem?_eq_some_iff.1 hv).1
    refine (hf.cell b (o + j) hb fun hk => by rcases hk with ⟨g1, g2⟩ | ⟨g1, g2, g3⟩ <;> omega).trans (h.cells j v hv)
  · rcases hk with ⟨g1, g2⟩ | ⟨g1, g2, g3⟩
    · exact .inl ⟨by omega, by omega⟩
    · first | exact .inr ⟨g1, by omega, by omega⟩ | omega
theorem ODi.s_req {w w' : World} {K lo i1 i2 i3 i4 i5 hi b o H : Nat} {d : Dz} {x : DeV} (h : ODi w K lo i1 i2 i3 i4 i5 hi b o d x) (hA : Ap H lo hi b) {l : List Er} (hf : Fr H (Foot i2 i3 0 0 0) w w') (hl : OSp (OE w' K) i2 i3 x.ra x.rn x.rc l) : ODi w' K lo i1 i2 i3 i4 i5 hi b o { d with req := l } x ∧ Fr H (Foot lo hi b o 22) w w' := by
  obtain ⟨l1, l2, l3, l4, l5, l6⟩ := h.le
  have hb := hA.b1
  have hh := hA.h1
  have ho := hA.o1
  refine ⟨⟨fun j v hv => ?_, (hf.cell b _ hb fun hk => by rcases hk with ⟨g1, g2⟩ | ⟨g1, g2, g3⟩ <;> omega).trans h.place, OPs.fr h.ps hf (by omega) fun k j k1 k2 hk => by rcases hk with ⟨g1, g2⟩ | ⟨g1, g2, g3⟩ <;> omega, h.ty.fr hf (by omega) fun k j k1 k2 hk => by rcases hk with ⟨g1, g2⟩ | ⟨g1, g2, g3⟩ <;> omega, hl, h.ens.fr hf (by omega) fun k j k1 k2 hk => by rcases hk with ⟨g1, g2⟩ | ⟨g1, g2, g3⟩ <;> omega, h.mea.fr hf (by omega) fun k j k1 k2 hk => by rcases hk with ⟨g1, g2⟩ | ⟨g1, g2, g3⟩ <;> omega, h.body.fr hf hb hh (fun j k1 k2 hk => by rcases hk with ⟨g1, g2⟩ | ⟨g1, g2, g3⟩ <;> omega) fun k j k1 k2 hk => by rcases hk with ⟨g1, g2⟩ | ⟨g1, g2, g3⟩ <;> omega⟩, hf.mono fun k j hk => ?_⟩
  · have hj : j < 14 := (List.getElem?_eq_some_iff.1 hv).1
    refine (hf.cell b (o + j) hb fun hk => by rcases hk with ⟨g1, g2⟩ | ⟨g1, g2, g3⟩ <;> omega).trans (h.cells j v hv)
  · rcases hk with ⟨g1, g2⟩ | ⟨g1, g2, g3⟩
    · exact .inl ⟨by omega, by omega⟩
    · first | exact .inr ⟨g1, by omega, by omega⟩ | omega
theorem ODi.s_ens {w w' : World} {K lo i1 i2 i3 i4 i5 hi b o H : Nat} {d : Dz} {x : DeV} (h : ODi w K lo i1 i2 i3 i4 i5 hi b o d x) (hA : Ap H lo hi b) {l : List Er} (hf : Fr H (Foot i3 i4 0 0 0) w w') (hl : OSp (OE w' K) i3 i4 x.ea x.en x.ec l) : ODi w' K lo i1 i2 i3 i4 i5 hi b o { d with ens := l } x ∧ Fr H (Foot lo hi b o 22) w w' := by
  obtain ⟨l1, l2, l3, l4, l5, l6⟩ := h.le
  have hb := hA.b1
  have hh := hA.h1
  have ho := hA.o1
  refine ⟨⟨fun j v hv => ?_, (hf.cell b _ hb fun hk => by rcases hk with ⟨g1, g2⟩ | ⟨g1, g2, g3⟩ <;> omega).trans h.place, OPs.fr h.ps hf (by omega) fun k j k1 k2 hk => by rcases hk with ⟨g1, g2⟩ | ⟨g1, g2, g3⟩ <;> omega, h.ty.fr hf (by omega) fun k j k1 k2 hk => by rcases hk with ⟨g1, g2⟩ | ⟨g1, g2, g3⟩ <;> omega, h.req.fr hf (by omega) fun k j k1 k2 hk => by rcases hk with ⟨g1, g2⟩ | ⟨g1, g2, g3⟩ <;> omega, hl, h.mea.fr hf (by omega) fun k j k1 k2 hk => by rcases hk with ⟨g1, g2⟩ | ⟨g1, g2, g3⟩ <;> omega, h.body.fr hf hb hh (fun j k1 k2 hk => by rcases hk with ⟨g1, g2⟩ | ⟨g1, g2, g3⟩ <;> omega) fun k j k1 k2 hk => by rcases hk with ⟨g1, g2⟩ | ⟨g1, g2, g3⟩ <;> omega⟩, hf.mono fun k j hk => ?_⟩
  · have hj : j < 14 := (List.getElem?_eq_some_iff.1 hv).1
    refine (hf.cell b (o + j) hb fun hk => by rcases hk with ⟨g1, g2⟩ | ⟨g1, g2, g3⟩ <;> omega).trans (h.cells j v hv)
  · rcases hk with ⟨g1, g2⟩ | ⟨g1, g2, g3⟩
    · exact .inl ⟨by omega, by omega⟩
    · first | exact .inr ⟨g1, by omega, by omega⟩ | omega
theorem ODi.s_mea {w w' : World} {K lo i1 i2 i3 i4 i5 hi b o H : Nat} {d : Dz} {x : DeV} (h : ODi w K lo i1 i2 i3 i4 i5 hi b o d x) (hA : Ap H lo hi b) {l : List Er} (hf : Fr H (Foot i4 i5 0 0 0) w w') (hl : OSp (OE w' K) i4 i5 x.ma x.mn x.mc l) : ODi w' K lo i1 i2 i3 i4 i5 hi b o { d with mea := l } x ∧ Fr H (Foot lo hi b o 22) w w' := by
  obtain ⟨l1, l2, l3, l4, l5, l6⟩ := h.le
  have hb := hA.b1
  have hh := hA.h1
  have ho := hA.o1
  refine ⟨⟨fun j v hv => ?_, (hf.cell b _ hb fun hk => by rcases hk with ⟨g1, g2⟩ | ⟨g1, g2, g3⟩ <;> omega).trans h.place, OPs.fr h.ps hf (by omega) fun k j k1 k2 hk => by rcases hk with ⟨g1, g2⟩ | ⟨g1, g2, g3⟩ <;> omega, h.ty.fr hf (by omega) fun k j k1 k2 hk => by rcases hk with ⟨g1, g2⟩ | ⟨g1, g2, g3⟩ <;> omega, h.req.fr hf (by omega) fun k j k1 k2 hk => by rcases hk with ⟨g1, g2⟩ | ⟨g1, g2, g3⟩ <;> omega, h.ens.fr hf (by omega) fun k j k1 k2 hk => by rcases hk with ⟨g1, g2⟩ | ⟨g1, g2, g3⟩ <;> omega, hl, h.body.fr hf hb hh (fun j k1 k2 hk => by rcases hk with ⟨g1, g2⟩ | ⟨g1, g2, g3⟩ <;> omega) fun k j k1 k2 hk => by rcases hk with ⟨g1, g2⟩ | ⟨g1, g2, g3⟩ <;> omega⟩, hf.mono fun k j hk => ?_⟩
  · have hj : j < 14 := (List.getElem?_eq_some_iff.1 hv).1
    refine (hf.cell b (o + j) hb fun hk => by rcases hk with ⟨g1, g2⟩ | ⟨g1, g2, g3⟩ <;> omega).trans (h.cells j v hv)
  · rcases hk with ⟨g1, g2⟩ | ⟨g1, g2, g3⟩
    · exact .inl ⟨by omega, by omega⟩
    · first | exact .inr ⟨g1, by omega, by omega⟩ | omega
theorem ODi.s_body {w w' : World} {K lo i1 i2 i3 i4 i5 hi b o H : Nat} {d : Dz} {x : DeV} (h : ODi w K lo i1 i2 i3 i4 i5 hi b o d x) (hA : Ap H lo hi b) {l : Er} (hf : Fr H (Foot i5 hi b (o + 14) 7) w w') (hl : OE w' (K + 1) i5 hi b (o + 14) l) : ODi w' K lo i1 i2 i3 i4 i5 hi b o { d with body := l } x ∧ Fr H (Foot lo hi b o 22) w w' := by
  obtain ⟨l1, l2, l3, l4, l5, l6⟩ := h.le
  have hb := hA.b1
  have hh := hA.h1
  have ho := hA.o1
  refine ⟨⟨fun j v hv => ?_, (hf.cell b _ hb fun hk => by rcases hk with ⟨g1, g2⟩ | ⟨g1, g2, g3⟩ <;> omega).trans h.place, OPs.fr h.ps hf (by omega) fun k j k1 k2 hk => by rcases hk with ⟨g1, g2⟩ | ⟨g1, g2, g3⟩ <;> omega, h.ty.fr hf (by omega) fun k j k1 k2 hk => by rcases hk with ⟨g1, g2⟩ | ⟨g1, g2, g3⟩ <;> omega, h.req.fr hf (by omega) fun k j k1 k2 hk => by rcases hk with ⟨g1, g2⟩ | ⟨g1, g2, g3⟩ <;> omega, h.ens.fr hf (by omega) fun k j k1 k2 hk => by rcases hk with ⟨g1, g2⟩ | ⟨g1, g2, g3⟩ <;> omega, h.mea.fr hf (by omega) fun k j k1 k2 hk => by rcases hk with ⟨g1, g2⟩ | ⟨g1, g2, g3⟩ <;> omega, hl⟩, hf.mono fun k j hk => ?_⟩
  · have hj : j < 14 := (List.getElem?_eq_some_iff.1 hv).1
    refine (hf.cell b (o + j) hb fun hk => by rcases hk with ⟨g1, g2⟩ | ⟨g1, g2, g3⟩ <;> omega).trans (h.cells j v hv)
  · rcases hk with ⟨g1, g2⟩ | ⟨g1, g2, g3⟩
    · exact .inl ⟨by omega, by omega⟩
    · first | exact .inr ⟨g1, by omega, by omega⟩ | omega
end Go.Proofs.YtljhpbjngbbjbaaDoor

/- Package scope: definition. -/
namespace Go.Proofs.YtljhpbjngbbjbaaDoor
open Go Go.RowKit
/-- Within a definition. -/
def DW (H r mc md mb K lo i1 i2 i3 i4 i5 hi q o : Nat) (x : DeV) (w : World) (d : Dz) (z : RZ) (W : World) : Prop := RSt H r mc md mb W z ∧ ODi W K lo i1 i2 i3 i4 i5 hi q o d x ∧ Fr H (Foot lo hi q o 22) w W
theorem DW.cells {H r mc md mb K lo i1 i2 i3 i4 i5 hi q o : Nat} {x : DeV} {w W : World} {d : Dz} {z : RZ} (h : DW H r mc md mb K lo i1 i2 i3 i4 i5 hi q o x w d z W) : W.cell? ⟨q, o + 4, none⟩ = some (.slice x.pa x.pn x.pc) ∧ W.cell? ⟨q, o + 7, none⟩ = some (.string d.t.name) ∧ W.cell? ⟨q, o + 8, none⟩ = some (.slice x.ta x.tn x.tc) ∧ W.cell? ⟨q, o + 10, none⟩ = some (.slice x.ra x.rn x.rc) ∧ W.cell? ⟨q, o + 11, none⟩ = some (.string d.res) ∧ W.cell? ⟨q, o + 12, none⟩ = some (.slice x.ea x.en x.ec) ∧ W.cell? ⟨q, o + 13, none⟩ = some (.slice x.ma x.mn x.mc) := by
  have hc := h.2.1.cells
  exact ⟨hc 4 _ rfl, hc 7 _ rfl, hc 8 _ rfl, hc 10 _ rfl, hc 11 _ rfl, hc 12 _ rfl, hc 13 _ rfl⟩
theorem DW.below {H r mc md mb K lo i1 i2 i3 i4 i5 hi q o : Nat} {x : DeV} {w W V : World} {d : Dz} {z : RZ} (h : DW H r mc md mb K lo i1 i2 i3 i4 i5 hi q o x w d z W) (hA : Ap H lo hi q) (hb : Below W.heap.size W V) : DW H r mc md mb K lo i1 i2 i3 i4 i5 hi q o x w d z V := by
  have hbH : Below H W V := hb.mono h.1.size
  exact ⟨h.1.below hb, h.2.1.fr (Fr.of (fun _ _ => False) hbH) hA.b1 hA.h1 (fun _ _ _ h => h) (fun _ _ _ _ h => h), h.2.2.trans (Fr.of _ hbH)⟩
theorem DW.set4 {H r mc md mb K lo i1 i2 i3 i4 i5 hi q o : Nat} {x : DeV} {w W : World} {d : Dz} {z : RZ} (h : DW H r mc md mb K lo i1 i2 i3 i4 i5 hi q o x w d z W) (hA : Ap H lo hi q) (b : Bool) : DW H r mc md mb K lo i1 i2 i3 i4 i5 hi q o x w d (z.setE b) (W.setCell ⟨r, 4, none⟩ (.bool b)) := by
  have hbH : Below H W (W.setCell ⟨r, 4, none⟩ (.bool b)) := below_set (Below.refl H W) h.1.hr _ _
  exact ⟨h.1.ens b, h.2.1.fr (Fr.of (fun _ _ => False) hbH) hA.b1 hA.h1 (fun _ _ _ h => h) (fun _ _ _ _ h => h), h.2.2.trans (Fr.of _ hbH)⟩
set_option maxRecDepth 100000 in
set_option maxHeartbeats 16000000 in
theorem xdef_any {H r mc md K lo hi q o : Nat} {w : World} {z : RZ} {d : Dz} (h : RS0 H r mc md w z) (hx : OD w K lo hi q o d) (hA : Ap H lo hi q) (hK : K ≤ 1000000) : Calls Tryd.prog 41 #[.pointer (some ⟨r, 0, none⟩), .pointer (some ⟨q, o, none⟩)] w fun e w' => e = .returned (.tuple #[]) ∧ RS0 H r mc md w' (rxF K z d).2 ∧ OD w' K lo hi q o (rxF K z d).1 ∧ Fr H (Foot lo hi q o 22) w w' := by
  obtain ⟨x, i1, i2, i3, i4, i5, hx⟩ := hx
  obtain ⟨mb0, pw, -, -, x2, x3, -, -, hf, -⟩ := h.cells
  have hlt := h.lt
  have hfr := h.fresh
  obtain ⟨mb, hmb⟩ : ∃ mb, w.heap.size = mb := ⟨_, rfl⟩
  have al : ∀ o, Below w.heap.size w (w.alloc o) := fun o => (Below.refl w.heap.size w).alloc (Nat.le_refl _) o
  have s2 : ∀ o, (w.alloc o).cell? ⟨r, 2, none⟩ = some (.map mb0) := fun o => ((al o).cell (p := ⟨r, 2, none⟩) hlt).trans x2
  have s3 : ∀ o, (w.alloc o).cell? ⟨r, 3, none⟩ = some (.int .i64 z.depth) := fun o => ((al o).cell (p := ⟨r, 3, none⟩) hlt).trans x3
  have t2 : ∀ o, (w.alloc o).frozen? ⟨r, 2, none⟩ = false := fun o => ((al o).frozen (p := ⟨r, 2, none⟩) hlt).trans (hf 2)
  have t3 : ∀ o, (w.alloc o).frozen? ⟨r, 3, none⟩ = false := fun o => ((al o).frozen (p := ⟨r, 3, none⟩) hlt).trans (hf 3)
  obtain ⟨W0, eW0⟩ : ∃ W0, ((w.alloc (.map #[] 0)).setCell ⟨r, 2, none⟩ (.map (some w.heap.size))).setCell ⟨r, 3, none⟩ (.int .i64 0) = W0 := ⟨_, rfl⟩
  rw [eW0, hmb] at hfr
  have hD0 : DW H r mc md mb K lo i1 i2 i3 i4 i5 hi q o x w d z.fresh W0 := ⟨hfr.1, hx.fr (Fr.of (fun _ _ => False) hfr.2) hA.b1 hA.h1 (fun _ _ _ h => h) (fun _ _ _ _ h => h), Fr.of _ hfr.2⟩
  obtain ⟨c4, -⟩ := hD0.cells
  have hnp : x.pn = d.ps.length := hx.ps.1
  have hn6 : x.pn ≤ 1000000 := hx.ps.2.2.1
  have hF0 : Fi (K + 2 + d.ps.length) z.fresh := by have := fresh_fi (K := K) (m := 2 + d.ps.length) z (by omega); rw [show K + (2 + d.ps.length) = K + 2 + d.ps.length by omega] at this; exact this
  obtain ⟨np, hnp2⟩ : ∃ np, x.pn = np := ⟨_, rfl⟩
  rw [hnp2] at hnp hn6 c4
  have km : ∀ w : World, (Instr.makeMap 59 none).run Tryd.prog w = .ok (.map (some w.heap.size)) (w.alloc (.map #[] 0)) := fun _ => rfl
  have HI := hide (And.intro hD0 (And.intro hF0 (And.intro hnp hnp2)))
  have HA := hide hA
  have g4 : (np : Int) ≤ 1000000 := by omega
  have HX := hide hx.ps
  clear h hx hA hK x2 x3 hf hlt hfr al hD0 hnp hn6 hF0 hnp2 hmb
  go_enter Tryd.func41, Tryd.ntmps41
  generalize hQQ : bodyPost Tryd.prog Tryd.f41 (fun e w' => e = .returned (.tuple #[]) ∧ RS0 H r mc md w' (rxF K z d).2 ∧ OD w' K lo hi q o (rxF K z d).1 ∧ Fr H (Foot lo hi q o 22) w w') = QQ
  have HQQ := hide hQQ
  clear hQQ
  go_wp2_with fail
  go_loopw [17] (fun iv wr => ∃ (j : Nat) (u rest : List Pr) (y : RZ), iv = .int .i64 j ∧ j ≤ np ∧ Hid (u.length = j ∧ np = j + rest.length ∧ thr (rxP K) z.fresh d.ps = (u ++ (thr (rxP K) y rest).1, (thr (rxP K) y rest).2) ∧ Fi (K + 2 + rest.length) y ∧ DW H r mc md mb K lo i1 i2 i3 i4 i5 hi q o x w { d with ps := u ++ rest } y wr)) (fun iv _ => np - (intOf iv).toNat)
  case atStart =>
    obtain ⟨hD0, hF0, hnp, -⟩ := unhide HI
    exact ⟨0, [], d.ps, z.fresh, rfl, Nat.zero_le _, rfl, by omega, rfl, hF0, hD0⟩
  case round =>
    obtain ⟨j, u, rest, y, rfl, hj, HB⟩ := hrel
    have g3 : (0 : Int) ≤ (j : Int) := by omega
    by_cases hjn : j < np
    · obtain ⟨hu, hn, ht, hF, hD⟩ := unhide HB
      obtain ⟨p, rest, rfl⟩ : ∃ t r2, rest = t :: r2 := by
        cases rest with
        | nil => simp at hn; omega
        | cons t r2 => exact ⟨t, r2, rfl⟩
      obtain ⟨b1, b2, b3, b4, b5, b6⟩ := hD.2.1.ps
      obtain ⟨pq, po, hpa, k1, k2, k3⟩ := b5 (by simp)
      obtain ⟨m1, m2, e1, e2, e3, e4⟩ := k3.at
      have hA := unhide HA
      have hle := hD.2.1.le
      have l1 := OLg.le _ _ _ _ e1
      have l4 := OLg.le _ _ _ _ e4
      rw [hu] at e3
      have hh := hA.h1
      have hA2 : Ap H m1 m2 pq := ⟨by omega, by omega, .inl (by omega)⟩
      have HC := hide (xpar_any hD.1 e3 hA2 (hF.down (by omega)))
      rw [Nat.mul_comm 6 j] at HC
      obtain ⟨c4, -⟩ := hD.cells
      rw [hpa, (unhide HI).2.2.2] at c4
      have HK := hide (And.intro hD (And.intro hu (And.intro hn (And.intro ht (And.intro hF (And.intro hpa (And.intro k1 (And.intro k2 (And.intro e1 (And.intro e2 (And.intro e4 (And.intro b1 (And.intro b2 b3)))))))))))))
      have g1 : (j : Int) < (np : Int) := by omega
      have g2 : decide ((j : Int) < (np : Int)) = true := by simp; omega
      clear hu hn ht hF hD b1 b2 b3 b4 b5 b6 hpa k1 k2 k3 e1 e2 e3 e4 hA hle l1 l4 hA2 hj HB hh
      have HJ := hide hjn
      clear hjn s2 s3 t2 t3 eW0 km
      go_wp2_with fail
      refine (unhide HC).mono ?_
      rintro e w2 ⟨rfl, p1, p2, p3⟩
      have hstep : u.length = j ∧ np = j + (p :: rest).length ∧ DW H r mc md mb K lo i1 i2 i3 i4 i5 hi q o x w { d with ps := (u ++ [(rxP K y p).1]) ++ rest } (rxP K y p).2 w2 ∧ thr (rxP K) z.fresh d.ps = (u ++ (thr (rxP K) y (p :: rest)).1, (thr (rxP K) y (p :: rest)).2) ∧ Fi (K + 2 + rest.length) (rxP K y p).2 := by
        obtain ⟨hD, hu, hn, ht, hF, hpa, k1, k2, e1, e2, e4, b1, b2, b3⟩ := unhide HK
        have hA := unhide HA
        have hle := hD.2.1.le
        have l1 := OLg.le _ _ _ _ e1
        have l4 := OLg.le _ _ _ _ e4
        have hh := hA.h1
        rw [Nat.mul_comm j 6] at p2 p3
        have hrow : OLg 6 (OPm w2 K) pq (pq + 1) i1 po ((u ++ [(rxP K y p).1]) ++ rest) := by
          rw [List.append_assoc, OLg.split]
          refine ⟨m1, OPl.fr e1 p3 (by omega) (by omega) (fun i q1 q2 hk => ?_) (fun k i q1 q2 hk => ?_), m2, e2, by rw [hu]; exact p2, OPl.fr e4 p3 (by omega) (by omega) (fun i q1 q2 hk => ?_) fun k i q1 q2 hk => ?_⟩
          all_goals rcases hk with ⟨g1, g2⟩ | ⟨g1, g2, g3⟩ <;> omega
        have hfp : Fr H (Foot lo i1 0 0 0) wr w2 := p3.mono fun k i hk => by
          rcases hk with ⟨g1, g2⟩ | ⟨g1, g2, g3⟩ <;> exact .inl ⟨by omega, by omega⟩
        have hs := hD.2.1.s_ps hA (l := (u ++ [(rxP K y p).1]) ++ rest) hfp ⟨by rw [b1]; simp, b2, b3, by omega, fun _ => ⟨pq, po, hpa, k1, k2, hrow⟩, fun e => by simp at e⟩
        refine ⟨hu, hn, ⟨p1, hs.1, hD.2.2.trans hs.2⟩, ht, par_fi p ?_⟩
        rw [show K + 2 + (rest.length + 1) = K + 2 + (p :: rest).length by simp]
        exact hF
      have HZ := hide (show (u ++ [(rxP K y p).1]).length = j + 1 ∧ np = (j + 1) + rest.length ∧ thr (rxP K) z.fresh d.ps = ((u ++ [(rxP K y p).1]) ++ (thr (rxP K) (rxP K y p).2 rest).1, (thr (rxP K) (rxP K y p).2 rest).2) ∧ Fi (K + 2 + rest.length) (rxP K y p).2 ∧ DW H r mc md mb K lo i1 i2 i3 i4 i5 hi q o x w { d with ps := (u ++ [(rxP K y p).1]) ++ rest } (rxP K y p).2 w2 from ⟨by simp [hstep.1], by have := hstep.2.1; simp at this; omega, thr_go hstep.2.2.2.1, hstep.2.2.2.2, hstep.2.2.1⟩)
      clear hstep p1 p2 p3 HK HC
      go_wp2
      exact ⟨⟨j + 1, _, rest, _, by push_cast; rfl, by have := unhide HJ; omega, unhide HZ⟩, by simp only [intOf]; have := unhide HJ; omega⟩
    · have g1 : ¬ ((j : Int) < (np : Int)) := by omega
      have g2 : decide ((j : Int) < (np : Int)) = false := by simp; omega
      obtain ⟨hu, hn, ht, hF, hD⟩ := unhide HB
      obtain rfl : rest = [] := List.length_eq_zero_iff.1 (by omega)
      obtain ⟨z1, hz1⟩ : ∃ z1, y = z1 := ⟨_, rfl⟩
      have ep : thr (rxP K) z.fresh d.ps = (u, z1) := by rw [ht, hz1]; simp [thr]
      rw [hz1, List.append_nil] at hD
      rw [hz1] at hF
      have HT := hide (And.intro ep (hF.down (j := K + 2) (by omega)))
      have HD1 := hide hD
      clear hu hn ht hF hD hj hjn HB HI HX s2 s3 t2 t3 eW0 km hz1 ep c4
      have hA := unhide HA
      have hD := unhide HD1
      obtain ⟨-, -, -, c10, -, -, -⟩ := hD.cells
      obtain ⟨X2, hX2⟩ : ∃ X, thr (rxE K) z1 d.req = X := ⟨_, rfl⟩
      have HC := hide (xrow_os hD.1 hD.2.1.req (by have := hD.2.1.le; have := hA.h1; omega) ((unhide HT).2.down (by omega)))
      have hF2 := thr_kp (rx_kp K) d.req z1 ((unhide HT).2.down (by omega))
      rw [show (thr (rxE K) z1 ({ d with ps := u } : Dz).req) = X2 from hX2] at HC
      rw [hX2] at hF2
      have HF2 := hide (show Fi (K + 2) X2.2 from ⟨hF2.1.d0, by rw [hF2.2]; exact (unhide HT).2.d1, hF2.1.b⟩)
      have HE2 := hide hX2
      clear hA hD hF2 hX2
      go_wp2_with fail
      refine (unhide HC).mono ?_
      rintro e w2 ⟨rfl, p1, p2, p3⟩
      have hs := (unhide HD1).2.1.s_req (unhide HA) p3 p2
      have HD2 := hide (show DW H r mc md mb K lo i1 i2 i3 i4 i5 hi q o x w { d with ps := u, req := X2.1 } X2.2 w2 from ⟨p1, hs.1, (unhide HD1).2.2.trans hs.2⟩)
      clear hs p1 p2 p3 HC c10 HD1
      have hA := unhide HA
      have hD := unhide HD2
      obtain ⟨-, c7, c8, -, c11, c12, -⟩ := hD.cells
      obtain ⟨X3, hX3⟩ : ∃ X, undS (thr (rxE K)) d.t.name X2.2 d.t.r = X := ⟨_, rfl⟩
      have HC : Hid (∀ V, (V = w2 ∨ V = (w2).drew) → Calls Tryd.prog 59 #[.pointer (some ⟨r, 0, none⟩), .string d.t.name, .slice x.ta x.tn x.tc] V fun e v => e = .returned (.tuple #[]) ∧ DW H r mc md mb K lo i1 i2 i3 i4 i5 hi q o x w { d with ps := u, req := X2.1, t := d.t.setR X3.1 } X3.2 v) := by
        intro V hV
        have hbV : Below (w2).heap.size (w2) V := by
          rcases hV with e | e
          · rw [e]; exact Below.refl _ _
          · rw [e]; exact (Below.refl _ _).drew
        have hDV := (unhide HD2).below (unhide HA) hbV
        refine (xund_os d.t.name hDV.1 hDV.2.1.ty (by have := hDV.2.1.le; have := (unhide HA).h1; omega) ((unhide HF2).down (by omega))).mono ?_
        rintro e v ⟨rfl, p1, p2, p3⟩
        have hs := hDV.2.1.s_ty (unhide HA) p3 p2
        rw [show undS (thr (rxE K)) d.t.name X2.2 ({ d with ps := u, req := X2.1 } : Dz).t.r = X3 from hX3] at p1 hs
        exact ⟨rfl, p1, hs.1, hDV.2.2.trans hs.2⟩
      have hFk := und_kp (k := K + 1) (fun z l => thr_kp (kp_up (rx_kp K) (by omega)) l z) d.t.name (X2.2) d.t.r (unhide HF2)
      rw [hX3] at hFk
      have HF3 := hide hFk.1
      have HE3 := hide hX3
      clear hA hD hFk hX3
      go_wp2_with fail
      go_region_held3 (fun w' => w'.cell? ⟨q, o + 7, none⟩ = some (.string d.t.name) ∧ w'.cell? ⟨q, o + 8, none⟩ = some (.slice x.ta x.tn x.tc)) (first | assumption | exact ⟨c7, c8⟩ | exact hk3) (first | (go_at_call 59; refine (unhide HC _ (.inr rfl)).mono ?_; rintro e v3 ⟨rfl, hDk⟩; have hk3 : v3.cell? ⟨q, o + 7, none⟩ = some (.string d.t.name) ∧ v3.cell? ⟨q, o + 8, none⟩ = some (.slice x.ta x.tn x.tc) := ⟨hDk.cells.2.1, hDk.cells.2.2.1⟩))
      have HD3 := hide hDk
      clear hDk hk3 HC c7 c8 c11 c12 HD2
      have hD := unhide HD3
      obtain ⟨pw4, -, -, -, -, x4, -, hf, -⟩ := hD.1.cells
      have f4 := hf 4
      have hD2 := hD.set4 (unhide HA) true
      obtain ⟨W4, eW4⟩ : ∃ W, v3.setCell ⟨r, 4, none⟩ (.bool true) = W := ⟨_, rfl⟩
      rw [eW4] at hD2
      have HD4 := hide hD2
      have HF4 := hide (show Fi (K + 2) (X3.2.setE true) from ⟨(unhide HF3).d0, (unhide HF3).d1, (unhide HF3).b⟩)
      clear hD hf hD2 HD3
      obtain ⟨z4, hz4⟩ : ∃ z4, X3.2.setE true = z4 := ⟨_, rfl⟩
      rw [hz4] at HD4 HF4
      have HE4 := hide hz4
      clear hz4
      have hA := unhide HA
      have hD := unhide HD4
      obtain ⟨-, c7, c8, -, c11, c12, -⟩ := hD.cells
      obtain ⟨X5, hX5⟩ : ∃ X, undS (thr (rxE K)) d.res z4 d.ens = X := ⟨_, rfl⟩
      have HC : Hid (∀ V, (V = W4 ∨ V = (W4).drew) → Calls Tryd.prog 59 #[.pointer (some ⟨r, 0, none⟩), .string d.res, .slice x.ea x.en x.ec] V fun e v => e = .returned (.tuple #[]) ∧ DW H r mc md mb K lo i1 i2 i3 i4 i5 hi q o x w { d with ps := u, req := X2.1, t := d.t.setR X3.1, ens := X5.1 } X5.2 v) := by
        intro V hV
        have hbV : Below (W4).heap.size (W4) V := by
          rcases hV with e | e
          · rw [e]; exact Below.refl _ _
          · rw [e]; exact (Below.refl _ _).drew
        have hDV := (unhide HD4).below (unhide HA) hbV
        refine (xund_os d.res hDV.1 hDV.2.1.ens (by have := hDV.2.1.le; have := (unhide HA).h1; omega) ((unhide HF4).down (by omega))).mono ?_
        rintro e v ⟨rfl, p1, p2, p3⟩
        have hs := hDV.2.1.s_ens (unhide HA) p3 p2
        rw [show undS (thr (rxE K)) d.res z4 ({ d with ps := u, req := X2.1, t := d.t.setR X3.1 } : Dz).ens = X5 from hX5] at p1 hs
        exact ⟨rfl, p1, hs.1, hDV.2.2.trans hs.2⟩
      have hFk := und_kp (k := K + 1) (fun z l => thr_kp (kp_up (rx_kp K) (by omega)) l z) d.res (z4) d.ens (unhide HF4)
      rw [hX5] at hFk
      have HF5 := hide hFk.1
      have HE5 := hide hX5
      clear hA hD hFk hX5
      go_wp2_with fail
      go_region_held3 (fun w' => w'.cell? ⟨q, o + 11, none⟩ = some (.string d.res) ∧ w'.cell? ⟨q, o + 12, none⟩ = some (.slice x.ea x.en x.ec)) (first | assumption | exact ⟨c11, c12⟩ | exact hk5) (first | (go_at_call 59; refine (unhide HC _ (.inr rfl)).mono ?_; rintro e v5 ⟨rfl, hDk⟩; have hk5 : v5.cell? ⟨q, o + 11, none⟩ = some (.string d.res) ∧ v5.cell? ⟨q, o + 12, none⟩ = some (.slice x.ea x.en x.ec) := ⟨hDk.cells.2.2.2.2.1, hDk.cells.2.2.2.2.2.1⟩))
      have HD5 := hide hDk
      clear hDk hk5 HC c7 c8 c11 c12 HD4
      clear eW4 x4 f4
      have hD := unhide HD5
      obtain ⟨pw6, -, -, -, -, x4, -, hf, -⟩ := hD.1.cells
      have f4 := hf 4
      have hD2 := hD.set4 (unhide HA) false
      obtain ⟨W6, eW6⟩ : ∃ W, v5.setCell ⟨r, 4, none⟩ (.bool false) = W := ⟨_, rfl⟩
      rw [eW6] at hD2
      have HD6 := hide hD2
      have HF6 := hide (show Fi (K + 2) (X5.2.setE false) from ⟨(unhide HF5).d0, (unhide HF5).d1, (unhide HF5).b⟩)
      clear hD hf hD2 HD5
      obtain ⟨z6, hz6⟩ : ∃ z6, X5.2.setE false = z6 := ⟨_, rfl⟩
      rw [hz6] at HD6 HF6
      have HE6 := hide hz6
      clear hz6
      have hA := unhide HA
      have hD := unhide HD6
      obtain ⟨-, -, -, -, -, -, c13⟩ := hD.cells
      obtain ⟨X7, hX7⟩ : ∃ X, thr (rxE K) z6 d.mea = X := ⟨_, rfl⟩
      have HC := hide (xrow_os hD.1 hD.2.1.mea (by have := hD.2.1.le; have := hA.h1; omega) ((unhide HF6).down (by omega)))
      have hF7 := thr_kp (rx_kp K) d.mea z6 ((unhide HF6).down (by omega))
      rw [show (thr (rxE K) z6 ({ d with ps := u, req := X2.1, t := d.t.setR X3.1, ens := X5.1 } : Dz).mea) = X7 from hX7] at HC
      rw [hX7] at hF7
      have HF7 := hide (show Fi (K + 2) X7.2 from ⟨hF7.1.d0, by rw [hF7.2]; exact (unhide HF6).d1, hF7.1.b⟩)
      have HE7 := hide hX7
      clear hA hD hF7 hX7
      go_wp2_with fail
      refine (unhide HC).mono ?_
      rintro e w7 ⟨rfl, p1, p2, p3⟩
      have hs := (unhide HD6).2.1.s_mea (unhide HA) p3 p2
      have HD7 := hide (show DW H r mc md mb K lo i1 i2 i3 i4 i5 hi q o x w { d with ps := u, req := X2.1, t := d.t.setR X3.1, ens := X5.1, mea := X7.1 } X7.2 w7 from ⟨p1, hs.1, (unhide HD6).2.2.trans hs.2⟩)
      clear hs p1 p2 p3 HC c13 HD6 x4 f4 eW6
      have hA := unhide HA
      have hD := unhide HD7
      obtain ⟨X8, hX8⟩ : ∃ X, rxE (K + 1) X7.2 d.body = X := ⟨_, rfl⟩
      have HC := hide (ec_all H r mc md mb (K + 1) i5 hi q (o + 14) w7 X7.2 d.body hD.1 hD.2.1.body ⟨hA.b1, hA.h1, by have := hA.o1; have := hD.2.1.le; omega⟩ ((unhide HF7).down (by omega)))
      rw [hX8] at HC
      have HE8 := hide hX8
      clear hA hD hX8
      go_wp2_with fail
      refine (unhide HC).mono ?_
      rintro e w8 ⟨rfl, p1, p2, p3⟩
      have hs := (unhide HD7).2.1.s_body (unhide HA) p3 p2
      have hfin : RS0 H r mc md w8 (rxF K z d).2 ∧ OD w8 K lo hi q o (rxF K z d).1 ∧ Fr H (Foot lo hi q o 22) w w8 := by
        have e0 : rxF K z d = ({ d with ps := u, req := X2.1, t := d.t.setR X3.1, ens := X5.1, mea := X7.1, body := X8.1 }, X8.2) := by
          unfold rxF
          rw [(unhide HT).1]
          try dsimp only
          rw [unhide HE2]
          try dsimp only
          rw [unhide HE3]
          try dsimp only
          rw [unhide HE4, unhide HE5]
          try dsimp only
          rw [unhide HE6, unhide HE7]
          try dsimp only
          rw [unhide HE8]
        rw [e0]
        exact ⟨p1.zero, ⟨x, i1, i2, i3, i4, i5, hs.1⟩, (unhide HD7).2.2.trans hs.2⟩
      have HFin := hide hfin
      clear hfin hs p1 p2 p3 HC HD7
      go_wp2
      rw [← unhide HQQ]
      refine bodyPost_end (results_none rfl _ _ _) rfl ?_
      exact ⟨rfl, unhide HFin⟩
end Go.Proofs.YtljhpbjngbbjbaaDoor

namespace Go.Proofs.YtljhpbjngbbjbaaDoor
open Go Go.RowKit
set_option maxRecDepth 100000 in
set_option maxHeartbeats 8000000 in
theorem refus0_any {H r mc md : Nat} {w : World} {z : RZ} (h : RS0 H r mc md w z) (a n : Int) : Calls Tryd.prog 40 #[.pointer (some ⟨r, 0, none⟩), .int .i64 a, .int .i64 n] w fun e w' => e = .returned (.tuple #[]) ∧ RS0 H r mc md w' (z.ref a n) ∧ Below H w w' := by
  obtain ⟨mb, pw, x0, x1, x2, x3, x4, x5, hf, hw⟩ := h.cells
  have f5 := hf 5
  have HR := hide h
  unfold RZ.ref
  cases hz : z.wr with
  | none =>
    rw [hz] at hw
    obtain rfl : pw = none := hw
    obtain ⟨A, eA, hbA, hsA, hhA⟩ := box_new w #[.int .i64 a, .int .i64 n] 67
    have y5 : ∀ o, (w.alloc o).cell? ⟨r, 5, none⟩ = some (.pointer none) := fun o => (((Below.refl w.heap.size w).alloc (Nat.le_refl _) o).cell (p := ⟨r, 5, none⟩) h.lt).trans x5
    have g5 : ∀ o, (w.alloc o).frozen? ⟨r, 5, none⟩ = false := fun o => (((Below.refl w.heap.size w).alloc (Nat.le_refl _) o).frozen (p := ⟨r, 5, none⟩) h.lt).trans f5
    have HA := hide (And.intro hbA (And.intro hsA hhA))
    have HE := hide eA
    clear h hf hbA hsA hhA hz x0 x1 x2 x3 x4 eA
    go_enter Tryd.func40, Tryd.ntmps40
    go_wp2
    refine bodyPost_end (results_none rfl _ _ _) rfl ?_
    have h := unhide HR
    obtain ⟨hbA, hsA, hhA⟩ := unhide HA
    rw [unhide HE]
    have hlt := h.lt
    have hr := h.hr
    obtain ⟨mb', pw', hb1, hb2⟩ := h.box
    have hbx := (hbA.block r hlt).trans hb1
    have hcr : ∀ m es, NM w m es → m ≠ r := fun m es hm e => by
      obtain ⟨a, c, h3, -⟩ := hm
      rw [e, hb1] at h3
      cases h3
    refine ⟨rfl, ⟨⟨mb', some ⟨w.heap.size, 0, none⟩, set_block hbx _, w.heap.size, rfl, by omega, (heap_set 5 _ (by omega)).trans hhA⟩, h.nc.same ((heap_set _ _ (hcr _ _ h.nc)).trans (hbA.block _ h.nc.lt)), h.nd.same ((heap_set _ _ (hcr _ _ h.nd)).trans (hbA.block _ h.nd.lt)), h.hr, h.hc, h.hd, h.ne⟩, below_set (hbA.mono (by omega)) hr _ _⟩
  | some e =>
    rw [hz] at hw
    obtain ⟨p, rfl, hp, hq⟩ := hw
    clear h hf x0 x1 x2 x3 x4 hz hp hq
    go_enter Tryd.func40, Tryd.ntmps40
    go_wp2
    refine bodyPost_end (results_none rfl _ _ _) rfl ?_
    exact ⟨rfl, unhide HR, Below.refl _ _⟩
set_option maxRecDepth 100000 in
set_option maxHeartbeats 8000000 in
theorem declared_any {H r mc md : Nat} {w : World} {z : RZ} (h : RS0 H r mc md w z) (s : ByteArray) : Calls Tryd.prog 39 #[.pointer (some ⟨r, 0, none⟩), .string s] w fun e w' => e = .returned (.bool (z.has s)) ∧ w' = w := by
  obtain ⟨mb, pw, x0, x1, -, -, -, -, -, -⟩ := h.cells
  have l1 := (asked h.nc s).1
  have l2 := (asked h.nd s).1
  unfold RZ.has
  obtain ⟨b1, hb1⟩ : ∃ b, (lkI s z.cells).isSome = b := ⟨_, rfl⟩
  obtain ⟨b2, hb2⟩ : ∃ b, (lkI s z.defs).isSome = b := ⟨_, rfl⟩
  rw [hb1] at l1 ⊢
  rw [hb2] at l2 ⊢
  clear h hb1 hb2
  cases b1 with
  | true =>
    go_enter Tryd.func39, Tryd.ntmps39
    go_wp2
    go_ret
    exact ⟨rfl, rfl⟩
  | false =>
    go_enter Tryd.func39, Tryd.ntmps39
    go_wp2
    go_ret
    exact ⟨by cases b2 <;> rfl, rfl⟩
theorem RS0.putC {H r mc md : Nat} {w w' : World} {z : RZ} (h : RS0 H r mc md w z) (hp : PutAt mc w w') {s : ByteArray} {v : Int} (hn : NM w' mc (iM (ptI s v z.cells))) : RS0 H r mc md w' (z.setC s v) ∧ Below H w w' := by
  obtain ⟨mb, pw, h1, h2⟩ := h.box
  obtain ⟨a, c, hmap, -⟩ := id h.nc
  have hr : r ≠ mc := fun e => by rw [e, hmap] at h1; cases h1
  have hu : Up H mc w w' := fun k _ _ hn => hp.block k hn
  exact ⟨⟨⟨mb, pw, (hp.block r hr).trans h1, h2.up hu fun cs e => by rw [hmap] at e; cases e⟩, hn, h.nd.same (hp.block _ (Ne.symm h.ne)), h.hr, h.hc, h.hd, h.ne⟩, ⟨hp.os, hp.tape, hp.output, by rw [hp.size]; exact Nat.le_refl _, fun k hk => hp.block k (by have := h.hc; omega)⟩⟩
theorem RS0.putD {H r mc md : Nat} {w w' : World} {z : RZ} (h : RS0 H r mc md w z) (hp : PutAt md w w') {s : ByteArray} {v : Int} (hn : NM w' md (iM (ptI s v z.defs))) : RS0 H r mc md w' (z.setD s v) ∧ Below H w w' := by
  obtain ⟨mb, pw, h1, h2⟩ := h.box
  obtain ⟨a, c, hmap, -⟩ := id h.nd
  have hr : r ≠ md := fun e => by rw [e, hmap] at h1; cases h1
  have hu : Up H md w w' := fun k _ _ hn => hp.block k hn
  exact ⟨⟨⟨mb, pw, (hp.block r hr).trans h1, h2.up hu fun cs e => by rw [hmap] at e; cases e⟩, h.nc.same (hp.block _ h.ne), hn, h.hr, h.hc, h.hd, h.ne⟩, ⟨hp.os, hp.tape, hp.output, by rw [hp.size]; exact Nat.le_refl _, fun k hk => hp.block k (by have := h.hd; omega)⟩⟩
theorem OD.low {H K lo hi b o : Nat} {w w' : World} {d : Dz} (hx : OD w K lo hi b o d) (hA : Ap H lo hi b) (h : Below H w w') : OD w' K lo hi b o d := hx.fr (Fr.of (fun _ _ => False) h) hA.b1 hA.h1 (fun _ _ _ h => h) fun _ _ _ _ h => h
theorem OD.cells {K lo hi b o : Nat} {w : World} {d : Dz} (h : OD w K lo hi b o d) : w.cell? ⟨b, o, none⟩ = some (.bool d.cell) ∧ w.cell? ⟨b, o + 1, none⟩ = some (.string d.name) ∧ w.cell? ⟨b, o + 3, none⟩ = some (.bool d.again) ∧ w.cell? ⟨b, o + 21, none⟩ = some (.int .i64 d.at') := by
  obtain ⟨x, i1, i2, i3, i4, i5, h⟩ := h
  exact ⟨h.cells 0 _ rfl, h.cells 1 _ rfl, h.cells 3 _ rfl, h.place⟩
end Go.Proofs.YtljhpbjngbbjbaaDoor
