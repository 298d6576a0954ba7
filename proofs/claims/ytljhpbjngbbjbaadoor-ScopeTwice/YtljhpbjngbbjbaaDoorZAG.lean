/- Package scope: Cells, Defs. -/
import Derived.Test.YtljhpbjngbbjbaaDoorZAF
set_option linter.unusedVariables false
set_option linter.unusedSimpArgs false

/- Package scope: definition. -/
namespace Go.Proofs.YtljhpbjngbbjbaaDoor
open Go Go.RowKit
/-- Within a definition. -/
def DW (H r mc md mb K lo i1 i2 i3 i4 i5 hi q o : Nat) (x : DeV) (w : World) (d : Dz) (z : RZ) (W : World) : Prop := RSt H r mc md mb W z ∧ ODi W K lo i1 i2 i3 i4 i5 hi q o d x ∧ Fr H (Foot lo hi q o 22) w W
theorem DW.cells {H r mc md mb K lo i1 i2 i3 i4 i5 hi q o : Nat} {x : DeV} {w W : World} {d : Dz} {z : RZ} (h : DW H r mc md mb K lo i1 i2 i3 i4 i5 hi q o x w d z W) : W.cell? ⟨q, o + 4, none⟩ = some (.slice x.pa x.pn x.pc) ∧ W.cell? ⟨q, o + 7, none⟩ = some (.string d.t.name) ∧ W.cell? ⟨q, o + 8, none⟩ = some (.slice x.ta x.tn x.tc) ∧ W.cell? ⟨q, o + 10, none⟩ = some (.slice x.ra x.rn x.rc) ∧ W.cell? ⟨q, o + 11, none⟩ = some (.string d.res) ∧ W.cell? ⟨q, o + 12, none⟩ = some (.slice x.ea x.en x.ec) ∧ W.cell? ⟨q, o + 13, none⟩ = some (.slice x.ma x.mn x.mc) := by
  have hc := h.2.1.cells
  exact ⟨hc 4 _ rfl, hc 7 _ rfl, hc 8 _ rfl, hc 10 _ rfl, hc 11 _ rfl, hc 12 _ rfl, hc 13 _ rfl⟩
theorem DW.below {H r mc md mb K lo i1 i2 i3 i4 i5 hi q o : Nat} {x : DeV} {w W V : World} {d : Dz} {z : RZ} (h : DW H r mc md mb K lo i1 i2 i3 i4 i5 hi q o x w d z W) (hA : Ap H lo hi q) (hb : Below W.heap.size W V) : DW H r mc md mb K lo i1 i2 i3 i4 i5 hi q o x w d z V := by
  have hbH : Below H W V := hb.mono h.1.size
  exact ⟨h.1.below hb, h.2.1.fr (Fr.of (fun _ _ => False) hbH) hA.b1 hA.h1 (fun _ _ _ h => h) (fun _ _ _ _ h => h), h.2.2.trans (Fr.of _ hbH)⟩
theorem DW.set4 {H r mc md mb K lo i1 i2 i3 i4 i5 hi q o : Nat} {x : DeV} {w W : World} {d : Dz} {z : RZ} (h : DW H r mc md mb K lo i1 i2 i3 i4 i5 hi q o x w d z W) (hA : Ap H lo hi q) (b : Bool) : DW H r mc md mb K lo i1 i2 i3 i4 i5 hi q o x w d (z.setE b) (W.setCell ⟨r, 4, none⟩ (.bool b)) := by
  have hbH : Below H W (W.setCell ⟨r, 4, none⟩ (.bool b)) := below_set (Below.refl H W) h.1.hr _ _
  exact ⟨h.1.ens b, h.2.1.fr (Fr.of (fun _ _ => False) hbH) hA.b1 hA.h1 (fun _ _ _ h => h) (fun _ _ _ _ h => h), h.2.2.trans (Fr.of _ hbH)⟩
set_option maxRecDepth 100000 in
set_option maxHeartbeats 16000000 in
theorem xdef_any {H r mc md K lo hi q o : Nat} {w : World} {z : RZ} {d : Dz} (h : RS0 H r mc md w z) (hx : OD w K lo hi q o d) (hA : Ap H lo hi q) (hK : K ≤ 1000000) : Calls Tryd.prog 41 #[.pointer (some ⟨r, 0, none⟩), .pointer (some ⟨q, o, none⟩)] w fun e w' => e = .returned (.tuple #[]) ∧ RS0 H r mc md w' (rxF K z d).2 ∧ OD w' K lo hi q o (rxF K z d).1 ∧ Fr H (Foot lo hi q o 22) w w' := by
  obtain ⟨x, i1, i2, i3, i4, i5, hx⟩ := hx
  obtain ⟨mb0, pw, -, -, x2, x3, -, -, hf, -⟩ := h.cells
  have hlt := h.lt
  have hfr := h.fresh
  obtain ⟨mb, hmb⟩ : ∃ mb, w.heap.size = mb := ⟨_, rfl⟩
  have al : ∀ o, Below w.heap.size w (w.alloc o) := fun o => (Below.refl w.heap.size w).alloc (Nat.le_refl _) o
  have s2 : ∀ o, (w.alloc o).cell? ⟨r, 2, none⟩ = some (.map mb0) := fun o => ((al o).cell (p := ⟨r, 2, none⟩) hlt).trans x2
  have s3 : ∀ o, (w.alloc o).cell? ⟨r, 3, none⟩ = some (.int .i64 z.depth) := fun o => ((al o).cell (p := ⟨r, 3, none⟩) hlt).trans x3
  have t2 : ∀ o, (w.alloc o).frozen? ⟨r, 2, none⟩ = false := fun o => ((al o).frozen (p := ⟨r, 2, none⟩) hlt).trans (hf 2)
  have t3 : ∀ o, (w.alloc o).frozen? ⟨r, 3, none⟩ = false := fun o => ((al o).frozen (p := ⟨r, 3, none⟩) hlt).trans (hf 3)
  obtain ⟨W0, eW0⟩ : ∃ W0, ((w.alloc (.map #[] 0)).setCell ⟨r, 2, none⟩ (.map (some w.heap.size))).setCell ⟨r, 3, none⟩ (.int .i64 0) = W0 := ⟨_, rfl⟩
  rw [eW0, hmb] at hfr
  have hD0 : DW H r mc md mb K lo i1 i2 i3 i4 i5 hi q o x w d z.fresh W0 := ⟨hfr.1, hx.fr (Fr.of (fun _ _ => False) hfr.2) hA.b1 hA.h1 (fun _ _ _ h => h) (fun _ _ _ _ h => h), Fr.of _ hfr.2⟩
  obtain ⟨c4, -⟩ := hD0.cells
  have hnp : x.pn = d.ps.length := hx.ps.1
  have hn6 : x.pn ≤ 1000000 := hx.ps.2.2.1
  have hF0 : Fi (K + 2 + d.ps.length) z.fresh := by have := fresh_fi (K := K) (m := 2 + d.ps.length) z (by omega); rw [show K + (2 + d.ps.length) = K + 2 + d.ps.length by omega] at this; exact this
  obtain ⟨np, hnp2⟩ : ∃ np, x.pn = np := ⟨_, rfl⟩
  rw [hnp2] at hnp hn6 c4
  have km : ∀ w : World, (Instr.makeMap 59 none).run Tryd.prog w = .ok (.map (some w.heap.size)) (w.alloc (.map #[] 0)) := fun _ => rfl
  have HI := hide (And.intro hD0 (And.intro hF0 (And.intro hnp hnp2)))
  have HA := hide hA
  have g4 : (np : Int) ≤ 1000000 := by omega
  have HX := hide hx.ps
  clear h hx hA hK x2 x3 hf hlt hfr al hD0 hnp hn6 hF0 hnp2 hmb
  go_enter Tryd.func41, Tryd.ntmps41
  generalize hQQ : bodyPost Tryd.prog Tryd.f41 (fun e w' => e = .returned (.tuple #[]) ∧ RS0 H r mc md w' (rxF K z d).2 ∧ OD w' K lo hi q o (rxF K z d).1 ∧ Fr H (Foot lo hi q o 22) w w') = QQ
  have HQQ := hide hQQ
  clear hQQ
  go_wp2_with fail
  go_loopw [17] (fun iv wr => ∃ (j : Nat) (u rest : List Pr) (y : RZ), iv = .int .i64 j ∧ j ≤ np ∧ Hid (u.length = j ∧ np = j + rest.length ∧ thr (rxP K) z.fresh d.ps = (u ++ (thr (rxP K) y rest).1, (thr (rxP K) y rest).2) ∧ Fi (K + 2 + rest.length) y ∧ DW H r mc md mb K lo i1 i2 i3 i4 i5 hi q o x w { d with ps := u ++ rest } y wr)) (fun iv _ => np - (intOf iv).toNat)
  case atStart =>
    obtain ⟨hD0, hF0, hnp, -⟩ := unhide HI
    exact ⟨0, [], d.ps, z.fresh, rfl, Nat.zero_le _, rfl, by omega, rfl, hF0, hD0⟩
  case round =>
    obtain ⟨j, u, rest, y, rfl, hj, HB⟩ := hrel
    have g3 : (0 : Int) ≤ (j : Int) := by omega
    by_cases hjn : j < np
    · obtain ⟨hu, hn, ht, hF, hD⟩ := unhide HB
      obtain ⟨p, rest, rfl⟩ : ∃ t r2, rest = t :: r2 := by
        cases rest with
        | nil => simp at hn; omega
        | cons t r2 => exact ⟨t, r2, rfl⟩
      obtain ⟨b1, b2, b3, b4, b5, b6⟩ := hD.2.1.ps
      obtain ⟨pq, po, hpa, k1, k2, k3⟩ := b5 (by simp)
      obtain ⟨m1, m2, e1, e2, e3, e4⟩ := k3.at
      have hA := unhide HA
      have hle := hD.2.1.le
      have l1 := OLg.le _ _ _ _ e1
      have l4 := OLg.le _ _ _ _ e4
      rw [hu] at e3
      have hh := hA.h1
      have hA2 : Ap H m1 m2 pq := ⟨by omega, by omega, .inl (by omega)⟩
      have HC := hide (xpar_any hD.1 e3 hA2 (hF.down (by omega)))
      rw [Nat.mul_comm 6 j] at HC
      obtain ⟨c4, -⟩ := hD.cells
      rw [hpa, (unhide HI).2.2.2] at c4
      have HK := hide (And.intro hD (And.intro hu (And.intro hn (And.intro ht (And.intro hF (And.intro hpa (And.intro k1 (And.intro k2 (And.intro e1 (And.intro e2 (And.intro e4 (And.intro b1 (And.intro b2 b3)))))))))))))
      have g1 : (j : Int) < (np : Int) := by omega
      have g2 : decide ((j : Int) < (np : Int)) = true := by simp; omega
      clear hu hn ht hF hD b1 b2 b3 b4 b5 b6 hpa k1 k2 k3 e1 e2 e3 e4 hA hle l1 l4 hA2 hj HB hh
      have HJ := hide hjn
      clear hjn s2 s3 t2 t3 eW0 km
      go_wp2_with fail
      refine (unhide HC).mono ?_
      rintro e w2 ⟨rfl, p1, p2, p3⟩
      have hstep : u.length = j ∧ np = j + (p :: rest).length ∧ DW H r mc md mb K lo i1 i2 i3 i4 i5 hi q o x w { d with ps := (u ++ [(rxP K y p).1]) ++ rest } (rxP K y p).2 w2 ∧ thr (rxP K) z.fresh d.ps = (u ++ (thr (rxP K) y (p :: rest)).1, (thr (rxP K) y (p :: rest)).2) ∧ Fi (K + 2 + rest.length) (rxP K y p).2 := by
        obtain ⟨hD, hu, hn, ht, hF, hpa, k1, k2, e1, e2, e4, b1, b2, b3⟩ := unhide HK
        have hA := unhide HA
        have hle := hD.2.1.le
        have l1 := OLg.le _ _ _ _ e1
        have l4 := OLg.le _ _ _ _ e4
        have hh := hA.h1
        rw [Nat.mul_comm j 6] at p2 p3
        have hrow : OLg 6 (OPm w2 K) pq (pq + 1) i1 po ((u ++ [(rxP K y p).1]) ++ rest) := by
          rw [List.append_assoc, OLg.split]
          refine ⟨m1, OPl.fr e1 p3 (by omega) (by omega) (fun i q1 q2 hk => ?_) (fun k i q1 q2 hk => ?_), m2, e2, by rw [hu]; exact p2, OPl.fr e4 p3 (by omega) (by omega) (fun i q1 q2 hk => ?_) fun k i q1 q2 hk => ?_⟩
          all_goals rcases hk with ⟨g1, g2⟩ | ⟨g1, g2, g3⟩ <;> omega
        have hfp : Fr H (Foot lo i1 0 0 0) wr w2 := p3.mono fun k i hk => by
          rcases hk with ⟨g1, g2⟩ | ⟨g1, g2, g3⟩ <;> exact .inl ⟨by omega, by omega⟩
        have hs := hD.2.1.s_ps hA (l := (u ++ [(rxP K y p).1]) ++ rest) hfp ⟨by rw [b1]; simp, b2, b3, by omega, fun _ => ⟨pq, po, hpa, k1, k2, hrow⟩, fun e => by simp at e⟩
        refine ⟨hu, hn, ⟨p1, hs.1, hD.2.2.trans hs.2⟩, ht, par_fi p ?_⟩
        rw [show K + 2 + (rest.length + 1) = K + 2 + (p :: rest).length by simp]
        exact hF
      have HZ := hide (show (u ++ [(rxP K y p).1]).length = j + 1 ∧ np = (j + 1) + rest.length ∧ thr (rxP K) z.fresh d.ps = ((u ++ [(rxP K y p).1]) ++ (thr (rxP K) (rxP K y p).2 rest).1, (thr (rxP K) (rxP K y p).2 rest).2) ∧ Fi (K + 2 + rest.length) (rxP K y p).2 ∧ DW H r mc md mb K lo i1 i2 i3 i4 i5 hi q o x w { d with ps := (u ++ [(rxP K y p).1]) ++ rest } (rxP K y p).2 w2 from ⟨by simp [hstep.1], by have := hstep.2.1; simp at this; omega, thr_go hstep.2.2.2.1, hstep.2.2.2.2, hstep.2.2.1⟩)
      clear hstep p1 p2 p3 HK HC
      go_wp2
      exact ⟨⟨j + 1, _, rest, _, by push_cast; rfl, by have := unhide HJ; omega, unhide HZ⟩, by simp only [intOf]; have := unhide HJ; omega⟩
    · have g1 : ¬ ((j : Int) < (np : Int)) := by omega
      have g2 : decide ((j : Int) < (np : Int)) = false := by simp; omega
      obtain ⟨hu, hn, ht, hF, hD⟩ := unhide HB
      obtain rfl : rest = [] := List.length_eq_zero_iff.1 (by omega)
      obtain ⟨z1, hz1⟩ : ∃ z1, y = z1 := ⟨_, rfl⟩
      have ep : thr (rxP K) z.fresh d.ps = (u, z1) := by rw [ht, hz1]; simp [thr]
      rw [hz1, List.append_nil] at hD
      rw [hz1] at hF
      have HT := hide (And.intro ep (hF.down (j := K + 2) (by omega)))
      have HD1 := hide hD
      clear hu hn ht hF hD hj hjn HB HI HX s2 s3 t2 t3 eW0 km hz1 ep c4
      have hA := unhide HA
      have hD := unhide HD1
      obtain ⟨-, -, -, c10, -, -, -⟩ := hD.cells
      obtain ⟨X2, hX2⟩ : ∃ X, thr (rxE K) z1 d.req = X := ⟨_, rfl⟩
      have HC := hide (xrow_os hD.1 hD.2.1.req (by have := hD.2.1.le; have := hA.h1; omega) ((unhide HT).2.down (by omega)))
      have hF2 := thr_kp (rx_kp K) d.req z1 ((unhide HT).2.down (by omega))
      rw [show (thr (rxE K) z1 ({ d with ps := u } : Dz).req) = X2 from hX2] at HC
      rw [hX2] at hF2
      have HF2 := hide (show Fi (K + 2) X2.2 from ⟨hF2.1.d0, by rw [hF2.2]; exact (unhide HT).2.d1, hF2.1.b⟩)
      have HE2 := hide hX2
      clear hA hD hF2 hX2
      go_wp2_with fail
      refine (unhide HC).mono ?_
      rintro e w2 ⟨rfl, p1, p2, p3⟩
      have hs := (unhide HD1).2.1.s_req (unhide HA) p3 p2
      have HD2 := hide (show DW H r mc md mb K lo i1 i2 i3 i4 i5 hi q o x w { d with ps := u, req := X2.1 } X2.2 w2 from ⟨p1, hs.1, (unhide HD1).2.2.trans hs.2⟩)
      clear hs p1 p2 p3 HC c10 HD1
      have hA := unhide HA
      have hD := unhide HD2
      obtain ⟨-, c7, c8, -, c11, c12, -⟩ := hD.cells
      obtain ⟨X3, hX3⟩ : ∃ X, undS (thr (rxE K)) d.t.name X2.2 d.t.r = X := ⟨_, rfl⟩
      have HC : Hid (∀ V, (V = w2 ∨ V = (w2).drew) → Calls Tryd.prog 59 #[.pointer (some ⟨r, 0, none⟩), .string d.t.name, .slice x.ta x.tn x.tc] V fun e v => e = .returned (.tuple #[]) ∧ DW H r mc md mb K lo i1 i2 i3 i4 i5 hi q o x w { d with ps := u, req := X2.1, t := d.t.setR X3.1 } X3.2 v) := by
        intro V hV
        have hbV : Below (w2).heap.size (w2) V := by
          rcases hV with e | e
          · rw [e]; exact Below.refl _ _
          · rw [e]; exact (Below.refl _ _).drew
        have hDV := (unhide HD2).below (unhide HA) hbV
        refine (xund_os d.t.name hDV.1 hDV.2.1.ty (by have := hDV.2.1.le; have := (unhide HA).h1; omega) ((unhide HF2).down (by omega))).mono ?_
        rintro e v ⟨rfl, p1, p2, p3⟩
        have hs := hDV.2.1.s_ty (unhide HA) p3 p2
        rw [show undS (thr (rxE K)) d.t.name X2.2 ({ d with ps := u, req := X2.1 } : Dz).t.r = X3 from hX3] at p1 hs
        exact ⟨rfl, p1, hs.1, hDV.2.2.trans hs.2⟩
      have hFk := und_kp (k := K + 1) (fun z l => thr_kp (kp_up (rx_kp K) (by omega)) l z) d.t.name (X2.2) d.t.r (unhide HF2)
      rw [hX3] at hFk
      have HF3 := hide hFk.1
      have HE3 := hide hX3
      clear hA hD hFk hX3
      go_wp2_with fail
      go_region_held3 (fun w' => w'.cell? ⟨q, o + 7, none⟩ = some (.string d.t.name) ∧ w'.cell? ⟨q, o + 8, none⟩ = some (.slice x.ta x.tn x.tc)) (first | assumption | exact ⟨c7, c8⟩ | exact hk3) (first | (go_at_call 59; refine (unhide HC _ (.inr rfl)).mono ?_; rintro e v3 ⟨rfl, hDk⟩; have hk3 : v3.cell? ⟨q, o + 7, none⟩ = some (.string d.t.name) ∧ v3.cell? ⟨q, o + 8, none⟩ = some (.slice x.ta x.tn x.tc) := ⟨hDk.cells.2.1, hDk.cells.2.2.1⟩))
      have HD3 := hide hDk
      clear hDk hk3 HC c7 c8 c11 c12 HD2
      have hD := unhide HD3
      obtain ⟨pw4, -, -, -, -, x4, -, hf, -⟩ := hD.1.cells
      have f4 := hf 4
      have hD2 := hD.set4 (unhide HA) true
      obtain ⟨W4, eW4⟩ : ∃ W, v3.setCell ⟨r, 4, none⟩ (.bool true) = W := ⟨_, rfl⟩
      rw [eW4] at hD2
      have HD4 := hide hD2
      have HF4 := hide (show Fi (K + 2) (X3.2.setE true) from ⟨(unhide HF3).d0, (unhide HF3).d1, (unhide HF3).b⟩)
      clear hD hf hD2 HD3
      obtain ⟨z4, hz4⟩ : ∃ z4, X3.2.setE true = z4 := ⟨_, rfl⟩
      rw [hz4] at HD4 HF4
      have HE4 := hide hz4
      clear hz4
      have hA := unhide HA
      have hD := unhide HD4
      obtain ⟨-, c7, c8, -, c11, c12, -⟩ := hD.cells
      obtain ⟨X5, hX5⟩ : ∃ X, undS (thr (rxE K)) d.res z4 d.ens = X := ⟨_, rfl⟩
      have HC : Hid (∀ V, (V = W4 ∨ V = (W4).drew) → Calls Tryd.prog 59 #[.pointer (some ⟨r, 0, none⟩), .string d.res, .slice x.ea x.en x.ec] V fun e v => e = .returned (.tuple #[]) ∧ DW H r mc md mb K lo i1 i2 i3 i4 i5 hi q o x w { d with ps := u, req := X2.1, t := d.t.setR X3.1, ens := X5.1 } X5.2 v) := by
        intro V hV
        have hbV : Below (W4).heap.size (W4) V := by
          rcases hV with e | e
          · rw [e]; exact Below.refl _ _
          · rw [e]; exact (Below.refl _ _).drew
        have hDV := (unhide HD4).below (unhide HA) hbV
        refine (xund_os d.res hDV.1 hDV.2.1.ens (by have := hDV.2.1.le; have := (unhide HA).h1; omega) ((unhide HF4).down (by omega))).mono ?_
        rintro e v ⟨rfl, p1, p2, p3⟩
        have hs := hDV.2.1.s_ens (unhide HA) p3 p2
        rw [show undS (thr (rxE K)) d.res z4 ({ d with ps := u, req := X2.1, t := d.t.setR X3.1 } : Dz).ens = X5 from hX5] at p1 hs
        exact ⟨rfl, p1, hs.1, hDV.2.2.trans hs.2⟩
      have hFk := und_kp (k := K + 1) (fun z l => thr_kp (kp_up (rx_kp K) (by omega)) l z) d.res (z4) d.ens (unhide HF4)
      rw [hX5] at hFk
      have HF5 := hide hFk.1
      have HE5 := hide hX5
      clear hA hD hFk hX5
      go_wp2_with fail
      go_region_held3 (fun w' => w'.cell? ⟨q, o + 11, none⟩ = some (.string d.res) ∧ w'.cell? ⟨q, o + 12, none⟩ = some (.slice x.ea x.en x.ec)) (first | assumption | exact ⟨c11, c12⟩ | exact hk5) (first | (go_at_call 59; refine (unhide HC _ (.inr rfl)).mono ?_; rintro e v5 ⟨rfl, hDk⟩; have hk5 : v5.cell? ⟨q, o + 11, none⟩ = some (.string d.res) ∧ v5.cell? ⟨q, o + 12, none⟩ = some (.slice x.ea x.en x.ec) := ⟨hDk.cells.2.2.2.2.1, hDk.cells.2.2.2.2.2.1⟩))
      have HD5 := hide hDk
      clear hDk hk5 HC c7 c8 c11 c12 HD4
      clear eW4 x4 f4
      have hD := unhide HD5
      obtain ⟨pw6, -, -, -, -, x4, -, hf, -⟩ := hD.1.cells
      have f4 := hf 4
      have hD2 := hD.set4 (unhide HA) false
      obtain ⟨W6, eW6⟩ : ∃ W, v5.setCell ⟨r, 4, none⟩ (.bool false) = W := ⟨_, rfl⟩
      rw [eW6] at hD2
      have HD6 := hide hD2
      have HF6 := hide (show Fi (K + 2) (X5.2.setE false) from ⟨(unhide HF5).d0, (unhide HF5).d1, (unhide HF5).b⟩)
      clear hD hf hD2 HD5
      obtain ⟨z6, hz6⟩ : ∃ z6, X5.2.setE false = z6 := ⟨_, rfl⟩
      rw [hz6] at HD6 HF6
      have HE6 := hide hz6
      clear hz6
      have hA := unhide HA
      have hD := unhide HD6
      obtain ⟨-, -, -, -, -, -, c13⟩ := hD.cells
      obtain ⟨X7, hX7⟩ : ∃ X, thr (rxE K) z6 d.mea = X := ⟨_, rfl⟩
      have HC := hide (xrow_os hD.1 hD.2.1.mea (by have := hD.2.1.le; have := hA.h1; omega) ((unhide HF6).down (by omega)))
      have hF7 := thr_kp (rx_kp K) d.mea z6 ((unhide HF6).down (by omega))
      rw [show (thr (rxE K) z6 ({ d with ps := u, req := X2.1, t := d.t.setR X3.1, ens := X5.1 } : Dz).mea) = X7 from hX7] at HC
      rw [hX7] at hF7
      have HF7 := hide (show Fi (K + 2) X7.2 from ⟨hF7.1.d0, by rw [hF7.2]; exact (unhide HF6).d1, hF7.1.b⟩)
      have HE7 := hide hX7
      clear hA hD hF7 hX7
      go_wp2_with fail
      refine (unhide HC).mono ?_
      rintro e w7 ⟨rfl, p1, p2, p3⟩
      have hs := (unhide HD6).2.1.s_mea (unhide HA) p3 p2
      have HD7 := hide (show DW H r mc md mb K lo i1 i2 i3 i4 i5 hi q o x w { d with ps := u, req := X2.1, t := d.t.setR X3.1, ens := X5.1, mea := X7.1 } X7.2 w7 from ⟨p1, hs.1, (unhide HD6).2.2.trans hs.2⟩)
      clear hs p1 p2 p3 HC c13 HD6 x4 f4 eW6
      have hA := unhide HA
      have hD := unhide HD7
      obtain ⟨X8, hX8⟩ : ∃ X, rxE (K + 1) X7.2 d.body = X := ⟨_, rfl⟩
      have HC := hide (ec_all H r mc md mb (K + 1) i5 hi q (o + 14) w7 X7.2 d.body hD.1 hD.2.1.body ⟨hA.b1, hA.h1, by have := hA.o1; have := hD.2.1.le; omega⟩ ((unhide HF7).down (by omega)))
      rw [hX8] at HC
      have HE8 := hide hX8
      clear hA hD hX8
      go_wp2_with fail
      refine (unhide HC).mono ?_
      rintro e w8 ⟨rfl, p1, p2, p3⟩
      have hs := (unhide HD7).2.1.s_body (unhide HA) p3 p2
      have hfin : RS0 H r mc md w8 (rxF K z d).2 ∧ OD w8 K lo hi q o (rxF K z d).1 ∧ Fr H (Foot lo hi q o 22) w w8 := by
        have e0 : rxF K z d = ({ d with ps := u, req := X2.1, t := d.t.setR X3.1, ens := X5.1, mea := X7.1, body := X8.1 }, X8.2) := by
          unfold rxF
          rw [(unhide HT).1]
          try dsimp only
          rw [unhide HE2]
          try dsimp only
          rw [unhide HE3]
          try dsimp only
          rw [unhide HE4, unhide HE5]
          try dsimp only
          rw [unhide HE6, unhide HE7]
          try dsimp only
          rw [unhide HE8]
        rw [e0]
        exact ⟨p1.zero, ⟨x, i1, i2, i3, i4, i5, hs.1⟩, (unhide HD7).2.2.trans hs.2⟩
      have HFin := hide hfin
      clear hfin hs p1 p2 p3 HC HD7
      go_wp2
      rw [← unhide HQQ]
      refine bodyPost_end (results_none rfl _ _ _) rfl ?_
      exact ⟨rfl, unhide HFin⟩
end Go.Proofs.YtljhpbjngbbjbaaDoor

/- Package scope: between declarations. -/
namespace Go.Proofs.YtljhpbjngbbjbaaDoor
open Go Go.RowKit
set_option maxRecDepth 100000 in
set_option maxHeartbeats 8000000 in
theorem refus0_any {H r mc md : Nat} {w : World} {z : RZ} (h : RS0 H r mc md w z) (a n : Int) : Calls Tryd.prog 40 #[.pointer (some ⟨r, 0, none⟩), .int .i64 a, .int .i64 n] w fun e w' => e = .returned (.tuple #[]) ∧ RS0 H r mc md w' (z.ref a n) ∧ Below H w w' := by
  obtain ⟨mb, pw, x0, x1, x2, x3, x4, x5, hf, hw⟩ := h.cells
  have f5 := hf 5
  have HR := hide h
  unfold RZ.ref
  cases hz : z.wr with
  | none =>
    rw [hz] at hw
    obtain rfl : pw = none := hw
    obtain ⟨A, eA, hbA, hsA, hhA⟩ := box_new w #[.int .i64 a, .int .i64 n] 67
    have y5 : ∀ o, (w.alloc o).cell? ⟨r, 5, none⟩ = some (.pointer none) := fun o => (((Below.refl w.heap.size w).alloc (Nat.le_refl _) o).cell (p := ⟨r, 5, none⟩) h.lt).trans x5
    have g5 : ∀ o, (w.alloc o).frozen? ⟨r, 5, none⟩ = false := fun o => (((Below.refl w.heap.size w).alloc (Nat.le_refl _) o).frozen (p := ⟨r, 5, none⟩) h.lt).trans f5
    have HA := hide (And.intro hbA (And.intro hsA hhA))
    have HE := hide eA
    clear h hf hbA hsA hhA hz x0 x1 x2 x3 x4 eA
    go_enter Tryd.func40, Tryd.ntmps40
    go_wp2
    refine bodyPost_end (results_none rfl _ _ _) rfl ?_
    have h := unhide HR
    obtain ⟨hbA, hsA, hhA⟩ := unhide HA
    rw [unhide HE]
    have hlt := h.lt
    have hr := h.hr
    obtain ⟨mb', pw', hb1, hb2⟩ := h.box
    have hbx := (hbA.block r hlt).trans hb1
    have hcr : ∀ m es, NM w m es → m ≠ r := fun m es hm e => by
      obtain ⟨a, c, h3, -⟩ := hm
      rw [e, hb1] at h3
      cases h3
    refine ⟨rfl, ⟨⟨mb', some ⟨w.heap.size, 0, none⟩, set_block hbx _, w.heap.size, rfl, by omega, (heap_set 5 _ (by omega)).trans hhA⟩, h.nc.same ((heap_set _ _ (hcr _ _ h.nc)).trans (hbA.block _ h.nc.lt)), h.nd.same ((heap_set _ _ (hcr _ _ h.nd)).trans (hbA.block _ h.nd.lt)), h.hr, h.hc, h.hd, h.ne⟩, below_set (hbA.mono (by omega)) hr _ _⟩
  | some e =>
    rw [hz] at hw
    obtain ⟨p, rfl, hp, hq⟩ := hw
    clear h hf x0 x1 x2 x3 x4 hz hp hq
    go_enter Tryd.func40, Tryd.ntmps40
    go_wp2
    refine bodyPost_end (results_none rfl _ _ _) rfl ?_
    exact ⟨rfl, unhide HR, Below.refl _ _⟩
set_option maxRecDepth 100000 in
set_option maxHeartbeats 8000000 in
theorem declared_any {H r mc md : Nat} {w : World} {z : RZ} (h : RS0 H r mc md w z) (s : ByteArray) : Calls Tryd.prog 39 #[.pointer (some ⟨r, 0, none⟩), .string s] w fun e w' => e = .returned (.bool (z.has s)) ∧ w' = w := by
  obtain ⟨mb, pw, x0, x1, -, -, -, -, -, -⟩ := h.cells
  have l1 := (asked h.nc s).1
  have l2 := (asked h.nd s).1
  unfold RZ.has
  obtain ⟨b1, hb1⟩ : ∃ b, (lkI s z.cells).isSome = b := ⟨_, rfl⟩
  obtain ⟨b2, hb2⟩ : ∃ b, (lkI s z.defs).isSome = b := ⟨_, rfl⟩
  rw [hb1] at l1 ⊢
  rw [hb2] at l2 ⊢
  clear h hb1 hb2
  cases b1 with
  | true =>
    go_enter Tryd.func39, Tryd.ntmps39
    go_wp2
    go_ret
    exact ⟨rfl, rfl⟩
  | false =>
    go_enter Tryd.func39, Tryd.ntmps39
    go_wp2
    go_ret
    exact ⟨by cases b2 <;> rfl, rfl⟩
theorem RS0.putC {H r mc md : Nat} {w w' : World} {z : RZ} (h : RS0 H r mc md w z) (hp : PutAt mc w w') {s : ByteArray} {v : Int} (hn : NM w' mc (iM (ptI s v z.cells))) : RS0 H r mc md w' (z.setC s v) ∧ Below H w w' := by
  obtain ⟨mb, pw, h1, h2⟩ := h.box
  obtain ⟨a, c, hmap, -⟩ := id h.nc
  have hr : r ≠ mc := fun e => by rw [e, hmap] at h1; cases h1
  have hu : Up H mc w w' := fun k _ _ hn => hp.block k hn
  exact ⟨⟨⟨mb, pw, (hp.block r hr).trans h1, h2.up hu fun cs e => by rw [hmap] at e; cases e⟩, hn, h.nd.same (hp.block _ (Ne.symm h.ne)), h.hr, h.hc, h.hd, h.ne⟩, ⟨hp.os, hp.tape, hp.output, by rw [hp.size]; exact Nat.le_refl _, fun k hk => hp.block k (by have := h.hc; omega)⟩⟩
theorem RS0.putD {H r mc md : Nat} {w w' : World} {z : RZ} (h : RS0 H r mc md w z) (hp : PutAt md w w') {s : ByteArray} {v : Int} (hn : NM w' md (iM (ptI s v z.defs))) : RS0 H r mc md w' (z.setD s v) ∧ Below H w w' := by
  obtain ⟨mb, pw, h1, h2⟩ := h.box
  obtain ⟨a, c, hmap, -⟩ := id h.nd
  have hr : r ≠ md := fun e => by rw [e, hmap] at h1; cases h1
  have hu : Up H md w w' := fun k _ _ hn => hp.block k hn
  exact ⟨⟨⟨mb, pw, (hp.block r hr).trans h1, h2.up hu fun cs e => by rw [hmap] at e; cases e⟩, h.nc.same (hp.block _ h.ne), hn, h.hr, h.hc, h.hd, h.ne⟩, ⟨hp.os, hp.tape, hp.output, by rw [hp.size]; exact Nat.le_refl _, fun k hk => hp.block k (by have := h.hd; omega)⟩⟩
theorem OD.low {H K lo hi b o : Nat} {w w' : World} {d : Dz} (hx : OD w K lo hi b o d) (hA : Ap H lo hi b) (h : Below H w w') : OD w' K lo hi b o d := hx.fr (Fr.of (fun _ _ => False) h) hA.b1 hA.h1 (fun _ _ _ h => h) fun _ _ _ _ h => h
theorem OD.cells {K lo hi b o : Nat} {w : World} {d : Dz} (h : OD w K lo hi b o d) : w.cell? ⟨b, o, none⟩ = some (.bool d.cell) ∧ w.cell? ⟨b, o + 1, none⟩ = some (.string d.name) ∧ w.cell? ⟨b, o + 3, none⟩ = some (.bool d.again) ∧ w.cell? ⟨b, o + 21, none⟩ = some (.int .i64 d.at') := by
  obtain ⟨x, i1, i2, i3, i4, i5, h⟩ := h
  exact ⟨h.cells 0 _ rfl, h.cells 1 _ rfl, h.cells 3 _ rfl, h.place⟩
end Go.Proofs.YtljhpbjngbbjbaaDoor

/- Package scope: decl. -/
namespace Go.Proofs.YtljhpbjngbbjbaaDoor
open Go Go.RowKit
set_option maxRecDepth 100000 in
set_option maxHeartbeats 16000000 in
theorem xdecl_any {H r mc md K lo hi q o : Nat} {w : World} {z : RZ} {d : Dz} (h : RS0 H r mc md w z) (hx : OD w K lo hi q o d) (hA : Ap H lo hi q) (hK : K ≤ 1000000) : Calls Tryd.prog 23 #[.pointer (some ⟨r, 0, none⟩), .pointer (some ⟨q, o, none⟩)] w fun e w' => e = .returned (.tuple #[]) ∧ RS0 H r mc md w' (rxD K z d).2 ∧ OD w' K lo hi q o (rxD K z d).1 ∧ Fr H (Foot lo hi q o 22) w w' := by
  obtain ⟨c0, c1, c3, c21⟩ := hx.cells
  have HD := hide (declared_any h d.name)
  have HRF := hide (refus0_any h d.at' 171)
  have HR0 := hide h
  have HX := hide hx
  have HA := hide hA
  have HK := hide hK
  unfold rxD
  clear h hx hA hK
  cases hs : z.has d.name with
  | true =>
    rw [hs] at HD
    rw [if_pos rfl]
    obtain ⟨z1, hz1⟩ : ∃ z1, z.ref d.at' 171 = z1 := ⟨_, rfl⟩
    rw [hz1] at HRF ⊢
    clear hs c0 c3
    go_enter Tryd.func23, Tryd.ntmps23
    go_wp2_with fail
    refine (unhide HD).mono ?_
    rintro e w0 ⟨rfl, hw0⟩
    rw [hw0]
    clear hw0
    go_wp2_with fail
    refine (unhide HRF).mono ?_
    rintro e W1 ⟨rfl, hRq, hbq⟩
    have HR1 := hide hRq
    have HX1 := hide ((unhide HX).low (unhide HA) hbq)
    have HB1 := hide hbq
    clear hRq hbq hz1 HD HRF HR0 c1 c21 HX
    obtain ⟨c0, c1, c3, -⟩ := (unhide HX1).cells
    obtain ⟨mb, pw, x0, x1, -, -, -, -, -, -⟩ := (unhide HR1).cells
    have nl := (nm_len (ty := 3) umI (unhide HR1).nc)
    have ml := (nm_len (ty := 3) umI (unhide HR1).nd)
    rw [iM_len] at nl ml
    cases hcell : d.cell with
    | true =>
      rw [hcell] at c0
      obtain ⟨V, hrun, hput, hN⟩ := updated ((unhide HR1).below (Below.refl _ W1).drew).nc d.name z1.cells.length
      have hB := ((unhide HR1).below (Below.refl _ W1).drew).putC hput hN
      have hBW : Below H W1 V := (Below.refl H W1).drew.trans hB.2
      have HF := hide (show RS0 H r mc md V (rxC K z1 d).2 ∧ OD V K lo hi q o (rxC K z1 d).1 ∧ Fr H (Foot lo hi q o 22) w V from by
        have e : rxC K z1 d = (d, z1.setC d.name z1.cells.length) := by unfold rxC; rw [if_pos hcell]
        rw [e]
        exact ⟨hB.1, (unhide HX1).low (unhide HA) hBW, Fr.of _ ((unhide HB1).trans hBW)⟩)
      clear hput hN hB hBW hcell ml x1 c3
      go_wp2_with fail
      go_region
      go_wp2
      refine bodyPost_ret (results_none rfl _ _ _) rfl ?_
      exact ⟨rfl, unhide HF⟩
    | false =>
      rw [hcell] at c0
      obtain ⟨N, hN0⟩ : ∃ N : Int, (z1.defs.length : Int) = N := ⟨_, rfl⟩
      rw [hN0] at ml
      have HC0 := hide (And.intro hcell hN0)
      clear hcell nl x0 hN0
      cases hag : d.again with
      | true =>
        rw [hag] at c3
        obtain ⟨V, hrun, hput, hN⟩ := updated ((unhide HR1).below (Below.refl _ W1).drew).nd d.name N
        have hB := ((unhide HR1).below (Below.refl _ W1).drew).putD hput hN
        have hBW : Below H W1 V := (Below.refl H W1).drew.trans hB.2
        have hXV := (unhide HX1).low (unhide HA) hBW
        have HC := hide (xdef_any hB.1 hXV (unhide HA) (unhide HK))
        have HB2 := hide ((unhide HB1).trans hBW)
        have HAG := hide hag
        clear hput hN hB hBW hXV hag
        go_wp2_with fail
        go_region
        go_wp2_with fail
        refine (unhide HC).mono ?_
        rintro e w2 ⟨rfl, p1, p2, p3⟩
        have hcd := p2.cells
        obtain ⟨-, e1, -, -⟩ := hcd
        have ename : (rxF K (z1.setD d.name N) d).1.name = d.name := rfl
        rw [ename] at e1
        obtain ⟨mb2, pw2, -, y1, -, -, -, -, -, -⟩ := p1.cells
        obtain ⟨V2, hrun2, hput2, hN2⟩ := updated (p1.below (Below.refl _ w2).drew).nd d.name N
        have hB2 := (p1.below (Below.refl _ w2).drew).putD hput2 hN2
        have hBW2 : Below H w2 V2 := (Below.refl H w2).drew.trans hB2.2
        have HF := hide (show RS0 H r mc md V2 (rxC K z1 d).2 ∧ OD V2 K lo hi q o (rxC K z1 d).1 ∧ Fr H (Foot lo hi q o 22) w V2 from by
          have e : rxC K z1 d = ((rxF K (z1.setD d.name N) d).1, (rxF K (z1.setD d.name N) d).2.setD d.name N) := by
            unfold rxC
            rw [if_neg (by rw [(unhide HC0).1]; simp), if_pos (unhide HAG), (unhide HC0).2]
          rw [e]
          exact ⟨hB2.1, p2.low (unhide HA) hBW2, ((Fr.of _ (unhide HB2)).trans p3).trans (Fr.of _ hBW2)⟩)
        clear p1 p2 p3 hput2 hN2 hB2 hBW2 HC ename
        go_wp2_with fail
        go_region
        go_wp2
        refine bodyPost_end (results_none rfl _ _ _) rfl ?_
        exact ⟨rfl, unhide HF⟩
      | false =>
        rw [hag] at c3
        have HC := hide (xdef_any (unhide HR1) (unhide HX1) (unhide HA) (unhide HK))
        have HB2 := hide (unhide HB1)
        have HAG := hide hag
        clear hag
        go_wp2_with fail
        refine (unhide HC).mono ?_
        rintro e w2 ⟨rfl, p1, p2, p3⟩
        have hcd := p2.cells
        obtain ⟨-, e1, -, -⟩ := hcd
        have ename : (rxF K (z1) d).1.name = d.name := rfl
        rw [ename] at e1
        obtain ⟨mb2, pw2, -, y1, -, -, -, -, -, -⟩ := p1.cells
        obtain ⟨V2, hrun2, hput2, hN2⟩ := updated (p1.below (Below.refl _ w2).drew).nd d.name N
        have hB2 := (p1.below (Below.refl _ w2).drew).putD hput2 hN2
        have hBW2 : Below H w2 V2 := (Below.refl H w2).drew.trans hB2.2
        have HF := hide (show RS0 H r mc md V2 (rxC K z1 d).2 ∧ OD V2 K lo hi q o (rxC K z1 d).1 ∧ Fr H (Foot lo hi q o 22) w V2 from by
          have e : rxC K z1 d = ((rxF K (z1) d).1, (rxF K (z1) d).2.setD d.name N) := by
            unfold rxC
            rw [if_neg (by rw [(unhide HC0).1]; simp), if_neg (by rw [unhide HAG]; simp), (unhide HC0).2]
          rw [e]
          exact ⟨hB2.1, p2.low (unhide HA) hBW2, ((Fr.of _ (unhide HB2)).trans p3).trans (Fr.of _ hBW2)⟩)
        clear p1 p2 p3 hput2 hN2 hB2 hBW2 HC ename
        go_wp2_with fail
        go_region
        go_wp2
        refine bodyPost_end (results_none rfl _ _ _) rfl ?_
        exact ⟨rfl, unhide HF⟩
  | false =>
    rw [hs] at HD
    rw [if_neg (by simp)]
    clear hs c0 c1 c3
    go_enter Tryd.func23, Tryd.ntmps23
    have c1 := (unhide HX).cells.2.1
    go_wp2_with fail
    refine (unhide HD).mono ?_
    rintro e W1 ⟨rfl, rfl⟩
    obtain ⟨z1, hz1⟩ : ∃ z1, z = z1 := ⟨_, rfl⟩
    have HR1 := hide (unhide HR0)
    have HX1 := hide (unhide HX)
    have HB1 := hide (Below.refl H W1)
    subst hz1
    clear HD HRF HR0 c1 c21 HX
    obtain ⟨c0, c1, c3, -⟩ := (unhide HX1).cells
    obtain ⟨mb, pw, x0, x1, -, -, -, -, -, -⟩ := (unhide HR1).cells
    have nl := (nm_len (ty := 3) umI (unhide HR1).nc)
    have ml := (nm_len (ty := 3) umI (unhide HR1).nd)
    rw [iM_len] at nl ml
    cases hcell : d.cell with
    | true =>
      rw [hcell] at c0
      obtain ⟨V, hrun, hput, hN⟩ := updated ((unhide HR1).below (Below.refl _ W1).drew).nc d.name z.cells.length
      have hB := ((unhide HR1).below (Below.refl _ W1).drew).putC hput hN
      have hBW : Below H W1 V := (Below.refl H W1).drew.trans hB.2
      have HF := hide (show RS0 H r mc md V (rxC K z d).2 ∧ OD V K lo hi q o (rxC K z d).1 ∧ Fr H (Foot lo hi q o 22) W1 V from by
        have e : rxC K z d = (d, z.setC d.name z.cells.length) := by unfold rxC; rw [if_pos hcell]
        rw [e]
        exact ⟨hB.1, (unhide HX1).low (unhide HA) hBW, Fr.of _ ((unhide HB1).trans hBW)⟩)
      clear hput hN hB hBW hcell ml x1 c3
      go_wp2_with fail
      go_region
      go_wp2
      refine bodyPost_ret (results_none rfl _ _ _) rfl ?_
      exact ⟨rfl, unhide HF⟩
    | false =>
      rw [hcell] at c0
      obtain ⟨N, hN0⟩ : ∃ N : Int, (z.defs.length : Int) = N := ⟨_, rfl⟩
      rw [hN0] at ml
      have HC0 := hide (And.intro hcell hN0)
      clear hcell nl x0 hN0
      cases hag : d.again with
      | true =>
        rw [hag] at c3
        obtain ⟨V, hrun, hput, hN⟩ := updated ((unhide HR1).below (Below.refl _ W1).drew).nd d.name N
        have hB := ((unhide HR1).below (Below.refl _ W1).drew).putD hput hN
        have hBW : Below H W1 V := (Below.refl H W1).drew.trans hB.2
        have hXV := (unhide HX1).low (unhide HA) hBW
        have HC := hide (xdef_any hB.1 hXV (unhide HA) (unhide HK))
        have HB2 := hide ((unhide HB1).trans hBW)
        have HAG := hide hag
        clear hput hN hB hBW hXV hag
        go_wp2_with fail
        go_region
        go_wp2_with fail
        refine (unhide HC).mono ?_
        rintro e w2 ⟨rfl, p1, p2, p3⟩
        have hcd := p2.cells
        obtain ⟨-, e1, -, -⟩ := hcd
        have ename : (rxF K (z.setD d.name N) d).1.name = d.name := rfl
        rw [ename] at e1
        obtain ⟨mb2, pw2, -, y1, -, -, -, -, -, -⟩ := p1.cells
        obtain ⟨V2, hrun2, hput2, hN2⟩ := updated (p1.below (Below.refl _ w2).drew).nd d.name N
        have hB2 := (p1.below (Below.refl _ w2).drew).putD hput2 hN2
        have hBW2 : Below H w2 V2 := (Below.refl H w2).drew.trans hB2.2
        have HF := hide (show RS0 H r mc md V2 (rxC K z d).2 ∧ OD V2 K lo hi q o (rxC K z d).1 ∧ Fr H (Foot lo hi q o 22) W1 V2 from by
          have e : rxC K z d = ((rxF K (z.setD d.name N) d).1, (rxF K (z.setD d.name N) d).2.setD d.name N) := by
            unfold rxC
            rw [if_neg (by rw [(unhide HC0).1]; simp), if_pos (unhide HAG), (unhide HC0).2]
          rw [e]
          exact ⟨hB2.1, p2.low (unhide HA) hBW2, ((Fr.of _ (unhide HB2)).trans p3).trans (Fr.of _ hBW2)⟩)
        clear p1 p2 p3 hput2 hN2 hB2 hBW2 HC ename
        go_wp2_with fail
        go_region
        go_wp2
        refine bodyPost_end (results_none rfl _ _ _) rfl ?_
        exact ⟨rfl, unhide HF⟩
      | false =>
        rw [hag] at c3
        have HC := hide (xdef_any (unhide HR1) (unhide HX1) (unhide HA) (unhide HK))
        have HB2 := hide (unhide HB1)
        have HAG := hide hag
        clear hag
        go_wp2_with fail
        refine (unhide HC).mono ?_
        rintro e w2 ⟨rfl, p1, p2, p3⟩
        have hcd := p2.cells
        obtain ⟨-, e1, -, -⟩ := hcd
        have ename : (rxF K (z) d).1.name = d.name := rfl
        rw [ename] at e1
        obtain ⟨mb2, pw2, -, y1, -, -, -, -, -, -⟩ := p1.cells
        obtain ⟨V2, hrun2, hput2, hN2⟩ := updated (p1.below (Below.refl _ w2).drew).nd d.name N
        have hB2 := (p1.below (Below.refl _ w2).drew).putD hput2 hN2
        have hBW2 : Below H w2 V2 := (Below.refl H w2).drew.trans hB2.2
        have HF := hide (show RS0 H r mc md V2 (rxC K z d).2 ∧ OD V2 K lo hi q o (rxC K z d).1 ∧ Fr H (Foot lo hi q o 22) W1 V2 from by
          have e : rxC K z d = ((rxF K (z) d).1, (rxF K (z) d).2.setD d.name N) := by
            unfold rxC
            rw [if_neg (by rw [(unhide HC0).1]; simp), if_neg (by rw [unhide HAG]; simp), (unhide HC0).2]
          rw [e]
          exact ⟨hB2.1, p2.low (unhide HA) hBW2, ((Fr.of _ (unhide HB2)).trans p3).trans (Fr.of _ hBW2)⟩)
        clear p1 p2 p3 hput2 hN2 hB2 hBW2 HC ename
        go_wp2_with fail
        go_region
        go_wp2
        refine bodyPost_end (results_none rfl _ _ _) rfl ?_
        exact ⟨rfl, unhide HF⟩
end Go.Proofs.YtljhpbjngbbjbaaDoor

/- Package scope: copied of no declarations; newResolver. -/
namespace Go.Proofs.YtljhpbjngbbjbaaDoor
open Go Go.RowKit
set_option maxRecDepth 100000 in
set_option maxHeartbeats 8000000 in
theorem copied_nil {K c : Nat} {w : World} {a : Option Addr} : Calls Tryd.prog 21 #[.slice a 0 c] w (CoP K 0 [] w) := by
  obtain ⟨A, eA, hbA, hsA, hhA⟩ := box_new w #[.int .i64 65536] 91
  have hrun := app_nil (w := w.alloc (.cells #[.int .i64 65536] 91)) (a := a) (c := c) unD infD22 23
  have R1 := hide hrun
  have HE := hide (And.intro eA hbA)
  clear hrun eA hbA hsA hhA
  go_enter Tryd.func21, Tryd.ntmps21
  go_wp2_with (at_builtin; refine app_run _ _ _ rfl rfl rfl rfl (unhide R1) ?_; clear R1)
  go_wp2_with fail
  go_loopw [12] (fun iv wr => iv = .int .i64 (0 : Nat) ∧ Hid (Below w.heap.size w wr)) (fun iv _ => 0)
  case atStart =>
    refine ⟨rfl, ?_⟩
    have h := unhide HE
    rw [h.1]
    exact h.2
  case round =>
    obtain ⟨rfl, HB⟩ := hrel
    go_wp2
    go_ret
    have h := unhide HB
    exact ⟨none, 0, rfl, ⟨rfl, Nat.le_refl _, by omega, h.size, fun e => absurd rfl e, fun _ => ⟨rfl, rfl⟩⟩, h⟩
theorem copied_any {K n c : Nat} {w : World} {a : Option Addr} {l : List De} {P : Nat → Prop} (hx : DsQ w P (.slice a n c) l) (hk : l.all (hiD K) = true) (hL : coS K l ≤ 65536) : Calls Tryd.prog 21 #[.slice a n c] w (CoP K n l w) := by
  by_cases h0 : n = 0
  · subst h0
    obtain ⟨a', c', e0, -⟩ := hx
    obtain ⟨-, hn, -⟩ : a = a' ∧ 0 = l.length ∧ c = c' := by simpa using e0
    have hl : l = [] := List.length_eq_zero_iff.1 hn.symm
    subst hl
    exact copied_nil
  · obtain ⟨a', c', e0, hr1, hr2, hr3⟩ := hx
    obtain ⟨rfl, hn, rfl⟩ : a = a' ∧ n = l.length ∧ c = c' := by simpa using e0
    obtain ⟨b', off', rfl, hPb, hbw, hrow⟩ := hr3 (by omega)
    exact copied_some ⟨_, _, e0, hr1, hr2, hr3⟩ hk h0 hL
set_option maxRecDepth 100000 in
set_option maxHeartbeats 8000000 in
theorem newRes_any {w : World} : Calls Tryd.prog 22 #[] w fun e w' => e = .returned (.pointer (some ⟨w.heap.size + 2, 0, none⟩)) ∧ RS0 w.heap.size (w.heap.size + 2) w.heap.size (w.heap.size + 1) w' rxZ ∧ Below w.heap.size w w' := by
  have km : ∀ w : World, (Instr.makeMap 59 none).run Tryd.prog w = .ok (.map (some w.heap.size)) (w.alloc (.map #[] 0)) := fun _ => rfl
  go_enter Tryd.func22, Tryd.ntmps22
  go_wp2
  go_ret
  obtain ⟨A, eA, hbA, hsA, hhA⟩ := box_new ((w.alloc (.map #[] 0)).alloc (.map #[] 0)) #[.map (some w.heap.size), .map (some (w.heap.size + 1)), .map none, .int .i64 0, .bool false, .pointer none] 62
  have hs : ((w.alloc (.map #[] 0)).alloc (.map #[] 0)).heap.size = w.heap.size + 2 := by simp
  rw [hs] at hbA hsA hhA
  have h1 : NM (w.alloc (.map #[] 0)) w.heap.size (iM []) := NM.new w
  have h2 : NM ((w.alloc (.map #[] 0)).alloc (.map #[] 0)) (w.heap.size + 1) (iM []) := by
    have h := NM.new (w.alloc (.map #[] 0))
    have e : (w.alloc (.map #[] 0)).heap.size = w.heap.size + 1 := by simp
    rw [e] at h
    exact h
  have b1 : Below w.heap.size w (w.alloc (.map #[] 0)) := (Below.refl _ w).alloc (Nat.le_refl _) _
  have b2 : Below (w.heap.size + 1) (w.alloc (.map #[] 0)) ((w.alloc (.map #[] 0)).alloc (.map #[] 0)) := (Below.refl _ _).alloc (by simp) _
  have h1' := (h1.below b2 (by omega)).below hbA (by omega)
  have h2' := h2.below hbA (by omega)
  refine ⟨rfl, ⟨⟨none, none, ?_, rfl⟩, ?_, ?_, by omega, Nat.le_refl _, by omega, by omega⟩, ?_⟩
  · rw [eA]; exact hhA
  · rw [eA]; exact h1'
  · rw [eA]; exact h2'
  · rw [eA]; exact (b1.trans (b2.mono (by omega))).trans (hbA.mono (by omega))
end Go.Proofs.YtljhpbjngbbjbaaDoor

/- Package scope: Resolve. -/
namespace Go.Proofs.YtljhpbjngbbjbaaDoor
open Go Go.RowKit
/-- What Resolve answers. -/
def ResP (K n : Nat) (l : List De) (w : World) (e : Ending) (w' : World) : Prop := Below w.heap.size w w' ∧ match rxR K l with
  | .error (a, k) => ∃ p, e = .returned (.tuple #[.slice none 0 0, .iface 60 (.pointer (some ⟨p, 0, none⟩))]) ∧ w'.heap[p]? = some (.cells #[.int .i64 a, .int .i64 k] 67)
  | .ok ds => ∃ a c hi, e = .returned (.tuple #[.slice a n c, .nilIface]) ∧ OSg 22 (OD w' K) w.heap.size hi a n c ds ∧ hi ≤ w'.heap.size
/-- Between declarations that are gone through. -/
def RW (H r mc md K lo hi n c : Nat) (a : Option Addr) (l : List Dz) (z : RZ) (w W : World) : Prop := RS0 H r mc md W z ∧ OSg 22 (OD W K) lo hi a n c l ∧ Below lo w W
set_option maxRecDepth 100000 in
set_option maxHeartbeats 16000000 in
theorem resolve_any {K n c : Nat} {w : World} {a : Option Addr} {l : List De} {P : Nat → Prop} (hx : DsQ w P (.slice a n c) l) (hk : l.all (hiD K) = true) (hL : coS K l ≤ 65536) (hK : K ≤ 1000000) : Calls Tryd.prog 8 #[.slice a n c] w (ResP K n l w) := by
  have hn : n = l.length := by
    obtain ⟨a', c', e0, -⟩ := hx
    obtain ⟨-, hn, -⟩ : a = a' ∧ n = l.length ∧ c = c' := by simpa using e0
    exact hn
  have HC := hide (copied_any hx hk hL)
  have HN := hide (And.intro hn hK)
  clear hx hk hL hn hK
  go_enter Tryd.func8, Tryd.ntmps8
  generalize hQQ : bodyPost Tryd.prog Tryd.f8 (ResP K n l w) = QQ
  have HQQ := hide hQQ
  clear hQQ
  go_wp2_with fail
  refine (unhide HC).mono ?_
  rintro e w1 ⟨a2, c2, rfl, k1, k2⟩
  have H1 := hide (And.intro k1 k2)
  have g4 : (n : Int) ≤ 1000000 := by have := k1.2.2.1; omega
  clear k1 k2 HC
  go_wp2_with fail
  refine newRes_any.mono ?_
  rintro e w2 ⟨rfl, k3, k4⟩
  obtain ⟨k1, k2⟩ := unhide H1
  obtain ⟨HH, hHH⟩ : ∃ x, w1.heap.size = x := ⟨_, rfl⟩
  rw [hHH] at k1 k3 k4 ⊢
  have hs := k2.size
  rw [hHH] at hs
  have hw0 : RW HH (HH + 2) HH (HH + 1) K w.heap.size HH n c2 a2 (l.map (dr K)) rxZ w w2 := by
    refine ⟨k3, ?_, k2.trans (k4.mono hs)⟩
    obtain ⟨h3, h4, h5, h6, h7, h8⟩ := k1
    refine ⟨h3, h4, h5, h6, fun hl => ?_, h8⟩
    obtain ⟨q, o, e, g1, g2, g3⟩ := h7 hl
    exact ⟨q, o, e, g1, g2, ODl.fr g3 (Fr.of (fun _ _ => False) k4) g2 (Nat.le_refl _) (fun _ _ _ h => h) fun _ _ _ _ h => h⟩
  have HI := hide hw0
  have HS := hide hs
  clear k1 k2 k3 k4 H1 hHH hw0 hs
  go_wp2_with fail
  go_loopw [12] (fun iv wr => ∃ (j : Nat) (u rest : List Dz) (y : RZ), iv = .int .i64 j ∧ j ≤ n ∧ Hid (u.length = j ∧ n = j + rest.length ∧ thr (rxD K) rxZ (l.map (dr K)) = (u ++ (thr (rxD K) y rest).1, (thr (rxD K) y rest).2) ∧ RW HH (HH + 2) HH (HH + 1) K w.heap.size HH n c2 a2 (u ++ rest) y w wr)) (fun iv _ => n - (intOf iv).toNat)
  case atStart => exact ⟨0, [], l.map (dr K), rxZ, rfl, Nat.zero_le _, rfl, by have := (unhide HN).1; simp; omega, rfl, unhide HI⟩
  case round =>
    obtain ⟨j, u, rest, y, rfl, hj, HB⟩ := hrel
    have g3 : (0 : Int) ≤ (j : Int) := by omega
    by_cases hjn : j < n
    · obtain ⟨hu, hn, ht, hR, hO, hb⟩ := unhide HB
      obtain ⟨d, rest, rfl⟩ : ∃ t r2, rest = t :: r2 := by
        cases rest with
        | nil => simp at hn; omega
        | cons t r2 => exact ⟨t, r2, rfl⟩
      obtain ⟨b1, b2, b3, b4, b5, b6⟩ := hO
      obtain ⟨q, o, rfl, k1, k2, k3⟩ := b5 (by simp)
      obtain ⟨m1, m2, e1, e2, e3, e4⟩ := k3.at
      have l1 := OLg.le _ _ _ _ e1
      have l4 := OLg.le _ _ _ _ e4
      rw [hu] at e3
      have hA2 : Ap HH m1 m2 q := ⟨k2, by omega, .inl (by omega)⟩
      have HC := hide (xdecl_any hR e3 hA2 (unhide HN).2)
      rw [Nat.mul_comm 22 j] at HC
      have HK := hide (And.intro hu (And.intro hn (And.intro ht (And.intro hb (And.intro k1 (And.intro k2 (And.intro e1 (And.intro e2 (And.intro e4 (And.intro b1 (And.intro b2 (And.intro b3 b4))))))))))))
      have g1 : (j : Int) < (n : Int) := by omega
      have g2 : decide ((j : Int) < (n : Int)) = true := by simp; omega
      clear hu hn ht hR hb b1 b2 b3 b4 b5 b6 k1 k2 k3 e1 e2 e3 e4 l1 l4 hA2 hj HB HI
      have HJ := hide hjn
      clear hjn
      go_wp2_with fail
      refine (unhide HC).mono ?_
      rintro e w3 ⟨rfl, p1, p2, p3⟩
      have hstep : u.length = j ∧ n = j + (d :: rest).length ∧ thr (rxD K) rxZ (l.map (dr K)) = (u ++ (thr (rxD K) y (d :: rest)).1, (thr (rxD K) y (d :: rest)).2) ∧ RW HH (HH + 2) HH (HH + 1) K w.heap.size HH n c2 (some ⟨q, o, none⟩) ((u ++ [(rxD K y d).1]) ++ rest) (rxD K y d).2 w w3 := by
        obtain ⟨hu, hn, ht, hb, k1, k2, e1, e2, e4, b1, b2, b3, b4⟩ := unhide HK
        have l1 := OLg.le _ _ _ _ e1
        have l4 := OLg.le _ _ _ _ e4
        rw [Nat.mul_comm j 22] at p2 p3
        have hrow : OLg 22 (OD w3 K) q (q + 1) HH o ((u ++ [(rxD K y d).1]) ++ rest) := by
          rw [List.append_assoc, OLg.split]
          refine ⟨m1, ODl.fr e1 p3 (by omega) (by omega) (fun i q1 q2 hk => ?_) (fun k i q1 q2 hk => ?_), m2, e2, by rw [hu]; exact p2, ODl.fr e4 p3 (by omega) (by omega) (fun i q1 q2 hk => ?_) fun k i q1 q2 hk => ?_⟩
          all_goals rcases hk with ⟨g1, g2⟩ | ⟨g1, g2, g3⟩ <;> omega
        refine ⟨hu, hn, ht, p1, ⟨by rw [b1]; simp, b2, b3, b4, fun _ => ⟨q, o, rfl, k1, k2, hrow⟩, fun e => by simp at e⟩, hb.trans (p3.low b4 fun k i hk => ?_)⟩
        rcases hk with ⟨g1, g2⟩ | ⟨g1, g2, g3⟩ <;> omega
      have HZ := hide (show (u ++ [(rxD K y d).1]).length = j + 1 ∧ n = (j + 1) + rest.length ∧ thr (rxD K) rxZ (l.map (dr K)) = ((u ++ [(rxD K y d).1]) ++ (thr (rxD K) (rxD K y d).2 rest).1, (thr (rxD K) (rxD K y d).2 rest).2) ∧ RW HH (HH + 2) HH (HH + 1) K w.heap.size HH n c2 (some ⟨q, o, none⟩) ((u ++ [(rxD K y d).1]) ++ rest) (rxD K y d).2 w w3 from ⟨by simp [hstep.1], by have := hstep.2.1; simp at this; omega, thr_go hstep.2.2.1, hstep.2.2.2⟩)
      clear hstep p1 p2 p3 HK HC
      go_wp2
      exact ⟨⟨j + 1, _, rest, _, by push_cast; rfl, by have := unhide HJ; omega, unhide HZ⟩, by simp only [intOf]; have := unhide HJ; omega⟩
    · have g1 : ¬ ((j : Int) < (n : Int)) := by omega
      have g2 : decide ((j : Int) < (n : Int)) = false := by simp; omega
      obtain ⟨hu, hn, ht, hR, hO, hb⟩ := unhide HB
      obtain rfl : rest = [] := List.length_eq_zero_iff.1 (by omega)
      have ep : thr (rxD K) rxZ (l.map (dr K)) = (u, y) := by rw [ht]; simp [thr]
      obtain ⟨mb, pw, -, -, -, -, -, x5, -, hw⟩ := hR.cells
      rw [List.append_nil] at hO
      cases hwr : y.wr with
      | none =>
        rw [hwr] at hw
        obtain rfl : pw = none := hw
        have er : rxR K l = .ok u := by unfold rxR; rw [ep]; dsimp only; rw [hwr]
        have HF := hide (show ResP K n l w (.returned (.tuple #[.slice a2 n c2, .nilIface])) wr from ⟨hb, by rw [er]; exact ⟨a2, c2, HH, rfl, hO, by have := hR.lt; omega⟩⟩)
        clear hu hn ht hR hO hb ep hj hjn HB HI hwr er
        go_wp2
        rw [← unhide HQQ]
        go_ret2
        exact unhide HF
      | some er0 =>
        rw [hwr] at hw
        obtain ⟨p, rfl, hp, hq⟩ := hw
        obtain ⟨a0, k0⟩ := er0
        have er : rxR K l = .error (a0, k0) := by unfold rxR; rw [ep]; dsimp only; rw [hwr]
        have HF := hide (fun nq => show ResP K n l w (.returned (.tuple #[.slice none 0 0, .iface 60 (.pointer (some ⟨p, 0, none⟩))])) (wr.drewN nq) from ⟨hb.trans (below_dw _ _ _), by rw [er]; exact ⟨p, rfl, ((below_dw (p + 1) wr nq).block p (by omega)).trans hq⟩⟩)
        clear hu hn ht hR hO hb ep hj hjn HB HI hwr er hp hq
        go_wp2_with fail
        go_quiet (fail)
        go_wp2
        rw [← unhide HQQ]
        go_ret2
        exact unhide HF nq
end Go.Proofs.YtljhpbjngbbjbaaDoor

namespace Go.Proofs.YtljhpbjngbbjbaaDoor
open Go Go.RowKit
def celK (l : List De) : Nat → List ByteArray
  | 0 => []
  | j + 1 => match l[j]? with
    | some d => if d.cell then celK l j ++ [d.name] else celK l j
    | none => celK l j
def defK (l : List De) : Nat → List Int
  | 0 => []
  | j + 1 => match l[j]? with
    | some d => if d.cell then defK l j else defK l j ++ [(j : Int)]
    | none => defK l j
theorem celK_le (l : List De) : ∀ j, (celK l j).length ≤ j
  | 0 => Nat.le_refl _
  | j + 1 => by
    have := celK_le l j
    unfold celK
    split
    · split
      · simp; omega
      · omega
    · omega
theorem defK_le (l : List De) : ∀ j, (defK l j).length ≤ j
  | 0 => Nat.le_refl _
  | j + 1 => by
    have := defK_le l j
    unfold defK
    split
    · split
      · omega
      · simp; omega
    · omega
theorem infStr : (Tryd.prog.info? 9).map (fun i => (i.zero.map fun z => z.cells.size, i.size, i.bytes)) = some (some 1, 1, 16) := by kernel_rfl
theorem infInt : (Tryd.prog.info? 3).map (fun i => (i.zero.map fun z => z.cells.size, i.size, i.bytes)) = some (some 1, 1, 8) := by kernel_rfl
theorem unS : Tryd.prog.underlying 36 = some (.slice 9) := by kernel_rfl
theorem unI : Tryd.prog.underlying 39 = some (.slice 3) := by kernel_rfl
/-- One more element of one cell. -/
theorem one_more {w : World} {t e : TypeId} {by' B n : Nat} {v x : Value} {xs : List Value} (ht : Tryd.prog.underlying t = some (.slice e)) (hi : (Tryd.prog.info? e).map (fun i => (i.zero.map fun z => z.cells.size, i.size, i.bytes)) = some (some 1, 1, by')) (hb : by' ≤ 16) (hown : w.ownsRow B e 1 v n xs) (hx : x.oneCell' = true) (hn : n ≤ 1000000) (hB : B ≤ w.heap.size) (ty : TypeId) :
    ∃ v' w', (Builtin.append_ #[t, t] ty #[v, .slice (some ⟨w.heap.size, 0, none⟩) 1 1]).run Tryd.prog (w.alloc (.cells #[x] e)) = .ok v' w' ∧ w'.ownsRow B e 1 v' (n + 1) (xs ++ [x]) ∧ Below B w w' := by
  obtain ⟨i, h1, h2⟩ := Option.map_eq_some_iff.1 hi
  simp only [Prod.mk.injEq] at h2
  obtain ⟨z, h3, h4⟩ := Option.map_eq_some_iff.1 h2.1
  have hown2 := hown.alloc (.cells #[x] e)
  obtain ⟨A, eA, hbA, hsA, hhA⟩ := box_new w #[x] e
  rw [eA] at hown2 ⊢
  obtain ⟨v', w', hr, ho, hg, _⟩ := run_append_own (P := Tryd.prog) A B t ty e i z 1 by' ht h1 h3 h2.2.1 h2.2.2 h4 (by omega) v n xs hown2 ⟨w.heap.size, 0, none⟩ 1 1 [x] rfl (fun j u hu => by
    rcases j with _ | j
    · obtain rfl := Option.some.inj hu
      rw [Addr.add_lit]
      exact (blk hhA).2.1 0 _ rfl
    · simp at hu) (fun u hu => by obtain rfl := List.mem_singleton.1 hu; exact hx) (by unfold maxLen; omega) (by
      have : (n + 1) * by' ≤ 1000001 * 16 := Nat.mul_le_mul (by omega) hb
      omega) (by omega)
  exact ⟨v', w', hr, ho, (hbA.mono hB).grown hg (by omega) fun k e => (hown2.lt k e).1⟩
set_option maxRecDepth 100000 in
set_option maxHeartbeats 8000000 in
theorem scel_any {w : World} {n c : Nat} {a : Option Addr} {l : List De} {P : Nat → Prop} (hx : DsQ w P (.slice a n c) l) : Calls Tryd.prog 13 #[.slice a n c] w fun e w' => ∃ v, e = .returned v ∧ w'.ownsRow w.heap.size 9 1 v (celK l n).length ((celK l n).map fun x => .string x) ∧ Below w.heap.size w w' := by
  obtain ⟨a', c', e0, hr1, hr2, hr3⟩ := hx
  obtain ⟨rfl, hn, rfl⟩ : a = a' ∧ n = l.length ∧ c = c' := by simpa using e0
  rw [← hn] at hr1 hr2 hr3
  have g4 : (n : Int) ≤ 1000000 := by omega
  have HR := hide (And.intro hr3 (And.intro hn hr2))
  clear hr1 hr2 hr3 hn e0
  go_enter Tryd.func13, Tryd.ntmps13
  go_wp2_with fail
  go_loopw [3, 7] (fun ov iv wr => ∃ j : Nat, iv = .int .i64 j ∧ j ≤ n ∧ Hid (wr.ownsRow w.heap.size 9 1 ov (celK l j).length ((celK l j).map fun x => .string x) ∧ Below w.heap.size w wr)) (fun _ iv _ => n - (intOf iv).toNat)
  case atStart => exact ⟨0, rfl, Nat.zero_le _, ⟨by simp [celK], .inl ⟨rfl, rfl⟩⟩, Below.refl _ _⟩
  case round =>
    rename_i ov _
    obtain ⟨j, rfl, hj, HB⟩ := hrel
    have g3 : (0 : Int) ≤ (j : Int) := by omega
    by_cases hjn : j < n
    rotate_left
    · have g1 : ¬ ((j : Int) < (n : Int)) := by omega
      have g2 : decide ((j : Int) < (n : Int)) = false := by simp; omega
      obtain rfl : j = n := by omega
      clear hj hjn
      go_wp2
      go_ret
      exact ⟨_, rfl, (unhide HB).1, (unhide HB).2⟩
    · obtain ⟨hr3, hn, hr2⟩ := unhide HR
      obtain ⟨b, off, rfl, hPb, hbw, hrow⟩ := hr3 (by omega)
      obtain ⟨cs, k1, k2⟩ := hrow j hjn
      obtain ⟨d, hd⟩ : ∃ d, l[j]? = some d := ⟨_, List.getElem?_eq_getElem (by omega)⟩
      obtain ⟨x, rfl, -⟩ := k2 d hd
      obtain ⟨ho, hb⟩ := unhide HB
      have y0 : wr.cell? ⟨b, off + j * 22, none⟩ = some (.bool d.cell) := (hb.cell (p := ⟨b, off + j * 22, none⟩) hbw).trans (k1 0 _ rfl)
      have y1 : wr.cell? ⟨b, off + j * 22 + 1, none⟩ = some (.string d.name) := (hb.cell (p := ⟨b, off + j * 22 + 1, none⟩) hbw).trans (k1 1 _ rfl)
      have hle := celK_le l j
      obtain ⟨v2, w2, hrun, ho2, hb2⟩ := one_more (x := .string d.name) unS infStr (by omega) ho rfl (by omega) hb.size 36
      have e1 : celK l (j + 1) = if d.cell then celK l j ++ [d.name] else celK l j := by
        show (match l[j]? with | some d => _ | none => _) = _
        rw [hd]
      have g1 : (j : Int) < (n : Int) := by omega
      have g2 : decide ((j : Int) < (n : Int)) = true := by simp; omega
      have HJ := hide hjn
      have HE := hide e1
      have HO := hide (And.intro ho hb)
      have HN := hide (And.intro ho2 (hb.trans hb2))
      have R1 := hide hrun
      clear hr3 hn hr2 hPb hbw hrow k1 k2 hd ho hb ho2 hb2 hle e1 hj hjn hrun HB HR
      cases hc : d.cell with
      | true =>
        rw [hc] at y0
        have HCC := hide hc
        clear hc
        go_wp2_with (at_builtin; refine app_run _ _ _ rfl rfl rfl rfl (unhide R1) ?_; clear R1)
        go_wp2
        refine ⟨⟨j + 1, by push_cast; rfl, by have := unhide HJ; omega, ?_⟩, by simp only [intOf]; have := unhide HJ; omega⟩
        rw [unhide HE, unhide HCC]
        show World.ownsRow _ _ _ _ _ (celK l j ++ [d.name]).length ((celK l j ++ [d.name]).map _) ∧ _
        rw [List.length_append, List.map_append]
        exact unhide HN
      | false =>
        rw [hc] at y0
        have HCC := hide hc
        clear hc R1 HN
        go_wp2
        refine ⟨⟨j + 1, by push_cast; rfl, by have := unhide HJ; omega, ?_⟩, by simp only [intOf]; have := unhide HJ; omega⟩
        rw [unhide HE, unhide HCC]
        exact unhide HO
set_option maxRecDepth 100000 in
set_option maxHeartbeats 8000000 in
theorem sdef_any {w : World} {n c : Nat} {a : Option Addr} {l : List De} {P : Nat → Prop} (hx : DsQ w P (.slice a n c) l) : Calls Tryd.prog 16 #[.slice a n c] w fun e w' => ∃ v, e = .returned v ∧ w'.ownsRow w.heap.size 3 1 v (defK l n).length ((defK l n).map fun x => .int .i64 x) ∧ Below w.heap.size w w' := by
  obtain ⟨a', c', e0, hr1, hr2, hr3⟩ := hx
  obtain ⟨rfl, hn, rfl⟩ : a = a' ∧ n = l.length ∧ c = c' := by simpa using e0
  rw [← hn] at hr1 hr2 hr3
  have g4 : (n : Int) ≤ 1000000 := by omega
  have HR := hide (And.intro hr3 (And.intro hn hr2))
  clear hr1 hr2 hr3 hn e0
  go_enter Tryd.func16, Tryd.ntmps16
  go_wp2_with fail
  go_loopw [3, 7] (fun ov iv wr => ∃ j : Nat, iv = .int .i64 j ∧ j ≤ n ∧ Hid (wr.ownsRow w.heap.size 3 1 ov (defK l j).length ((defK l j).map fun x => .int .i64 x) ∧ Below w.heap.size w wr)) (fun _ iv _ => n - (intOf iv).toNat)
  case atStart => exact ⟨0, rfl, Nat.zero_le _, ⟨by simp [defK], .inl ⟨rfl, rfl⟩⟩, Below.refl _ _⟩
  case round =>
    rename_i ov _
    obtain ⟨j, rfl, hj, HB⟩ := hrel
    have g3 : (0 : Int) ≤ (j : Int) := by omega
    by_cases hjn : j < n
    rotate_left
    · have g1 : ¬ ((j : Int) < (n : Int)) := by omega
      have g2 : decide ((j : Int) < (n : Int)) = false := by simp; omega
      obtain rfl : j = n := by omega
      clear hj hjn
      go_wp2
      go_ret
      exact ⟨_, rfl, (unhide HB).1, (unhide HB).2⟩
    · obtain ⟨hr3, hn, hr2⟩ := unhide HR
      obtain ⟨b, off, rfl, hPb, hbw, hrow⟩ := hr3 (by omega)
      obtain ⟨cs, k1, k2⟩ := hrow j hjn
      obtain ⟨d, hd⟩ : ∃ d, l[j]? = some d := ⟨_, List.getElem?_eq_getElem (by omega)⟩
      obtain ⟨x, rfl, -⟩ := k2 d hd
      obtain ⟨ho, hb⟩ := unhide HB
      have y0 : wr.cell? ⟨b, off + j * 22, none⟩ = some (.bool d.cell) := (hb.cell (p := ⟨b, off + j * 22, none⟩) hbw).trans (k1 0 _ rfl)
      have y1 : wr.cell? ⟨b, off + j * 22 + 1, none⟩ = some (.string d.name) := (hb.cell (p := ⟨b, off + j * 22 + 1, none⟩) hbw).trans (k1 1 _ rfl)
      have hle := defK_le l j
      obtain ⟨v2, w2, hrun, ho2, hb2⟩ := one_more (x := .int .i64 (j : Int)) unI infInt (by omega) ho rfl (by omega) hb.size 39
      have e1 : defK l (j + 1) = if d.cell then defK l j else defK l j ++ [(j : Int)] := by
        show (match l[j]? with | some d => _ | none => _) = _
        rw [hd]
      have g1 : (j : Int) < (n : Int) := by omega
      have g2 : decide ((j : Int) < (n : Int)) = true := by simp; omega
      have HJ := hide hjn
      have HE := hide e1
      have HO := hide (And.intro ho hb)
      have HN := hide (And.intro ho2 (hb.trans hb2))
      have R1 := hide hrun
      clear hr3 hn hr2 hPb hbw hrow k1 k2 hd ho hb ho2 hb2 hle e1 hj hjn hrun HB HR
      cases hc : d.cell with
      | false =>
        rw [hc] at y0
        have HCC := hide hc
        clear hc
        go_wp2_with (at_builtin; refine app_run _ _ _ rfl rfl rfl rfl (unhide R1) ?_; clear R1)
        go_wp2
        refine ⟨⟨j + 1, by push_cast; rfl, by have := unhide HJ; omega, ?_⟩, by simp only [intOf]; have := unhide HJ; omega⟩
        rw [unhide HE, unhide HCC]
        show World.ownsRow _ _ _ _ _ (defK l j ++ [(j : Int)]).length ((defK l j ++ [(j : Int)]).map _) ∧ _
        rw [List.length_append, List.map_append]
        exact unhide HN
      | true =>
        rw [hc] at y0
        have HCC := hide hc
        clear hc R1 HN
        go_wp2
        refine ⟨⟨j + 1, by push_cast; rfl, by have := unhide HJ; omega, ?_⟩, by simp only [intOf]; have := unhide HJ; omega⟩
        rw [unhide HE, unhide HCC]
        exact unhide HO
end Go.Proofs.YtljhpbjngbbjbaaDoor
