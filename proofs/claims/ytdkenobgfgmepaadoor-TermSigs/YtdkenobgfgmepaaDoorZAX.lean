/- Slices put behind one another: elements of any number of cells. -/
import Derived.Test.YtdkenobgfgmepaaDoorZAW
set_option linter.unusedVariables false
set_option linter.unusedSimpArgs false

/- The document's check: equations, and choices. -/
namespace Go.Proofs.YtdkenobgfgmepaaDoor
open Go Go.RowKit
section
variable {rt : ByteArray → Bool} {sig : List Fn} {t u0 u1 u2 : Tm} {env : ByteArray → List Int}
theorem chk_eq (h : t.op = 9) (hl : t.l = [u0, u1]) : t.chk rt sig env = if (u0.chk rt sig env).2 ≠ 0 then (0, (u0.chk rt sig env).2) else if (u1.chk rt sig env).2 ≠ 0 then (0, (u1.chk rt sig env).2) else if (u0.chk rt sig env).1 = (u1.chk rt sig env).1 then (2, 0) else (0, 31) := by
  have hs := sh_ops (rt := rt) (sig := sig) (t := t) (by omega) (.inr (by rw [h, hl]; rfl)) (fun h => by omega)
  unfold shE at hs
  rw [Tm.chk_eq, hs, if_neg (by simp), if_neg (by omega), if_neg (by omega), hl, h]
  generalize hp0 : u0.chk rt sig env = p0
  generalize hp1 : u1.chk rt sig env = p1
  simp only [List.map_cons, List.map_nil, chkL, hp0, hp1]
  obtain ⟨s0, r0⟩ := p0
  obtain ⟨s1, r1⟩ := p1
  by_cases hr0 : r0 = 0
  · by_cases hr1 : r1 = 0
    · subst hr0 hr1
      simp [sortOfT, operatedT, opEach, opOwn]
      by_cases e : s0 = s1
      · simp [e]
      · have e2 : ¬ s1 = s0 := fun h => e h.symm
        simp [e, e2]
    · subst hr0
      simp [hr1]
  · simp [hr0]
theorem chk_ite (h : t.op = 16) (hl : t.l = [u0, u1, u2]) : t.chk rt sig env = if (u0.chk rt sig env).2 ≠ 0 then (0, (u0.chk rt sig env).2) else if (u1.chk rt sig env).2 ≠ 0 then (0, (u1.chk rt sig env).2) else if (u2.chk rt sig env).2 ≠ 0 then (0, (u2.chk rt sig env).2) else if (u0.chk rt sig env).1 = 2 ∧ (u1.chk rt sig env).1 = (u2.chk rt sig env).1 then ((u1.chk rt sig env).1, 0) else (0, 31) := by
  have hs := sh_ops (rt := rt) (sig := sig) (t := t) (by omega) (.inr (by rw [h, hl]; rfl)) (fun h => by omega)
  unfold shE at hs
  rw [Tm.chk_eq, hs, if_neg (by simp), if_neg (by omega), if_neg (by omega), hl, h]
  generalize hp0 : u0.chk rt sig env = p0
  generalize hp1 : u1.chk rt sig env = p1
  generalize hp2 : u2.chk rt sig env = p2
  simp only [List.map_cons, List.map_nil, chkL, hp0, hp1, hp2]
  obtain ⟨s0, r0⟩ := p0
  obtain ⟨s1, r1⟩ := p1
  obtain ⟨s2, r2⟩ := p2
  by_cases hr0 : r0 = 0
  · by_cases hr1 : r1 = 0
    · by_cases hr2 : r2 = 0
      · subst hr0 hr1 hr2
        simp [sortOfT, operatedT]
        by_cases e : s0 = 2 ∧ s1 = s2
        · simp [e]
        · simp [e]
      · subst hr0 hr1
        simp [hr2]
    · subst hr0
      simp [hr1]
  · simp [hr0]
end
section
variable {rt : ByteArray → Bool} {sig : List Fn} {d B nS cS nV cV : Nat} {aS aV : Option Addr} {v : Value} {t : Tm} {x : List (ByteArray × Int)} {w : World}
set_option maxRecDepth 100000 in
set_option maxHeartbeats 16000000 in
theorem ck_eq (ih : ∀ d' < d, CkC rt sig d') (hT : IsT w B d v t) (hS : Row B aS nS cS 3 (SigR w B sig)) (hnS : nS = sig.length) (hX : Row B aV nV cV 2 (BR w x)) (hnV : nV = x.length) (hB : B ≤ w.heap.size) (hO : OkT (RtC rt) (d + 1) t) (hw : nV + t.wt ≤ 1000) (hop : t.op = 9) (hn : t.l.length = 2) : Calls Tryd.prog 38 #[.slice aS nS cS, v, .slice aV nV cV] w (VPost (pairV (t.chk rt sig (envOf x))) w) := by
  obtain ⟨u0, u1, hul⟩ : ∃ u0 u1, t.l = [u0, u1] := by
    match hl : t.l, hn with
    | [u0, u1], _ => exact ⟨u0, u1, rfl⟩
  have hchk := chk_eq (rt := rt) (sig := sig) (env := envOf x) hop hul
  rw [hchk]
  clear hchk
  have hTw := hT
  obtain ⟨h1, h2, aL, aY, aP, cL, cY, cP, rfl, hL, hV, hP⟩ := hT
  simp only [tcells, List.toArray] at hTw ⊢
  generalize t.vars.length = nY at *
  generalize t.pat.length = nP at *
  rw [hn] at hTw hL ⊢
  rw [hop] at hTw ⊢
  obtain ⟨w0, e0, hb0, hs0, hc0, hh⟩ := box_new w #[.int .i64 9, .string t.name, .int .i64 t.sort, .string t.num, .slice aL 2 cL, .slice aY nY cY, .slice aP nP cP] 26
  obtain ⟨b, off, rfl, hbB, hj⟩ := hL.2.2 (by omega)
  obtain ⟨env, henv⟩ : ∃ env, envOf x = env := ⟨_, rfl⟩
  obtain ⟨p0, hp0⟩ : ∃ p, u0.chk rt sig (envOf x) = p := ⟨_, rfl⟩
  obtain ⟨s0, r0⟩ := p0
  have m0 : u0 ∈ t.l := by rw [hul]; simp
  obtain ⟨d0, bL0, bV0, bP0, mL0, mV0, mP0, kL0, kV0, kP0, ed0, hcs0, hT0⟩ := (hj 0 (by omega) u0 (by rw [hul]; rfl)).cells
  have hC0 : ∀ W, Below w0.heap.size w0 W → Cells7 W b (off + 0 * 7) u0 bL0 bV0 bP0 mL0 mV0 mP0 kL0 kV0 kP0 ∧ Calls Tryd.prog 38 #[.slice aS nS cS, tval u0 bL0 bV0 bP0 mL0 mV0 mP0 kL0 kV0 kP0, .slice aV nV cV] W (VPost (pairV (s0, r0)) W) := fun W h => by
    have hb : Below w.heap.size w W := hb0.trans (h.mono (by omega))
    have hbB' : b < w.heap.size := by omega
    refine ⟨⟨(hb.cell (p := ⟨b, off + 0 * 7, none⟩) hbB').trans hcs0.1, (hb.cell (p := ⟨b, off + 0 * 7 + 1, none⟩) hbB').trans hcs0.2.1, (hb.cell (p := ⟨b, off + 0 * 7 + 2, none⟩) hbB').trans hcs0.2.2.1, (hb.cell (p := ⟨b, off + 0 * 7 + 3, none⟩) hbB').trans hcs0.2.2.2.1, (hb.cell (p := ⟨b, off + 0 * 7 + 4, none⟩) hbB').trans hcs0.2.2.2.2.1, (hb.cell (p := ⟨b, off + 0 * 7 + 5, none⟩) hbB').trans hcs0.2.2.2.2.2.1, (hb.cell (p := ⟨b, off + 0 * 7 + 6, none⟩) hbB').trans hcs0.2.2.2.2.2.2⟩, ?_⟩
    have := ih d0 (by omega) B aS nS cS _ u0 aV nV cV x W (hT0.more (hb.mono hB) (Nat.le_refl _) (Nat.le_refl _)) (hS.belowS (hb.mono hB)) hnS (hX.belowV (hb.mono hB)) hnV (Nat.le_trans hB hb.size) (by have := hO.2.2.2.2.2.1 u0 m0; rw [ed0] at this; exact this) (by have := wt_mem m0; omega)
    rw [hp0] at this
    exact this
  have HC0 := hide hC0
  rw [hp0]
  obtain ⟨p1, hp1⟩ : ∃ p, u1.chk rt sig (envOf x) = p := ⟨_, rfl⟩
  obtain ⟨s1, r1⟩ := p1
  have m1 : u1 ∈ t.l := by rw [hul]; simp
  obtain ⟨d1, bL1, bV1, bP1, mL1, mV1, mP1, kL1, kV1, kP1, ed1, hcs1, hT1⟩ := (hj 1 (by omega) u1 (by rw [hul]; rfl)).cells
  have hC1 : ∀ W, Below w0.heap.size w0 W → Cells7 W b (off + 1 * 7) u1 bL1 bV1 bP1 mL1 mV1 mP1 kL1 kV1 kP1 ∧ Calls Tryd.prog 38 #[.slice aS nS cS, tval u1 bL1 bV1 bP1 mL1 mV1 mP1 kL1 kV1 kP1, .slice aV nV cV] W (VPost (pairV (s1, r1)) W) := fun W h => by
    have hb : Below w.heap.size w W := hb0.trans (h.mono (by omega))
    have hbB' : b < w.heap.size := by omega
    refine ⟨⟨(hb.cell (p := ⟨b, off + 1 * 7, none⟩) hbB').trans hcs1.1, (hb.cell (p := ⟨b, off + 1 * 7 + 1, none⟩) hbB').trans hcs1.2.1, (hb.cell (p := ⟨b, off + 1 * 7 + 2, none⟩) hbB').trans hcs1.2.2.1, (hb.cell (p := ⟨b, off + 1 * 7 + 3, none⟩) hbB').trans hcs1.2.2.2.1, (hb.cell (p := ⟨b, off + 1 * 7 + 4, none⟩) hbB').trans hcs1.2.2.2.2.1, (hb.cell (p := ⟨b, off + 1 * 7 + 5, none⟩) hbB').trans hcs1.2.2.2.2.2.1, (hb.cell (p := ⟨b, off + 1 * 7 + 6, none⟩) hbB').trans hcs1.2.2.2.2.2.2⟩, ?_⟩
    have := ih d1 (by omega) B aS nS cS _ u1 aV nV cV x W (hT1.more (hb.mono hB) (Nat.le_refl _) (Nat.le_refl _)) (hS.belowS (hb.mono hB)) hnS (hX.belowV (hb.mono hB)) hnV (Nat.le_trans hB hb.size) (by have := hO.2.2.2.2.2.1 u1 m1; rw [ed1] at this; exact this) (by have := wt_mem m1; omega)
    rw [hp1] at this
    exact this
  have HC1 := hide hC1
  rw [hp1]
  obtain ⟨res, hres⟩ : ∃ r, r = if (s0, r0).2 ≠ 0 then (0, (s0, r0).2) else if (s1, r1).2 ≠ 0 then (0, (s1, r1).2) else if (s0, r0).1 = (s1, r1).1 then ((2 : Int), (0 : Int)) else (0, 31) := ⟨_, rfl⟩
  rw [← hres]
  have HRes := hide hres
  clear hres
  have HE := hide e0
  have HB := hide hb0
  have HC4 := hide (show w0.cell? ⟨w.heap.size, 4, none⟩ = some (.slice (some ⟨b, off, none⟩) 2 cL) from hc0 4 _ rfl)
  have HS0 := hide hs0
  clear hC0 hp0 m0 ed0 hcs0 hT0 hC1 hp1 m1 ed1 hcs1 hT1 hTw e0 hb0 hc0 hh hL hV hP h1 h2 hS hX hO hop ih hs0 hw hB hnV hnS hj hul hn hbB henv
  go_enter Tryd.func38, Tryd.ntmps38
  obtain ⟨⟨c0, c1, c2, c3, c4, c5, c6⟩, _⟩ := unhide HC0 w0 (Below.refl _ _)
  unfold tval at HC0
  rw [← unhide HE] at c0 c1 c2 c3 c4 c5 c6
  rw [show off + 0 * 7 = off by omega] at c0 c1 c2 c3 c4 c5 c6
  go_wp2_with fail
  rw [unhide HE]
  clear c0 c1 c2 c3 c4 c5 c6
  have HCa := hide (unhide HC0 w0 (Below.refl _ _)).2
  refine (unhide HCa).mono ?_
  rintro e w1 ⟨rfl, hb1⟩
  have HB1 := hide (hb1)
  clear hb1 HCa
  unfold pairV
  by_cases hr0 : r0 = 0
  case neg =>
    have g : (r0 != 0) = true := by simp [hr0]
    have HR := hide hr0
    clear hr0
    go_wp2
    go_ret2
    refine ⟨?_, (unhide HB).trans ((unhide HB1).mono (unhide HB).size)⟩
    have hx := unhide HRes
    rw [if_pos (unhide HR)] at hx
    rw [hx]
    rfl
  subst hr0
  have hx := unhide HRes
  rw [if_neg (by simp)] at hx
  replace HRes := hide hx
  clear hx
  obtain ⟨⟨c0, c1, c2, c3, c4, c5, c6⟩, _⟩ := unhide HC1 w1 (unhide HB1)
  unfold tval at HC1
  have e4 : w1.cell? ⟨w.heap.size, 4, none⟩ = some (.slice (some ⟨b, off, none⟩) 2 cL) := ((unhide HB1).cell (p := ⟨w.heap.size, 4, none⟩) (show w.heap.size < w0.heap.size by have := unhide HS0; omega)).trans (unhide HC4)
  rw [show off + 1 * 7 = off + 7 by omega] at c0 c1 c2 c3 c4 c5 c6
  go_wp2_with fail
  clear c0 c1 c2 c3 c4 c5 c6 e4
  have HCa := hide (unhide HC1 w1 (unhide HB1)).2
  refine (unhide HCa).mono ?_
  rintro e w2 ⟨rfl, hb1⟩
  have HB2 := hide ((unhide HB1).trans (hb1.mono (unhide HB1).size))
  clear hb1 HCa
  unfold pairV
  by_cases hr1 : r1 = 0
  case neg =>
    have g : (r1 != 0) = true := by simp [hr1]
    have HR := hide hr1
    clear hr1
    go_wp2
    go_ret2
    refine ⟨?_, (unhide HB).trans ((unhide HB2).mono (unhide HB).size)⟩
    have hx := unhide HRes
    rw [if_pos (unhide HR)] at hx
    rw [hx]
    rfl
  subst hr1
  have hx := unhide HRes
  rw [if_neg (by simp)] at hx
  replace HRes := hide hx
  clear hx
  by_cases hs : s0 = s1
  · subst hs
    have hx := unhide HRes
    rw [if_pos rfl] at hx
    subst hx
    clear HRes
    go_wp2
    go_ret2
    exact ⟨rfl, (unhide HB).trans ((unhide HB2).mono (unhide HB).size)⟩
  · have hx := unhide HRes
    rw [if_neg hs] at hx
    subst hx
    clear HRes
    have g : (s0 != s1) = true := by simp [hs]
    clear hs
    go_wp2
    go_ret2
    exact ⟨rfl, (unhide HB).trans ((unhide HB2).mono (unhide HB).size)⟩
set_option maxRecDepth 100000 in
set_option maxHeartbeats 16000000 in
theorem ck_ite (ih : ∀ d' < d, CkC rt sig d') (hT : IsT w B d v t) (hS : Row B aS nS cS 3 (SigR w B sig)) (hnS : nS = sig.length) (hX : Row B aV nV cV 2 (BR w x)) (hnV : nV = x.length) (hB : B ≤ w.heap.size) (hO : OkT (RtC rt) (d + 1) t) (hw : nV + t.wt ≤ 1000) (hop : t.op = 16) (hn : t.l.length = 3) : Calls Tryd.prog 38 #[.slice aS nS cS, v, .slice aV nV cV] w (VPost (pairV (t.chk rt sig (envOf x))) w) := by
  obtain ⟨u0, u1, u2, hul⟩ : ∃ u0 u1 u2, t.l = [u0, u1, u2] := by
    match hl : t.l, hn with
    | [u0, u1, u2], _ => exact ⟨u0, u1, u2, rfl⟩
  have hchk := chk_ite (rt := rt) (sig := sig) (env := envOf x) hop hul
  rw [hchk]
  clear hchk
  have hTw := hT
  obtain ⟨h1, h2, aL, aY, aP, cL, cY, cP, rfl, hL, hV, hP⟩ := hT
  simp only [tcells, List.toArray] at hTw ⊢
  generalize t.vars.length = nY at *
  generalize t.pat.length = nP at *
  rw [hn] at hTw hL ⊢
  rw [hop] at hTw ⊢
  obtain ⟨w0, e0, hb0, hs0, hc0, hh⟩ := box_new w #[.int .i64 16, .string t.name, .int .i64 t.sort, .string t.num, .slice aL 3 cL, .slice aY nY cY, .slice aP nP cP] 26
  obtain ⟨b, off, rfl, hbB, hj⟩ := hL.2.2 (by omega)
  obtain ⟨env, henv⟩ : ∃ env, envOf x = env := ⟨_, rfl⟩
  obtain ⟨p0, hp0⟩ : ∃ p, u0.chk rt sig (envOf x) = p := ⟨_, rfl⟩
  obtain ⟨s0, r0⟩ := p0
  have m0 : u0 ∈ t.l := by rw [hul]; simp
  obtain ⟨d0, bL0, bV0, bP0, mL0, mV0, mP0, kL0, kV0, kP0, ed0, hcs0, hT0⟩ := (hj 0 (by omega) u0 (by rw [hul]; rfl)).cells
  have hC0 : ∀ W, Below w0.heap.size w0 W → Cells7 W b (off + 0 * 7) u0 bL0 bV0 bP0 mL0 mV0 mP0 kL0 kV0 kP0 ∧ Calls Tryd.prog 38 #[.slice aS nS cS, tval u0 bL0 bV0 bP0 mL0 mV0 mP0 kL0 kV0 kP0, .slice aV nV cV] W (VPost (pairV (s0, r0)) W) := fun W h => by
    have hb : Below w.heap.size w W := hb0.trans (h.mono (by omega))
    have hbB' : b < w.heap.size := by omega
    refine ⟨⟨(hb.cell (p := ⟨b, off + 0 * 7, none⟩) hbB').trans hcs0.1, (hb.cell (p := ⟨b, off + 0 * 7 + 1, none⟩) hbB').trans hcs0.2.1, (hb.cell (p := ⟨b, off + 0 * 7 + 2, none⟩) hbB').trans hcs0.2.2.1, (hb.cell (p := ⟨b, off + 0 * 7 + 3, none⟩) hbB').trans hcs0.2.2.2.1, (hb.cell (p := ⟨b, off + 0 * 7 + 4, none⟩) hbB').trans hcs0.2.2.2.2.1, (hb.cell (p := ⟨b, off + 0 * 7 + 5, none⟩) hbB').trans hcs0.2.2.2.2.2.1, (hb.cell (p := ⟨b, off + 0 * 7 + 6, none⟩) hbB').trans hcs0.2.2.2.2.2.2⟩, ?_⟩
    have := ih d0 (by omega) B aS nS cS _ u0 aV nV cV x W (hT0.more (hb.mono hB) (Nat.le_refl _) (Nat.le_refl _)) (hS.belowS (hb.mono hB)) hnS (hX.belowV (hb.mono hB)) hnV (Nat.le_trans hB hb.size) (by have := hO.2.2.2.2.2.1 u0 m0; rw [ed0] at this; exact this) (by have := wt_mem m0; omega)
    rw [hp0] at this
    exact this
  have HC0 := hide hC0
  rw [hp0]
  obtain ⟨p1, hp1⟩ : ∃ p, u1.chk rt sig (envOf x) = p := ⟨_, rfl⟩
  obtain ⟨s1, r1⟩ := p1
  have m1 : u1 ∈ t.l := by rw [hul]; simp
  obtain ⟨d1, bL1, bV1, bP1, mL1, mV1, mP1, kL1, kV1, kP1, ed1, hcs1, hT1⟩ := (hj 1 (by omega) u1 (by rw [hul]; rfl)).cells
  have hC1 : ∀ W, Below w0.heap.size w0 W → Cells7 W b (off + 1 * 7) u1 bL1 bV1 bP1 mL1 mV1 mP1 kL1 kV1 kP1 ∧ Calls Tryd.prog 38 #[.slice aS nS cS, tval u1 bL1 bV1 bP1 mL1 mV1 mP1 kL1 kV1 kP1, .slice aV nV cV] W (VPost (pairV (s1, r1)) W) := fun W h => by
    have hb : Below w.heap.size w W := hb0.trans (h.mono (by omega))
    have hbB' : b < w.heap.size := by omega
    refine ⟨⟨(hb.cell (p := ⟨b, off + 1 * 7, none⟩) hbB').trans hcs1.1, (hb.cell (p := ⟨b, off + 1 * 7 + 1, none⟩) hbB').trans hcs1.2.1, (hb.cell (p := ⟨b, off + 1 * 7 + 2, none⟩) hbB').trans hcs1.2.2.1, (hb.cell (p := ⟨b, off + 1 * 7 + 3, none⟩) hbB').trans hcs1.2.2.2.1, (hb.cell (p := ⟨b, off + 1 * 7 + 4, none⟩) hbB').trans hcs1.2.2.2.2.1, (hb.cell (p := ⟨b, off + 1 * 7 + 5, none⟩) hbB').trans hcs1.2.2.2.2.2.1, (hb.cell (p := ⟨b, off + 1 * 7 + 6, none⟩) hbB').trans hcs1.2.2.2.2.2.2⟩, ?_⟩
    have := ih d1 (by omega) B aS nS cS _ u1 aV nV cV x W (hT1.more (hb.mono hB) (Nat.le_refl _) (Nat.le_refl _)) (hS.belowS (hb.mono hB)) hnS (hX.belowV (hb.mono hB)) hnV (Nat.le_trans hB hb.size) (by have := hO.2.2.2.2.2.1 u1 m1; rw [ed1] at this; exact this) (by have := wt_mem m1; omega)
    rw [hp1] at this
    exact this
  have HC1 := hide hC1
  rw [hp1]
  obtain ⟨p2, hp2⟩ : ∃ p, u2.chk rt sig (envOf x) = p := ⟨_, rfl⟩
  obtain ⟨s2, r2⟩ := p2
  have m2 : u2 ∈ t.l := by rw [hul]; simp
  obtain ⟨d2, bL2, bV2, bP2, mL2, mV2, mP2, kL2, kV2, kP2, ed2, hcs2, hT2⟩ := (hj 2 (by omega) u2 (by rw [hul]; rfl)).cells
  have hC2 : ∀ W, Below w0.heap.size w0 W → Cells7 W b (off + 2 * 7) u2 bL2 bV2 bP2 mL2 mV2 mP2 kL2 kV2 kP2 ∧ Calls Tryd.prog 38 #[.slice aS nS cS, tval u2 bL2 bV2 bP2 mL2 mV2 mP2 kL2 kV2 kP2, .slice aV nV cV] W (VPost (pairV (s2, r2)) W) := fun W h => by
    have hb : Below w.heap.size w W := hb0.trans (h.mono (by omega))
    have hbB' : b < w.heap.size := by omega
    refine ⟨⟨(hb.cell (p := ⟨b, off + 2 * 7, none⟩) hbB').trans hcs2.1, (hb.cell (p := ⟨b, off + 2 * 7 + 1, none⟩) hbB').trans hcs2.2.1, (hb.cell (p := ⟨b, off + 2 * 7 + 2, none⟩) hbB').trans hcs2.2.2.1, (hb.cell (p := ⟨b, off + 2 * 7 + 3, none⟩) hbB').trans hcs2.2.2.2.1, (hb.cell (p := ⟨b, off + 2 * 7 + 4, none⟩) hbB').trans hcs2.2.2.2.2.1, (hb.cell (p := ⟨b, off + 2 * 7 + 5, none⟩) hbB').trans hcs2.2.2.2.2.2.1, (hb.cell (p := ⟨b, off + 2 * 7 + 6, none⟩) hbB').trans hcs2.2.2.2.2.2.2⟩, ?_⟩
    have := ih d2 (by omega) B aS nS cS _ u2 aV nV cV x W (hT2.more (hb.mono hB) (Nat.le_refl _) (Nat.le_refl _)) (hS.belowS (hb.mono hB)) hnS (hX.belowV (hb.mono hB)) hnV (Nat.le_trans hB hb.size) (by have := hO.2.2.2.2.2.1 u2 m2; rw [ed2] at this; exact this) (by have := wt_mem m2; omega)
    rw [hp2] at this
    exact this
  have HC2 := hide hC2
  rw [hp2]
  obtain ⟨res, hres⟩ : ∃ r, r = if (s0, r0).2 ≠ 0 then (0, (s0, r0).2) else if (s1, r1).2 ≠ 0 then (0, (s1, r1).2) else if (s2, r2).2 ≠ 0 then (0, (s2, r2).2) else if (s0, r0).1 = 2 ∧ (s1, r1).1 = (s2, r2).1 then ((s1, r1).1, (0 : Int)) else (0, 31) := ⟨_, rfl⟩
  rw [← hres]
  have HRes := hide hres
  clear hres
  have HE := hide e0
  have HB := hide hb0
  have HC4 := hide (show w0.cell? ⟨w.heap.size, 4, none⟩ = some (.slice (some ⟨b, off, none⟩) 3 cL) from hc0 4 _ rfl)
  have HS0 := hide hs0
  clear hC0 hp0 m0 ed0 hcs0 hT0 hC1 hp1 m1 ed1 hcs1 hT1 hC2 hp2 m2 ed2 hcs2 hT2 hTw e0 hb0 hc0 hh hL hV hP h1 h2 hS hX hO hop ih hs0 hw hB hnV hnS hj hul hn hbB henv
  go_enter Tryd.func38, Tryd.ntmps38
  obtain ⟨⟨c0, c1, c2, c3, c4, c5, c6⟩, _⟩ := unhide HC0 w0 (Below.refl _ _)
  unfold tval at HC0
  rw [← unhide HE] at c0 c1 c2 c3 c4 c5 c6
  rw [show off + 0 * 7 = off by omega] at c0 c1 c2 c3 c4 c5 c6
  go_wp2_with fail
  rw [unhide HE]
  clear c0 c1 c2 c3 c4 c5 c6
  have HCa := hide (unhide HC0 w0 (Below.refl _ _)).2
  refine (unhide HCa).mono ?_
  rintro e w1 ⟨rfl, hb1⟩
  have HB1 := hide (hb1)
  clear hb1 HCa
  unfold pairV
  by_cases hr0 : r0 = 0
  case neg =>
    have g : (r0 != 0) = true := by simp [hr0]
    have HR := hide hr0
    clear hr0
    go_wp2
    go_ret2
    refine ⟨?_, (unhide HB).trans ((unhide HB1).mono (unhide HB).size)⟩
    have hx := unhide HRes
    rw [if_pos (unhide HR)] at hx
    rw [hx]
    rfl
  subst hr0
  have hx := unhide HRes
  rw [if_neg (by simp)] at hx
  replace HRes := hide hx
  clear hx
  obtain ⟨⟨c0, c1, c2, c3, c4, c5, c6⟩, _⟩ := unhide HC1 w1 (unhide HB1)
  unfold tval at HC1
  have e4 : w1.cell? ⟨w.heap.size, 4, none⟩ = some (.slice (some ⟨b, off, none⟩) 3 cL) := ((unhide HB1).cell (p := ⟨w.heap.size, 4, none⟩) (show w.heap.size < w0.heap.size by have := unhide HS0; omega)).trans (unhide HC4)
  rw [show off + 1 * 7 = off + 7 by omega] at c0 c1 c2 c3 c4 c5 c6
  go_wp2_with fail
  clear c0 c1 c2 c3 c4 c5 c6 e4
  have HCa := hide (unhide HC1 w1 (unhide HB1)).2
  refine (unhide HCa).mono ?_
  rintro e w2 ⟨rfl, hb1⟩
  have HB2 := hide ((unhide HB1).trans (hb1.mono (unhide HB1).size))
  clear hb1 HCa
  unfold pairV
  by_cases hr1 : r1 = 0
  case neg =>
    have g : (r1 != 0) = true := by simp [hr1]
    have HR := hide hr1
    clear hr1
    go_wp2
    go_ret2
    refine ⟨?_, (unhide HB).trans ((unhide HB2).mono (unhide HB).size)⟩
    have hx := unhide HRes
    rw [if_pos (unhide HR)] at hx
    rw [hx]
    rfl
  subst hr1
  have hx := unhide HRes
  rw [if_neg (by simp)] at hx
  replace HRes := hide hx
  clear hx
  obtain ⟨⟨c0, c1, c2, c3, c4, c5, c6⟩, _⟩ := unhide HC2 w2 (unhide HB2)
  unfold tval at HC2
  have e4 : w2.cell? ⟨w.heap.size, 4, none⟩ = some (.slice (some ⟨b, off, none⟩) 3 cL) := ((unhide HB2).cell (p := ⟨w.heap.size, 4, none⟩) (show w.heap.size < w0.heap.size by have := unhide HS0; omega)).trans (unhide HC4)
  rw [show off + 2 * 7 = off + 14 by omega] at c0 c1 c2 c3 c4 c5 c6
  go_wp2_with fail
  clear c0 c1 c2 c3 c4 c5 c6 e4
  have HCa := hide (unhide HC2 w2 (unhide HB2)).2
  refine (unhide HCa).mono ?_
  rintro e w3 ⟨rfl, hb1⟩
  have HB3 := hide ((unhide HB2).trans (hb1.mono (unhide HB2).size))
  clear hb1 HCa
  unfold pairV
  by_cases hr2 : r2 = 0
  case neg =>
    have g : (r2 != 0) = true := by simp [hr2]
    have HR := hide hr2
    clear hr2
    go_wp2
    go_ret2
    refine ⟨?_, (unhide HB).trans ((unhide HB3).mono (unhide HB).size)⟩
    have hx := unhide HRes
    rw [if_pos (unhide HR)] at hx
    rw [hx]
    rfl
  subst hr2
  have hx := unhide HRes
  rw [if_neg (by simp)] at hx
  replace HRes := hide hx
  clear hx
  by_cases hs0 : s0 = 2
  · subst hs0
    by_cases hs : s1 = s2
    · subst hs
      have hx := unhide HRes
      rw [if_pos ⟨rfl, rfl⟩] at hx
      subst hx
      clear HRes
      go_wp2
      go_ret2
      exact ⟨rfl, (unhide HB).trans ((unhide HB3).mono (unhide HB).size)⟩
    · have hx := unhide HRes
      rw [if_neg (fun h => hs h.2)] at hx
      subst hx
      clear HRes
      have g : (s1 != s2) = true := by simp [hs]
      clear hs
      go_wp2
      go_ret2
      exact ⟨rfl, (unhide HB).trans ((unhide HB3).mono (unhide HB).size)⟩
  · have hx := unhide HRes
    rw [if_neg (fun h => hs0 h.1)] at hx
    subst hx
    clear HRes
    have g : (s0 != 2) = true := by simp [hs0]
    clear hs0
    go_wp2
    go_ret2
    exact ⟨rfl, (unhide HB).trans ((unhide HB3).mono (unhide HB).size)⟩
end
end Go.Proofs.YtdkenobgfgmepaaDoor

/- The document's check: variables. -/
namespace Go.Proofs.YtdkenobgfgmepaaDoor
open Go Go.RowKit
theorem envOf_snoc (l : List (ByteArray × Int)) (a : ByteArray × Int) (k : ByteArray) : envOf (l ++ [a]) k = if k = a.1 then envOf l k ++ [a.2] else envOf l k := by
  rw [envOf_app]
  rfl
theorem envOf_drop (name : ByteArray) (x : List (ByteArray × Int)) : ∀ j, (∀ k (hk : k < x.length), j ≤ k → ¬ x[k].1 = name) → envOf x name = envOf (x.take j) name := by
  refine snoc_ind (p := fun x => ∀ j, (∀ k (hk : k < x.length), j ≤ k → ¬ x[k].1 = name) → envOf x name = envOf (x.take j) name) (fun j _ => by simp) (fun l a ih j h => ?_) x
  by_cases hj : j ≤ l.length
  · have ha : ¬ a.1 = name := by simpa using h l.length (by simp) hj
    rw [envOf_snoc, if_neg (fun e => ha e.symm), List.take_append_of_le_length hj]
    exact ih j fun k hk hjk => by
      have := h k (by simp; omega) hjk
      rwa [List.getElem_append_left hk] at this
  · rw [List.take_of_length_le (by simp; omega)]
theorem varE_at {name : ByteArray} {sort : Int} {x : List (ByteArray × Int)} {j : Nat} (hj : j < x.length) (h : ∀ k (hk : k < x.length), j + 1 ≤ k → ¬ x[k].1 = name) (he : x[j].1 = name) : varE name sort (envOf x) = if x[j].2 = sort then (sort, 0) else (0, 31) := by
  unfold varE
  rw [envOf_drop name x (j + 1) h, take_more hj, envOf_snoc, if_pos he.symm, List.getLast?_concat]
theorem varE_no {name : ByteArray} {sort : Int} {x : List (ByteArray × Int)} (h : ∀ k (hk : k < x.length), ¬ x[k].1 = name) : varE name sort (envOf x) = (0, 32) := by
  unfold varE
  rw [envOf_drop name x 0 fun k hk _ => h k hk]
  rfl
section
variable {rt : ByteArray → Bool} {sig : List Fn} {d B nS cS nV cV : Nat} {aS aV : Option Addr} {v : Value} {t : Tm} {x : List (ByteArray × Int)} {w : World}
theorem chk_varD {env : ByteArray → List Int} (h : t.op = 18) (hn : t.l.length = 0) (hw : wordB t.name = true) : t.chk rt sig env = varE t.name t.sort env := by
  have hb : shapeE rt sig t.op t.name t.num t.l.length (headOp t.l) t.vars t.pat.length = 0 := by
    unfold shapeE
    rw [if_neg (by omega)]
    have : shapeB rt t.op t.name t.num t.l.length (headOp t.l) t.vars t.pat.length = true := by
      unfold shapeB
      rw [if_neg (by omega), if_neg (by omega), if_neg (by omega), if_pos h, hw, hn]
      rfl
    rw [this]
    rfl
  rw [Tm.chk_eq, hb, if_neg (by simp), if_pos h]
set_option maxRecDepth 100000 in
set_option maxHeartbeats 16000000 in
/-- A name that is no word. -/
theorem ck_word (hT : IsT w B d v t) (hop : t.op = 17 ∨ t.op = 18 ∧ t.l.length = 0) (hw : wordB t.name = false) (hsz : t.name.size ≤ 9223372036854775807) : Calls Tryd.prog 38 #[.slice aS nS cS, v, .slice aV nV cV] w (VPost (pairV (t.chk rt sig (envOf x))) w) := by
  rw [chk_wrong (sh_word (hop.imp id (·.1)) hw) (by decide)]
  obtain ⟨h1, h2, aL, aY, aP, cL, cY, cP, rfl, hL, hV, hP⟩ := hT
  simp only [tcells, List.toArray]
  generalize t.vars.length = nY at *
  generalize t.pat.length = nP at *
  obtain ⟨nL, hnL⟩ : ∃ n, t.l.length = n := ⟨_, rfl⟩
  rw [hnL] at hop ⊢
  have HW := hide (fun W => word_b t.name W hsz)
  rw [hw] at HW
  clear hL hV hP h1 h2 hw hsz hnL
  rcases hop with hop | ⟨hop, hn0⟩
  · rw [hop]
    obtain ⟨w0, e0, hb0, hs0, hc0, hh⟩ := box_new w #[.int .i64 17, .string t.name, .int .i64 t.sort, .string t.num, .slice aL nL cL, .slice aY nY cY, .slice aP nP cP] 26
    have HE := hide (And.intro e0 hb0)
    clear e0 hb0 hs0 hc0 hh hop
    go_enter Tryd.func38, Tryd.ntmps38
    go_wp2_with fail
    rw [(unhide HE).1]
    refine (unhide HW w0).mono ?_
    rintro e w1 ⟨rfl, hb1⟩
    have HB1 := hide ((unhide HE).2.trans (hb1.mono (unhide HE).2.size))
    clear hb1
    go_wp2
    go_ret2
    exact ⟨rfl, unhide HB1⟩
  · subst hn0
    rw [hop]
    obtain ⟨w0, e0, hb0, hs0, hc0, hh⟩ := box_new w #[.int .i64 18, .string t.name, .int .i64 t.sort, .string t.num, .slice aL 0 cL, .slice aY nY cY, .slice aP nP cP] 26
    have HE := hide (And.intro e0 hb0)
    clear e0 hb0 hs0 hc0 hh hop
    go_enter Tryd.func38, Tryd.ntmps38
    go_wp2_with fail
    rw [(unhide HE).1]
    refine (unhide HW w0).mono ?_
    rintro e w1 ⟨rfl, hb1⟩
    have HB1 := hide ((unhide HE).2.trans (hb1.mono (unhide HE).2.size))
    clear hb1
    go_wp2
    go_ret2
    exact ⟨rfl, unhide HB1⟩
set_option maxRecDepth 100000 in
set_option maxHeartbeats 16000000 in
theorem ck_var (hT : IsT w B d v t) (hX : Row B aV nV cV 2 (BR w x)) (hnV : nV = x.length) (hB : B ≤ w.heap.size) (hop : t.op = 18) (hn : t.l.length = 0) (hw : wordB t.name = true) (hsz : t.name.size ≤ 9223372036854775807) : Calls Tryd.prog 38 #[.slice aS nS cS, v, .slice aV nV cV] w (VPost (pairV (t.chk rt sig (envOf x))) w) := by
  rw [chk_varD hop hn hw]
  obtain ⟨h1, h2, aL, aY, aP, cL, cY, cP, rfl, hL, hV, hP⟩ := hT
  simp only [tcells, List.toArray]
  generalize t.vars.length = nY at *
  generalize t.pat.length = nP at *
  rw [hn, hop]
  have HW := hide (fun W => word_b t.name W hsz)
  rw [hw] at HW
  have hmax : nV ≤ 281474976710656 := hX.2.1
  obtain ⟨w0, e0, hb0, hs0, hc0, hh⟩ := box_new w #[.int .i64 18, .string t.name, .int .i64 t.sort, .string t.num, .slice aL 0 cL, .slice aY nY cY, .slice aP nP cP] 26
  have HC := hide (And.intro (show w0.cell? ⟨w.heap.size, 0, none⟩ = some (.int .i64 18) from hc0 0 _ rfl) (And.intro (show w0.cell? ⟨w.heap.size, 1, none⟩ = some (.string t.name) from hc0 1 _ rfl) (show w0.cell? ⟨w.heap.size, 2, none⟩ = some (.int .i64 t.sort) from hc0 2 _ rfl)))
  have HE := hide e0
  have HB := hide hb0
  have HS0 := hide hs0
  have HX := hide hX
  have HN := hide hnV
  have HBB := hide hB
  generalize t.name = name at *
  generalize t.sort = sort at *
  obtain ⟨res, hres⟩ : ∃ r, r = varE name sort (envOf x) := ⟨_, rfl⟩
  rw [← hres]
  have HRes := hide hres
  clear hL hV hP h1 h2 hn hop hw hsz hc0 e0 hb0 hs0 hh hX hnV hB hres
  go_enter Tryd.func38, Tryd.ntmps38
  go_wp2_with fail
  rw [unhide HE]
  refine (unhide HW w0).mono ?_
  rintro e w1 ⟨rfl, hb1⟩
  have g0 : w1.cell? ⟨w.heap.size, 0, none⟩ = some (.int .i64 18) := (hb1.cell (p := ⟨w.heap.size, 0, none⟩) (show w.heap.size < w0.heap.size by have := unhide HS0; omega)).trans (unhide HC).1
  have HB1 := hide hb1
  clear hb1
  go_wp2
  clear g0
  go_loopw [26] (fun iv wr => ∃ j : Nat, j ≤ nV ∧ iv = .int .i64 ((j : Int) - 1) ∧ Hid (∀ k (hk : k < x.length), j ≤ k → ¬ x[k].1 = name) ∧ Below w1.heap.size w1 wr) (fun iv _ => ((intOf iv) + 1).toNat)
  case atStart => exact ⟨nV, Nat.le_refl _, by simp, fun k hk h => absurd hk (by have := unhide HN; omega), Below.refl _ _⟩
  case round =>
    obtain ⟨j, hj0, rfl, hno, hbr⟩ := hrel
    have hb0r : Below w0.heap.size w0 wr := (unhide HB1).trans (hbr.mono (unhide HB1).size)
    have hbw1 : Below w.heap.size w wr := (unhide HB).trans (hb0r.mono (unhide HB).size)
    have hq : w.heap.size < w0.heap.size := by have := unhide HS0; omega
    have g1 : wr.cell? ⟨w.heap.size, 1, none⟩ = some (.string name) := (hb0r.cell (p := ⟨w.heap.size, 1, none⟩) hq).trans (unhide HC).2.1
    have g2 : wr.cell? ⟨w.heap.size, 2, none⟩ = some (.int .i64 sort) := (hb0r.cell (p := ⟨w.heap.size, 2, none⟩) hq).trans (unhide HC).2.2
    cases j with
    | zero =>
      have hx := (unhide HRes).trans (varE_no fun k hk => unhide hno k hk (Nat.zero_le _))
      have HBw := hide hbw1
      clear hbw1 hno HRes hbr hb0r
      subst hx
      go_wp2
      go_ret2
      exact ⟨rfl, unhide HBw⟩
    | succ j =>
      have hjl : j < x.length := by have := unhide HN; omega
      obtain ⟨b, off, rfl, hbB, hc1, hc2⟩ := ((unhide HX).belowV (hbw1.mono (unhide HBB))).atV (unhide HN) (show j < nV by omega)
      have hyes : (x[j]).1 = name → varE name sort (envOf x) = if (x[j]).2 = sort then (sort, 0) else (0, 31) := fun e => varE_at hjl (unhide hno) e
      have hmor : ¬ (x[j]).1 = name → Hid (∀ k (hk : k < x.length), j ≤ k → ¬ x[k].1 = name) := fun h k hk hjk => by
        by_cases e : k = j
        · subst e; exact h
        · exact unhide hno k hk (by omega)
      rw [← unhide HRes] at hyes
      generalize x[j] = y at *
      obtain ⟨y1, y2⟩ := y
      have HBw := hide hbw1
      have HYM := hide (And.intro hyes hmor)
      have ej : ((j + 1 : Nat) : Int) - 1 = (j : Int) := by omega
      rw [ej]
      have hjn : (j : Int) < (nV : Int) := by omega
      have hj0' : (0 : Int) ≤ (j : Int) := by omega
      have HBr := hide hbr
      clear hbw1 hno hyes hmor ej hq hbB hbr hb0r
      by_cases hk : y1 = name
      · have hx := (unhide HYM).1 hk
        subst hk
        by_cases hso : y2 = sort
        · subst hso
          rw [if_pos rfl] at hx
          clear HYM HRes
          subst hx
          go_wp2
          go_quiet (fail)
          go_wp2
          go_quiet (fail)
          go_wp2
          go_ret2
          first | exact ⟨rfl, (unhide HBw).trans (below_drewN (Below.refl _ wr) _ |>.mono (unhide HBw).size)⟩ | exact ⟨rfl, (unhide HBw).trans (below_drewN (below_drewN (Below.refl _ wr) _) _ |>.mono (unhide HBw).size)⟩
        · rw [if_neg hso] at hx
          have g : (y2 != sort) = true := by simp [hso]
          clear HYM HRes hso
          subst hx
          go_wp2
          go_quiet (fail)
          go_wp2
          go_quiet (fail)
          go_wp2
          go_ret2
          first | exact ⟨rfl, (unhide HBw).trans (below_drewN (Below.refl _ wr) _ |>.mono (unhide HBw).size)⟩ | exact ⟨rfl, (unhide HBw).trans (below_drewN (below_drewN (Below.refl _ wr) _) _ |>.mono (unhide HBw).size)⟩
      · have hm := (unhide HYM).2 hk
        have hne := str_ne hk
        clear hk HYM
        go_wp2
        go_quiet (fail)
        go_wp2
        exact ⟨⟨j, by omega, by simp, hm, (unhide HBr).trans (below_drewN (Below.refl _ wr) _ |>.mono (unhide HBr).size)⟩, by simp [intOf]⟩
end
end Go.Proofs.YtdkenobgfgmepaaDoor

/- The document's check: applications. -/
namespace Go.Proofs.YtdkenobgfgmepaaDoor
open Go Go.RowKit
section
variable {rt : ByteArray → Bool} {sig : List Fn} {d B nS cS nV cV : Nat} {aS aV : Option Addr} {v : Value} {t : Tm} {x : List (ByteArray × Int)} {w : World} {env : ByteArray → List Int} {f : Fn}
theorem chk_app_no (h : t.op = 17) (hw : wordB t.name = true) (hf : findF t.name sig = none) : t.chk rt sig env = (0, 32) := by
  refine chk_wrong ?_ (by decide)
  unfold shE shapeE appE
  rw [if_pos h, if_pos hw, hf]
theorem chk_app_n (h : t.op = 17) (hw : wordB t.name = true) (hf : findF t.name sig = some f) (hn : t.l.length ≠ f.args.length) : t.chk rt sig env = (0, 30) := by
  refine chk_wrong ?_ (by decide)
  unfold shE shapeE appE
  rw [if_pos h, if_pos hw, hf]
  simp only
  rw [if_neg hn]
def appR (f : Fn) (p : List Int × Int) : Int × Int := if p.2 ≠ 0 then (0, p.2) else if p.1 = f.args ∧ sortB f.out = true then (f.out, 0) else (0, 31)
theorem chk_app (h : t.op = 17) (hw : wordB t.name = true) (hf : findF t.name sig = some f) (hn : t.l.length = f.args.length) : t.chk rt sig env = appR f (chkL (t.l.map (Tm.chk rt sig)) env) := by
  have hs : shapeE rt sig t.op t.name t.num t.l.length (headOp t.l) t.vars t.pat.length = 0 := by
    unfold shapeE appE
    rw [if_pos h, if_pos hw, hf]
    simp only
    rw [if_pos hn]
  rw [Tm.chk_eq, hs, if_neg (by simp), if_neg (by omega), if_neg (by omega)]
  unfold appR
  by_cases he : (chkL (t.l.map (Tm.chk rt sig)) env).2 = 0
  · rw [if_neg (by simp [he]), if_neg (by simp [he])]
    unfold sortOfT
    rw [if_pos h, hf]
    simp only [Option.bind_some]
    unfold appliedT
    by_cases ha : (chkL (t.l.map (Tm.chk rt sig)) env).1 = f.args ∧ sortB f.out = true
    · rw [if_pos ha, if_pos ha]
    · rw [if_neg ha, if_neg ha]
  · rw [if_pos he, if_pos he]
theorem take_eq {ss A : List Int} {s : Int} {i : Nat} (hi : i < A.length) (hl : ss.length = i) : decide (ss ++ [s] = A.take (i + 1)) = (decide (ss = A.take i) && (s == A[i])) := by
  rw [take_more hi]
  have hl2 : ss.length = (A.take i).length := by simp; omega
  generalize A.take i = P at *
  generalize A[i] = a
  by_cases h1 : ss = P
  · subst h1
    by_cases h2 : s = a <;> simp [h2]
  · have : ¬ (ss ++ [s] = P ++ [a]) := fun e => h1 (List.append_inj_left e hl2)
    simp [h1, this]
set_option maxRecDepth 100000 in
set_option maxHeartbeats 16000000 in
theorem ck_app (ih : ∀ d' < d, CkC rt sig d') (hT : IsT w B d v t) (hS : Row B aS nS cS 3 (SigR w B sig)) (hnS : nS = sig.length) (hX : Row B aV nV cV 2 (BR w x)) (hnV : nV = x.length) (hB : B ≤ w.heap.size) (hO : OkT (RtC rt) (d + 1) t) (hw : nV + t.wt ≤ 1000) (hop : t.op = 17) (hwd : wordB t.name = true) : Calls Tryd.prog 38 #[.slice aS nS cS, v, .slice aV nV cV] w (VPost (pairV (t.chk rt sig (envOf x))) w) := by
  obtain ⟨h1, h2, aL, aY, aP, cL, cY, cP, rfl, hL, hV, hP⟩ := hT
  simp only [tcells, List.toArray]
  generalize t.vars.length = nY at *
  generalize t.pat.length = nP at *
  obtain ⟨n, hn⟩ : ∃ n, t.l.length = n := ⟨_, rfl⟩
  rw [hn] at hL ⊢
  rw [hop]
  have hmax : n ≤ 281474976710656 := hL.2.1
  have HW := hide (fun W => word_b t.name W hO.2.1)
  rw [hwd] at HW
  obtain ⟨w0, e0, hb0, hs0, hc0, hh⟩ := box_new w #[.int .i64 17, .string t.name, .int .i64 t.sort, .string t.num, .slice aL n cL, .slice aY nY cY, .slice aP nP cP] 26
  have HC := hide (And.intro (show w0.cell? ⟨w.heap.size, 0, none⟩ = some (.int .i64 17) from hc0 0 _ rfl) (And.intro (show w0.cell? ⟨w.heap.size, 1, none⟩ = some (.string t.name) from hc0 1 _ rfl) (show w0.cell? ⟨w.heap.size, 4, none⟩ = some (.slice aL n cL) from hc0 4 _ rfl)))
  have HE := hide e0
  have HB := hide hb0
  have HS0 := hide hs0
  have HN := hide hn
  have HL := hide hL
  have HI := hide (And.intro ih (And.intro hS (And.intro hnS (And.intro hX (And.intro hnV (And.intro hO (And.intro hw hB)))))))
  obtain ⟨env, henv⟩ : ∃ env, envOf x = env := ⟨_, rfl⟩
  obtain ⟨res, hres⟩ : ∃ r, r = t.chk rt sig (envOf x) := ⟨_, rfl⟩
  rw [← hres]
  rw [henv] at hres
  have HEn := hide henv
  have HRes := hide hres
  have HOp := hide (And.intro hop hwd)
  obtain ⟨name, hna⟩ : ∃ m, t.name = m := ⟨_, rfl⟩
  rw [hna] at HW HE HC ⊢
  have HNa := hide hna
  clear hc0 e0 hh hb0 hn hL hV hP h1 h2 ih hS hnS hX hnV hO hw hop hwd hs0 hB henv hres hna
  go_enter Tryd.func38, Tryd.ntmps38
  go_wp2_with fail
  rw [unhide HE]
  refine (unhide HW w0).mono ?_
  rintro e w1 ⟨rfl, hb1⟩
  have hq : w.heap.size < w0.heap.size := by have := unhide HS0; omega
  have g0 : w1.cell? ⟨w.heap.size, 0, none⟩ = some (.int .i64 17) := (hb1.cell (p := ⟨w.heap.size, 0, none⟩) hq).trans (unhide HC).1
  have g1 : w1.cell? ⟨w.heap.size, 1, none⟩ = some (.string name) := (hb1.cell (p := ⟨w.heap.size, 1, none⟩) hq).trans (unhide HC).2.1
  have HB1 := hide hb1
  have HF : Hid (Calls Tryd.prog 61 #[.slice aS nS cS, .string name] w1 (FindP w1 B name sig)) := by
    obtain ⟨_, hS, hnS, _, _, _, _, hB⟩ := unhide HI
    have hb : Below w.heap.size w w1 := (unhide HB).trans (hb1.mono (unhide HB).size)
    exact Find_any name (hS.belowS (hb.mono hB)) hnS (Nat.le_trans hB hb.size)
  clear hb1 hq
  go_wp2_with fail
  refine (unhide HF).mono ?_
  rintro e w2 ⟨sN, a2, m2, c2, o2, b2, rfl, hb2, hR⟩
  have HB2 := hide ((unhide HB1).trans (hb2.mono (unhide HB1).size))
  have HB12 := hide hb2
  clear hb2 g0 g1 HF
  rcases hR with ⟨hf, rfl⟩ | ⟨f, hf, rfl, rfl, rfl, hfo, hRA⟩
  · have hx : res = (0, 32) := by
      obtain ⟨hop, hwd⟩ := unhide HOp
      rw [← unhide HNa] at hf
      exact (unhide HRes).trans (chk_app_no hop hwd hf)
    have HX := hide hx
    clear hx hf
    go_wp2
    go_ret2
    refine ⟨?_, ?_⟩
    · rw [unhide HX]
      rfl
    · have h0 := (unhide HB).trans ((unhide HB2).mono (unhide HB).size)
      exact h0.alloc h0.size _
  · obtain ⟨m, hm⟩ : ∃ m, f.args.length = m := ⟨_, rfl⟩
    rw [hm] at hRA ⊢
    have hmA : m ≤ 281474976710656 := hRA.2.1
    by_cases hnm : m = n
    · subst hnm
      have hx : res = appR f (chkL (t.l.map (Tm.chk rt sig)) env) := by
        obtain ⟨hop, hwd⟩ := unhide HOp
        rw [← unhide HNa] at hf
        exact (unhide HRes).trans (chk_app hop hwd hf (by rw [unhide HN, hm]))
      have HX := hide hx
      have HM := hide hm
      obtain ⟨w3, e3, hb3, hs3, hc3, hh3⟩ := box_new w2 #[.string sN, .slice a2 m c2, .int .i64 f.out] 56
      have HE3 := hide e3
      have HB3 := hide ((unhide HB2).trans (hb3.mono (unhide HB2).size))
      have HQ := hide (show w.heap.size < w2.heap.size by have := (unhide HB2).size; have := unhide HS0; omega)
      have HC3 := hide (And.intro (show w3.cell? ⟨w2.heap.size, 1, none⟩ = some (.slice a2 m c2) from hc3 1 _ rfl) (And.intro (show w3.cell? ⟨w2.heap.size, 2, none⟩ = some (.int .i64 f.out) from hc3 2 _ rfl) hs3))
      have HRA := hide hRA
      have HB13 := hide ((unhide HB12).trans (hb3.mono (unhide HB12).size))
      clear hx hf hm e3 hb3 hs3 hc3 hh3 hRA hfo HRes
      go_wp2
      rw [unhide HE3]
      go_loopw [22, 23] (fun ov iv wr => ∃ i : Nat, i ≤ m ∧ iv = .int .i64 i ∧ ov = .bool (decide ((chkL ((t.l.take i).map (Tm.chk rt sig)) env).1 = f.args.take i)) ∧ (chkL ((t.l.take i).map (Tm.chk rt sig)) env).2 = 0 ∧ Below w3.heap.size w3 wr) (fun _ iv _ => m - (intOf iv).toNat)
      case atStart => exact ⟨0, Nat.zero_le _, rfl, rfl, rfl, Below.refl _ _⟩
      case round =>
        obtain ⟨i, hi0, rfl, rfl, hno, hb⟩ := hrel
        have hb0r : Below w0.heap.size w0 wr := (unhide HB3).trans (hb.mono (unhide HB3).size)
        have hbw : Below w.heap.size w wr := (unhide HB).trans (hb0r.mono (unhide HB).size)
        have hq0 : w.heap.size < w0.heap.size := by have := unhide HS0; omega
        have hq3 : w2.heap.size < w3.heap.size := by have := (unhide HC3).2.2; omega
        have hc4 := (hb0r.cell (p := ⟨w.heap.size, 4, none⟩) hq0).trans (unhide HC).2.2
        have k1 := (hb.cell (p := ⟨w2.heap.size, 1, none⟩) hq3).trans (unhide HC3).1
        have k2 := (hb.cell (p := ⟨w2.heap.size, 2, none⟩) hq3).trans (unhide HC3).2.1
        by_cases hi : i < m
        · have hiI : (i : Int) < (m : Int) := by omega
          obtain ⟨ih, hS, hnS, hX, hnV, hO, hw, hB⟩ := unhide HI
          obtain ⟨b, off, rfl, hbB, hAt⟩ := ((unhide HL).below (hbw.mono hB)).at (unhide HN).symm hi
          obtain ⟨d', bL, bV, bP, mL, mV, mP, kL, kV, kP, rfl, ⟨c0, c1, c2', c3, c4, c5, c6⟩, hT⟩ := hAt.cells
          have hil : i < t.l.length := by rw [unhide HN]; exact hi
          have hiA : i < f.args.length := by rw [unhide HM]; exact hi
          have hmem : t.l[i] ∈ t.l := List.getElem_mem hil
          have hww := wt_mem hmem
          have hOu := hO.2.2.2.2.2.1 _ hmem
          have hCk := hide (ih d' (by omega) B aS nS cS _ _ aV nV cV x wr hT (hS.belowS (hbw.mono hB)) hnS (hX.belowV (hbw.mono hB)) hnV (Nat.le_trans hB hbw.size) hOu (by omega))
          have hat : ((t.l[i]).chk rt sig env).2 ≠ 0 → (chkL (t.l.map (Tm.chk rt sig)) env).2 = ((t.l[i]).chk rt sig env).2 := fun h => by
            have := chkL_at (fs := t.l.map (Tm.chk rt sig)) (env := env) (i := i) (by simpa using hil) (by rw [← List.map_take]; exact hno) (by simpa using h)
            simpa using this
          have hsn : (chkL ((t.l.take (i + 1)).map (Tm.chk rt sig)) env) = if ((t.l[i]).chk rt sig env).2 ≠ 0 then ((chkL ((t.l.take i).map (Tm.chk rt sig)) env).1, ((t.l[i]).chk rt sig env).2) else ((chkL ((t.l.take i).map (Tm.chk rt sig)) env).1 ++ [((t.l[i]).chk rt sig env).1], 0) := by
            rw [take_more hil, List.map_append]
            exact chkL_snoc _ _ _ hno
          have hlen : (chkL ((t.l.take i).map (Tm.chk rt sig)) env).1.length = i := by
            rw [chkL_len hno]
            simp
            omega
          have hte := fun s => take_eq (s := s) hiA hlen
          rw [unhide HEn] at hCk
          obtain ⟨bA, oA, rfl, hbA, hjA⟩ := (unhide HRA).2.2 (by omega)
          have hcA := (hjA i hi _ (List.getElem?_eq_getElem hiA)).1
          have hb1r : Below w1.heap.size w1 wr := (unhide HB13).trans (hb.mono (unhide HB13).size)
          have hcA' : wr.cell? ⟨bA, oA + i, none⟩ = some (.int .i64 (f.args[i])) := (hb1r.cell (p := ⟨bA, oA + i, none⟩) (show bA < w1.heap.size by have := (unhide HB1).size; have := (unhide HB).size; omega)).trans (by simpa using hcA)
          have HA := hide (And.intro hat (And.intro hsn hte))
          clear hat hsn hww hOu ih hS hnS hX hnV hO hw hmem hno hAt hlen hte hcA hjA
          generalize (chkL ((t.l.take i).map (Tm.chk rt sig)) env).1 = ss at *
          generalize t.l[i] = u at *
          generalize f.args[i] = ai at *
          obtain ⟨p, hp⟩ : ∃ p, u.chk rt sig env = p := ⟨_, rfl⟩
          rw [hp] at hCk HA
          have HB' := hide hb
          have HBw := hide hbw
          have HBA := hide (show bA < wr.heap.size by have := hb1r.size; have := (unhide HB1).size; have := (unhide HB).size; omega)
          have HQ3 := hide (show w2.heap.size < wr.heap.size by have := hb.size; omega)
          clear hT hb hbw hp hb0r hb1r hq0 hq3 hbB hbA hB hil hiA
          go_wp2_with fail
          refine (unhide hCk).mono ?_
          rintro e w4 ⟨rfl, hb4⟩
          have k1' := (hb4.cell (p := ⟨w2.heap.size, 1, none⟩) (unhide HQ3)).trans k1
          have kA' := (hb4.cell (p := ⟨bA, oA + i, none⟩) (unhide HBA)).trans hcA'
          have HB4 := hide hb4
          clear hb4 hCk c0 c1 c2' c3 c4 c5 c6 hc4 k1 k2 hcA'
          unfold pairV
          obtain ⟨ps, pe⟩ := p
          by_cases hpe : pe = 0
          · subst hpe
            have hs2 := hide ((unhide HA).2)
            clear HA
            cases ok : decide (ss = f.args.take i) with
            | true =>
              go_wp2
              refine ⟨⟨i + 1, by omega, by simp, ?_, ?_, (unhide HB').trans ((unhide HB4).mono (unhide HB').size)⟩, by simp [intOf]; omega⟩
              · rw [(unhide hs2).1, if_neg (by simp)]
                show _ = Value.bool (decide (ss ++ [ps] = _))
                rw [(unhide hs2).2, ok]
                rfl
              · rw [(unhide hs2).1]
                simp
            | false =>
              go_wp2
              refine ⟨⟨i + 1, by omega, by simp, ?_, ?_, (unhide HB').trans ((unhide HB4).mono (unhide HB').size)⟩, by simp [intOf]; omega⟩
              · rw [(unhide hs2).1, if_neg (by simp)]
                show _ = Value.bool (decide (ss ++ [ps] = _))
                rw [(unhide hs2).2, ok]
                rfl
              · rw [(unhide hs2).1]
                simp
          · have hpe2 : (pe != 0) = true := by simp [hpe]
            have hs2 := hide ((unhide HA).1 hpe)
            have HPE := hide hpe
            clear HA hpe
            go_wp2
            go_ret2
            refine ⟨?_, (unhide HBw).trans ((unhide HB4).mono (unhide HBw).size)⟩
            rw [unhide HX]
            unfold appR
            rw [unhide hs2, if_pos (unhide HPE)]
            rfl
        · have htk : t.l.take i = t.l := List.take_of_length_le (by rw [unhide HN]; omega)
          have htk2 : f.args.take i = f.args := List.take_of_length_le (by rw [unhide HM]; omega)
          rw [htk] at hno ⊢
          rw [htk2]
          have hiI : decide ((i : Int) < (m : Int)) = false := by simp; omega
          have HNo := hide hno
          have HBw := hide hbw
          clear hbw hb hno htk htk2 hb0r hc4 k1 hq0 hq3
          have hxx := unhide HX
          unfold appR at hxx
          rw [if_neg (by rw [unhide HNo]; simp)] at hxx
          have HXX := hide hxx
          clear hxx
          by_cases ok : (chkL (t.l.map (Tm.chk rt sig)) env).1 = f.args
          · have hok : decide ((chkL (t.l.map (Tm.chk rt sig)) env).1 = f.args) = true := by simp [ok]
            rw [hok]
            have HOk := hide ok
            clear ok hok
            go_wp2_with fail
            refine (knownS_any f.out wr).mono ?_
            rintro e w4 ⟨rfl, rfl⟩
            have hsb : (decide (1 ≤ f.out) && decide (f.out ≤ 3)) = sortB f.out := rfl
            rw [hsb]
            clear hsb
            cases hso : sortB f.out with
            | true =>
              have h3 := (unhide HXX).trans (if_pos ⟨unhide HOk, hso⟩)
              clear hso
              have H3 := hide h3
              clear h3
              go_wp2
              go_ret2
              exact ⟨by rw [unhide H3]; rfl, unhide HBw⟩
            | false =>
              have h3 := (unhide HXX).trans (if_neg (fun h => by rw [hso] at h; cases h.2))
              clear hso
              have H3 := hide h3
              clear h3
              go_wp2
              go_ret2
              exact ⟨by rw [unhide H3]; rfl, unhide HBw⟩
          · have hok : decide ((chkL (t.l.map (Tm.chk rt sig)) env).1 = f.args) = false := by simp [ok]
            rw [hok]
            have h3 := (unhide HXX).trans (if_neg (fun h => ok h.1))
            clear ok hok
            have H3 := hide h3
            clear h3
            go_wp2
            go_ret2
            exact ⟨by rw [unhide H3]; rfl, unhide HBw⟩
    · have hx : res = (0, 30) := by
        obtain ⟨hop, hwd⟩ := unhide HOp
        rw [← unhide HNa] at hf
        exact (unhide HRes).trans (chk_app_n hop hwd hf (by rw [unhide HN, hm]; exact fun e => hnm e.symm))
      have HX := hide hx
      have g : ((m : Int) != (n : Int)) = true := by simp; omega
      clear hx hf hnm hm hRA hfo
      go_wp2
      go_ret2
      refine ⟨?_, ?_⟩
      · rw [unhide HX]
        rfl
      · have h0 := (unhide HB).trans ((unhide HB2).mono (unhide HB).size)
        exact h0.alloc h0.size _
end
end Go.Proofs.YtdkenobgfgmepaaDoor

namespace Go.Proofs.YtdkenobgfgmepaaDoor
open Go Go.RowKit
/-- A slice of m elements whose cells read so. -/
def RdK (w : World) (s : Value) (m : Nat) (vs : List Value) : Prop := (vs = [] ∧ m = 0 ∧ ∃ cap, s = .slice none 0 cap) ∨ ∃ (p : Addr) (cap : Nat), s = .slice (some p) m cap ∧ ∀ (j : Nat) u, vs[j]? = some u → w.cell? (p.add j) = some u
theorem app_gen {w : World} {B n m size : Nat} {v s : Value} {xs vs : List Value} (t e : TypeId) (i : TypeInfo) (z : Value) (bytes : Nat) (ht : Tryd.prog.underlying t = some (.slice e)) (hi : Tryd.prog.info? e = some i) (hz : i.zero = some z) (h1 : i.size = size) (h2 : i.bytes = bytes) (hzs : z.cells.size = size) (h0 : 0 < size) (hb : bytes ≤ 120) (hown : w.ownsRow B e size v n xs) (hs : RdK w s m vs) (hl : vs.length = m * size) (hone : ∀ u ∈ vs, u.oneCell' = true) (hn : n + m ≤ 1000000000000) (hB : B ≤ w.heap.size) (ty : TypeId) :
    ∃ v' w', (Builtin.append_ #[t, t] ty #[v, s]).run Tryd.prog w = .ok v' w' ∧ w'.ownsRow B e size v' (n + m) (xs ++ vs) ∧ w.grownBy w' v.ownBlock := by
  rcases hs with ⟨rfl, rfl, cap, rfl⟩ | ⟨p, cap, rfl, hc⟩
  · refine ⟨v, w, ?_, by simpa using hown, ⟨rfl, rfl, rfl, Nat.le_refl _, fun _ _ _ => rfl⟩⟩
    rcases hown.2 with ⟨rfl, rfl⟩ | ⟨g, c, cur, rfl, _, _, hnc, _⟩
    · simp [Builtin.append_, run_underlying ht, sizeOf, typeInfo, zeroValue, hi, hz, Builtin.lenOf, run_firstCells_none]
    · simp [Builtin.append_, run_underlying ht, sizeOf, typeInfo, zeroValue, hi, hz, Builtin.lenOf, run_firstCells_none, hnc, storeCells]
  · obtain ⟨v', w', hr, ho, hg, _⟩ := run_append_own (P := Tryd.prog) w B t ty e i z size bytes ht hi hz h1 h2 hzs h0 v n xs hown p m cap vs hl hc hone (by unfold maxLen; omega) (by
        have : (n + m) * bytes ≤ 1000000000000 * 120 := Nat.mul_le_mul hn hb
        omega) hB
    exact ⟨v', w', hr, ho, hg⟩
theorem own_nilK (w : World) (B k : Nat) (t : TypeId) : w.ownsRow B t k (.slice none 0 0) 0 [] := ⟨by simp, .inl ⟨rfl, rfl⟩⟩
theorem below_appK {w0 w w' : World} {B k : Nat} {v : Value} {t : TypeId} {n : Nat} {xs : List Value} (hb : Below B w0 w) (hg : w.grownBy w' v.ownBlock) (ho : w.ownsRow B t k v n xs) (hB : B ≤ w.heap.size) : Below B w0 w' := hb.grown hg hB (fun b e => (ho.lt b e).1)
/-- What a slice of one's own reads as. -/
theorem own_cells {w : World} {B k n : Nat} {v : Value} {t : TypeId} {xs : List Value} (h : w.ownsRow B t k v n xs) : ∃ a c, v = .slice a n c ∧ n ≤ c ∧ (n ≠ 0 → ∃ g, a = some ⟨g, 0, none⟩ ∧ B ≤ g ∧ g < w.heap.size ∧ ∀ (j : Nat) u, xs[j]? = some u → w.cell? ⟨g, j, none⟩ = some u) := by
  obtain ⟨hlen, ⟨rfl, h0⟩ | ⟨g, cap, cur, rfl, hg, hgb, hc1, hc2, hc3, hc4⟩⟩ := h
  · subst h0
    exact ⟨none, 0, rfl, Nat.le_refl _, fun h => absurd rfl h⟩
  · refine ⟨_, cap, rfl, hc1, fun _ => ⟨g, rfl, hg, (Array.getElem?_eq_some_iff.1 hgb).1, fun j u hu => ?_⟩⟩
    rw [← hc4, List.getElem?_take] at hu
    split at hu
    · exact (blk hgb).2.1 j u (by rw [← Array.getElem?_toList]; exact hu)
    · cases hu
/-- Rows of bound variables, as cells. -/
theorem rdB {w : World} {B n c : Nat} {a : Option Addr} {x : List (ByteArray × Int)} (hx : Row B a n c 2 (BR w x)) (hn : n = x.length) : RdK w (.slice a n c) n (bcells x) := by
  cases a with
  | none =>
    have h0 : n = 0 := by
      rcases Nat.eq_zero_or_pos n with h | h
      · exact h
      · obtain ⟨b, off, e, _⟩ := hx.2.2 (by omega)
        cases e
    subst h0
    have : x = [] := List.length_eq_zero_iff.1 hn.symm
    subst this
    exact .inl ⟨rfl, rfl, c, rfl⟩
  | some ad =>
    refine .inr ⟨ad, c, rfl, fun j u hj => ?_⟩
    obtain ⟨p, hp, rfl⟩ := (bcells_get x j u).1 hj
    have hj2 := (List.getElem?_eq_some_iff.1 hp).1
    obtain ⟨b, off, e, hb, hjj⟩ := hx.2.2 (by omega)
    injection e with e
    subst e
    obtain ⟨rg, _⟩ := hjj (j / 2) (by omega) p hp
    rw [Addr.add_lit]
    by_cases h2 : j % 2 = 0
    · rw [if_pos h2]
      have := rg 0 _ rfl
      rw [show off + j = off + j / 2 * 2 + 0 by omega]
      exact this
    · rw [if_neg h2]
      have := rg 1 _ rfl
      rw [show off + j = off + j / 2 * 2 + 1 by omega]
      exact this
theorem bcells_one {x : List (ByteArray × Int)} : ∀ u ∈ bcells x, u.oneCell' = true := fun u hu => by
  obtain ⟨j, hj, e⟩ := List.getElem_of_mem hu
  obtain ⟨p, _, rfl⟩ := (bcells_get x j u).1 (by rw [List.getElem?_eq_getElem hj, e])
  split <;> rfl
theorem bcells_app (x y : List (ByteArray × Int)) : bcells (x ++ y) = bcells x ++ bcells y := by simp [bcells]
theorem row_own {w : World} {B n : Nat} {v : Value} {x : List (ByteArray × Int)} (h : w.ownsRow B 45 2 v n (bcells x)) (hn : n = x.length) (hf : ∀ u ∈ x, fits u.2) (hl : n ≤ 281474976710656) : ∃ a c, v = .slice a n c ∧ Row w.heap.size a n c 2 (BR w x) := by
  obtain ⟨a, c, rfl, hc, hr⟩ := own_cells h
  refine ⟨a, c, rfl, hc, hl, fun h0 => ?_⟩
  obtain ⟨g, rfl, _, hg, hj⟩ := hr h0
  refine ⟨g, 0, rfl, hg, fun j hjn u hu => ⟨fun k v hv => ?_, hf u (List.mem_of_getElem? hu)⟩⟩
  have hk2 : k < 2 := by
    have := (List.getElem?_eq_some_iff.1 hv).1
    simpa using this
  have := hj (j * 2 + k) v ((bcells_get x _ v).2 ⟨u, by rw [show (j * 2 + k) / 2 = j by omega]; exact hu, by
    rcases (by omega : k = 0 ∨ k = 1) with rfl | rfl
    · rw [if_pos (by omega)]
      simpa using hv
    · rw [if_neg (by omega)]
      simpa using hv⟩)
  rw [show 0 + j * 2 + k = j * 2 + k by omega]
  exact this
theorem Row.fitsV {w : World} {B n c : Nat} {a : Option Addr} {x : List (ByteArray × Int)} (hx : Row B a n c 2 (BR w x)) (hn : n = x.length) : ∀ u ∈ x, fits u.2 := fun u hu => by
  obtain ⟨j, hj, rfl⟩ := List.getElem_of_mem hu
  obtain ⟨b, off, _, _, hjj⟩ := hx.2.2 (by omega)
  exact (hjj j (by omega) _ (List.getElem?_eq_getElem hj)).2
/-- Two lists of bound variables, the one behind the other, in memory of their own. -/
theorem join_bounds {w : World} {B n c m c' : Nat} {a a' : Option Addr} {x y : List (ByteArray × Int)} (hx : Row B a n c 2 (BR w x)) (hn : n = x.length) (hy : Row B a' m c' 2 (BR w y)) (hm : m = y.length) (hB : B ≤ w.heap.size) (hl : n + m ≤ 1000000) :
    ∃ v1 w1 a2 c2 w2, (Builtin.append_ #[24, 24] 24 #[.slice none 0 0, .slice a n c]).run Tryd.prog w = .ok v1 w1 ∧ (Builtin.append_ #[24, 24] 24 #[v1, .slice a' m c']).run Tryd.prog w1 = .ok (.slice a2 (n + m) c2) w2 ∧ Row w2.heap.size a2 (n + m) c2 2 (BR w2 (x ++ y)) ∧ Below w.heap.size w w1 ∧ Below w.heap.size w w2 := by
  obtain ⟨i0, hi0, hz0, hz1, hz2⟩ := inf_of infBound
  obtain ⟨v1, w1, r1, o1, g1⟩ := app_gen 24 45 i0 _ 24 tBounds hi0 hz0 hz1 hz2 rfl (by omega) (by omega) (own_nilK w w.heap.size 2 45) (rdB hx hn) (by rw [bcells_len, hn]) bcells_one (by omega) (Nat.le_refl _) 24
  have b1 : Below w.heap.size w w1 := below_appK (Below.refl _ w) g1 (own_nilK w w.heap.size 2 45) (Nat.le_refl _)
  obtain ⟨v2, w2, r2, o2, g2⟩ := app_gen 24 45 i0 _ 24 tBounds hi0 hz0 hz1 hz2 rfl (by omega) (by omega) o1 (rdB (hy.belowV (b1.mono hB)) hm) (by rw [bcells_len, hm]) bcells_one (by omega) b1.size 24
  have b2 : Below w.heap.size w w2 := below_appK b1 g2 o1 b1.size
  have e : [] ++ bcells x ++ bcells y = bcells (x ++ y) := by rw [bcells_app, List.nil_append]
  rw [e, Nat.zero_add] at o2
  obtain ⟨a2, c2, rfl, hr⟩ := row_own o2 (by simp; omega) (fun u hu => by
    rcases List.mem_append.1 hu with h | h
    · exact hx.fitsV hn u h
    · exact hy.fitsV hm u h) (by omega)
  exact ⟨v1, w1, a2, c2, w2, r1, r2, hr, b1, b2⟩
/-- An append whose run is known, as a step of a region that draws. -/
theorem step_run {ops : Array Oper} {o : Oper} {a : Act} {K : Act → World → Prop} {Q : Exit → Act → World → Prop} {E : Prop} {w w' : World} {v u v' : Value} (s x : Operand) (t : TypeId) (ho : o.op = .call { callee := .builtin .append, args := #[s, x], argTypes := #[t, t] }) (hs : a.eval s = v) (hx : a.eval x = u) (hw : Region.wanted o (yielded ops a.tmps) = true) (hr : (Builtin.append_ #[t, t] o.type #[v, u]).run Tryd.prog w = .ok v' w') (h : K (a.put o.dst v') w') : if Region.wanted o (yielded ops a.tmps) = true then Oper.wp Tryd.prog o a w K Q else E := by
  rw [if_pos hw]
  unfold Oper.wp execOp
  simp only [ho, resolve, invoke, builtin, Sem.run_bind, Sem.run_pure, Result.andThen_ok, List.map_toArray, List.map_cons, List.map_nil, hs, hx, hr]
  exact h
/-- An append whose run is known, at the list of a plain region's operations. -/
theorem app_run {ops : Array Oper} {rest : List Oper} {o : Oper} {a : Act} {Q : Exit → Act → World → Prop} {w w' : World} {v u v' : Value} (s x : Operand) (t : TypeId) (ho : o.op = .call { callee := .builtin .append, args := #[s, x], argTypes := #[t, t] }) (hs : a.eval s = v) (hx : a.eval x = u) (hw : Region.wanted o (yielded ops a.tmps) = true) (hr : (Builtin.append_ #[t, t] o.type #[v, u]).run Tryd.prog w = .ok v' w') (h : wpList Tryd.prog ops Q rest (a.put o.dst v') w') : wpList Tryd.prog ops Q (o :: rest) a w := by
  unfold wpList
  rw [if_pos hw]
  left
  unfold Oper.wp execOp
  simp only [ho, resolve, invoke, builtin, Sem.run_bind, Sem.run_pure, Result.andThen_ok, List.map_toArray, List.map_cons, List.map_nil, hs, hx, hr]
  exact h
end Go.Proofs.YtdkenobgfgmepaaDoor
