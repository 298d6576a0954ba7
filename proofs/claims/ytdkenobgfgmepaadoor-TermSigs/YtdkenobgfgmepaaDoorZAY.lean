/- num.Parse at texts that are not right. -/
import Derived.Test.YtdkenobgfgmepaaDoorZAX
import Derived.Test.YtdkenobgfgmepaaDoorZAB
import Derived.Laws.RangeAny
import Derived.Test.YtdkenobgfgmepaaDoorZAF
set_option linter.unusedVariables false
set_option linter.unusedSimpArgs false

/- The document's check: formulas for all. -/
namespace Go.Proofs.YtdkenobgfgmepaaDoor
open Go Go.RowKit
section
variable {rt : ByteArray → Bool} {sig : List Fn} {d B nS cS nV cV : Nat} {aS aV : Option Addr} {v : Value} {t u0 : Tm} {x : List (ByteArray × Int)} {w : World} {env : ByteArray → List Int}
theorem sh_forall (h : t.op = 19) (hl : t.l = [u0]) : shE rt sig t = if bindsB t = true then 0 else 30 := by
  have hb : shapeB rt t.op t.name t.num t.l.length (headOp t.l) t.vars t.pat.length = bindsB t := by
    unfold shapeB bindsB
    rw [if_neg (by omega), if_neg (by omega), if_neg (by omega), if_neg (by omega), if_pos h]
  unfold shE shapeE
  rw [if_neg (by omega), hb]
theorem chk_all_no (h : t.op = 19) (hl : t.l = [u0]) (hb : bindsB t = false) : t.chk rt sig env = (0, 30) := by
  refine chk_wrong ?_ (by decide)
  rw [sh_forall h hl, hb]
  rfl
theorem chk_all_yes (h : t.op = 19) (hl : t.l = [u0]) (hb : bindsB t = true) : t.chk rt sig env = allP (underE (u0.chk rt sig (bindV t.vars env)) (t.pat.map (Tm.patE rt sig (bindV t.vars env))) t.vars ((t.pat.map Tm.vn).flatten)) := by
  have hs := sh_forall (rt := rt) (sig := sig) h hl
  rw [if_pos hb] at hs
  unfold shE at hs
  rw [chk_all hs h]
  unfold Tm.under
  rw [hl]
  rfl
theorem under1 {p : Int × Int} {l : List Int} {y : List (ByteArray × Int)} {ns : List ByteArray} (h : p.2 ≠ 0) : allP (underE p l y ns) = (0, p.2) := by
  have hu : underE p l y ns = p.2 := by
    unfold underE
    rw [if_pos h]
  unfold allP
  rw [hu, if_pos h]
theorem under2 {p : Int × Int} {l : List Int} {y : List (ByteArray × Int)} {ns : List ByteArray} (h : p.2 = 0) (h1 : p.1 ≠ 2) : allP (underE p l y ns) = (0, 31) := by
  have hu : underE p l y ns = 31 := by
    unfold underE
    rw [if_neg (fun k => k h), if_pos h1]
  unfold allP
  rw [hu]
  rfl
theorem under3 {p : Int × Int} {l : List Int} {y : List (ByteArray × Int)} {ns : List ByteArray} (h : p.2 = 0) (h1 : p.1 = 2) {e : Int} (h2 : firstE l = e) (he : e ≠ 0) : allP (underE p l y ns) = (0, e) := by
  have hu : underE p l y ns = e := by
    unfold underE
    rw [if_neg (fun k => k h), if_neg (fun k => k h1), h2, if_pos he]
  unfold allP
  rw [hu, if_pos he]
theorem under4 {p : Int × Int} {l : List Int} {y : List (ByteArray × Int)} {ns : List ByteArray} (h : p.2 = 0) (h1 : p.1 = 2) (h2 : firstE l = 0) : allP (underE p l y ns) = if (y.all fun v => memB v.1 ns) = true then (2, 0) else (0, 30) := by
  have hu : underE p l y ns = if (y.all fun v => memB v.1 ns) = true then 0 else 30 := by
    unfold underE
    rw [if_neg (fun k => k h), if_neg (fun k => k h1), if_neg (fun k => k h2)]
  unfold allP
  rw [hu]
  by_cases h3 : (y.all fun v => memB v.1 ns) = true
  · rw [if_pos h3, if_pos h3]
    rfl
  · rw [if_neg h3, if_neg h3]
    rfl
theorem Row.upS {w : World} {B B' n cap : Nat} {a : Option Addr} {sig : List Fn} (h : Row B a n cap 3 (SigR w B sig)) (hB : B ≤ B') : Row B' a n cap 3 (SigR w B' sig) :=
  h.mono hB fun b o j _ h f hf => by
    obtain ⟨aA, cA, h1, h2, h3⟩ := h f hf
    exact ⟨aA, cA, h1, h2, h3.mono hB fun b o j _ h x hx => h x hx⟩
theorem pE1 {p : Tm} (h : 200 < p.depth) : p.patE rt sig env = 33 := by
  unfold Tm.patE patE limE
  rw [if_pos h]
  rfl
theorem pE2 {p : Tm} (h : ¬ 200 < p.depth) (h2 : 50000 < p.size) : p.patE rt sig env = 34 := by
  unfold Tm.patE patE limE
  rw [if_neg h, if_pos h2]
  rfl
theorem pE3 {p : Tm} (h : ¬ 200 < p.depth) (h2 : ¬ 50000 < p.size) (h3 : ¬ (p.op = 17 ∧ p.bare = true)) : p.patE rt sig env = 30 := by
  unfold Tm.patE patE limE
  rw [if_neg h, if_neg h2, if_neg (by simp), if_neg h3]
theorem pE4 {p : Tm} (h : ¬ 200 < p.depth) (h2 : ¬ 50000 < p.size) (h3 : p.op = 17 ∧ p.bare = true) : p.patE rt sig env = (p.chk rt sig env).2 := by
  unfold Tm.patE patE limE
  rw [if_neg h, if_neg h2, if_neg (by simp), if_pos h3]
set_option maxRecDepth 100000 in
set_option maxHeartbeats 16000000 in
theorem ck_forall (ih : ∀ d' < d, CkC rt sig d') (hT : IsT w B d v t) (hS : Row B aS nS cS 3 (SigR w B sig)) (hnS : nS = sig.length) (hX : Row B aV nV cV 2 (BR w x)) (hnV : nV = x.length) (hB : B ≤ w.heap.size) (hO : OkT (RtC rt) (d + 1) t) (hw : nV + t.wt ≤ 1000) (hop : t.op = 19) (hn : t.l.length = 1) : Calls Tryd.prog 38 #[.slice aS nS cS, v, .slice aV nV cV] w (VPost (pairV (t.chk rt sig (envOf x))) w) := by
  obtain ⟨u0, hul⟩ : ∃ u0, t.l = [u0] := by
    match hl : t.l, hn with
    | [u0], _ => exact ⟨u0, rfl⟩
  have hTw := hT
  obtain ⟨h1, h2, aL, aY, aP, cL, cY, cP, rfl, hL, hV, hP⟩ := hT
  simp only [tcells, List.toArray] at hTw ⊢
  obtain ⟨nY, hnY⟩ : ∃ n, t.vars.length = n := ⟨_, rfl⟩
  obtain ⟨nP, hnP⟩ : ∃ n, t.pat.length = n := ⟨_, rfl⟩
  rw [hnY] at hTw hV ⊢
  rw [hnP] at hTw hP ⊢
  rw [hn] at hTw hL ⊢
  rw [hop] at hTw ⊢
  have hmY : nY ≤ 281474976710656 := hV.2.1
  have hmP : nP ≤ 281474976710656 := hP.2.1
  obtain ⟨w0, e0, hb0, hs0, hc0, hh⟩ := box_new w #[.int .i64 19, .string t.name, .int .i64 t.sort, .string t.num, .slice aL 1 cL, .slice aY nY cY, .slice aP nP cP] 26
  have HC : Hid (∀ W, Below w0.heap.size w0 W → W.cell? ⟨w.heap.size, 0, none⟩ = some (.int .i64 19) ∧ W.cell? ⟨w.heap.size, 1, none⟩ = some (.string t.name) ∧ W.cell? ⟨w.heap.size, 2, none⟩ = some (.int .i64 t.sort) ∧ W.cell? ⟨w.heap.size, 3, none⟩ = some (.string t.num) ∧ W.cell? ⟨w.heap.size, 4, none⟩ = some (.slice aL 1 cL) ∧ W.cell? ⟨w.heap.size, 5, none⟩ = some (.slice aY nY cY) ∧ W.cell? ⟨w.heap.size, 6, none⟩ = some (.slice aP nP cP)) := fun W h => by
    have hq : w.heap.size < w0.heap.size := by omega
    exact ⟨(h.cell (p := ⟨w.heap.size, 0, none⟩) hq).trans (hc0 0 _ rfl), (h.cell (p := ⟨w.heap.size, 1, none⟩) hq).trans (hc0 1 _ rfl), (h.cell (p := ⟨w.heap.size, 2, none⟩) hq).trans (hc0 2 _ rfl), (h.cell (p := ⟨w.heap.size, 3, none⟩) hq).trans (hc0 3 _ rfl), (h.cell (p := ⟨w.heap.size, 4, none⟩) hq).trans (hc0 4 _ rfl), (h.cell (p := ⟨w.heap.size, 5, none⟩) hq).trans (hc0 5 _ rfl), (h.cell (p := ⟨w.heap.size, 6, none⟩) hq).trans (hc0 6 _ rfl)⟩
  have HT : Hid (∀ W, Below w0.heap.size w0 W → IsT W B d (.agg #[.int .i64 19, .string t.name, .int .i64 t.sort, .string t.num, .slice aL 1 cL, .slice aY nY cY, .slice aP nP cP]) t ∧ B ≤ W.heap.size) := fun W h => by
    have hb := hb0.trans (h.mono (by omega))
    exact ⟨hTw.more (hb.mono hB) (Nat.le_refl _) (Nat.le_refl _), Nat.le_trans hB hb.size⟩
  have HE := hide e0
  have HB := hide hb0
  have HS0 := hide hs0
  have hvs := hO.2.2.1
  have HBi := hide (fun W h => binds_any (unhide HT W h).1 (unhide HT W h).2 hvs)
  have HI := hide (And.intro ih (And.intro hS (And.intro hnS (And.intro hX (And.intro hnV (And.intro hO (And.intro hw (And.intro hB (And.intro hL (And.intro hV (And.intro hP (And.intro hnY (And.intro hnP hul)))))))))))))
  obtain ⟨res, hres⟩ : ∃ r, r = t.chk rt sig (envOf x) := ⟨_, rfl⟩
  rw [← hres]
  have HRes := hide hres
  have HOp := hide hop
  clear hc0 e0 hh hb0 hn hL hV hP h1 h2 ih hS hnS hX hnV hO hw hop hs0 hB hres hTw hvs hnY hnP hul
  obtain ⟨bi, hbi⟩ : ∃ b, bindsB t = b := ⟨_, rfl⟩
  rw [hbi] at HBi
  have HBb := hide hbi
  clear hbi
  go_enter Tryd.func38, Tryd.ntmps38
  go_wp2_with fail
  rw [unhide HE]
  refine (unhide HBi w0 (Below.refl _ _)).mono ?_
  rintro e w1 ⟨rfl, hb1⟩
  have HB1 := hide hb1
  clear hb1 HBi
  cases bi with
  | false =>
    have hx : res = (0, 30) := by
      obtain ⟨_, _, _, _, _, _, _, _, _, _, _, _, _, hul⟩ := unhide HI
      exact (unhide HRes).trans (chk_all_no (unhide HOp) hul (unhide HBb))
    subst hx
    clear HRes
    go_wp2
    go_ret2
    exact ⟨rfl, (unhide HB).trans ((unhide HB1).mono (unhide HB).size)⟩
  | true =>
    obtain ⟨k0, k1, k2, k3, k4, k5, k6⟩ := unhide HC w1 (unhide HB1)
    have hjoin : ∃ v1 w1' a2 c2 w2, (Builtin.append_ #[24, 24] 24 #[.slice none 0 0, .slice aV nV cV]).run Tryd.prog w1.drew = .ok v1 w1' ∧ (Builtin.append_ #[24, 24] 24 #[v1, .slice aY nY cY]).run Tryd.prog w1' = .ok (.slice a2 (nV + nY) c2) w2 ∧ Row w2.heap.size a2 (nV + nY) c2 2 (BR w2 (x ++ t.vars)) ∧ Below w1.heap.size w1 w1' ∧ Below w1.heap.size w1 w2 := by
      obtain ⟨ih, hS, hnS, hX, hnV, hO, hw, hB, hL, hV, hP, hnY, hnP, hul⟩ := unhide HI
      have hb : Below w.heap.size w w1.drew := ((unhide HB).trans ((unhide HB1).mono (unhide HB).size)).drew
      have hwt := t.wt_eq
      obtain ⟨v1, w1', a2, c2, w2, r1, r2, hr, b1, b2⟩ := join_bounds (hX.belowV (hb.mono hB)) hnV (hV.belowV (hb.mono hB)) hnY.symm (Nat.le_trans hB hb.size) (by omega)
      have hd : Below w1.heap.size w1 w1.drew := (Below.refl _ w1).drew
      exact ⟨v1, w1', a2, c2, w2, r1, r2, hr, hd.trans (b1.mono hd.size), hd.trans (b2.mono hd.size)⟩
    obtain ⟨v1, w1', a2, c2, w2, r1, r2, hr, hb1', hb2⟩ := hjoin
    have R1 := hide r1
    have R2 := hide r2
    have HR := hide hr
    have HB2 := hide ((unhide HB1).trans (hb2.mono (unhide HB1).size))
    have HQ := hide (show w.heap.size < w1.heap.size by have := unhide HS0; have := (unhide HB1).size; omega)
    have k5' : w1'.cell? ⟨w.heap.size, 5, none⟩ = some (.slice aY nY cY) := (hb1'.cell (p := ⟨w.heap.size, 5, none⟩) (unhide HQ)).trans k5
    have k5d : w1.drew.cell? ⟨w.heap.size, 5, none⟩ = some (.slice aY nY cY) := k5
    have k52 : w2.cell? ⟨w.heap.size, 5, none⟩ = some (.slice aY nY cY) := (hb2.cell (p := ⟨w.heap.size, 5, none⟩) (unhide HQ)).trans k5
    clear r1 r2 hr hb1' hb2 k1 k2 k3 k4 k6
    go_wp2
    refine wp_region_noPanic ?_
    go_region_held3 (fun w' => w'.cell? ⟨w.heap.size, 5, none⟩ = some (.slice aY nY cY)) (first | assumption | exact k5d | exact k5' | exact k52) (first
      | (refine step_run _ _ _ (by rfl) (by rfl) (by rfl) (by rfl) (unhide R1) ?_)
      | (refine step_run _ _ _ (by rfl) (by rfl) (by rfl) (by rfl) (unhide R2) ?_))
    refine NoPanic.normal ?_
    rename_i hHeld
    clear hHeld R1 R2 k5' k5d k5
    obtain ⟨E, hE⟩ : ∃ E, envOf (x ++ t.vars) = E := ⟨_, rfl⟩
    have hres2 : res = allP (underE (u0.chk rt sig E) (t.pat.map (Tm.patE rt sig E)) t.vars ((t.pat.map Tm.vn).flatten)) := by
      obtain ⟨_, _, _, _, _, _, _, _, _, _, _, _, _, hul⟩ := unhide HI
      rw [← hE, envOf_app]
      exact (unhide HRes).trans (chk_all_yes (unhide HOp) hul (unhide HBb))
    have HCk : Hid (∀ (W : World) (u : Tm) (d' : Nat) (vu : Value), Below w2.heap.size w2 W → d' < d → IsT W B d' vu u → OkT (RtC rt) (d' + 1) u → u.wt + nY < t.wt → Calls Tryd.prog 38 #[.slice aS nS cS, vu, .slice a2 (nV + nY) c2] W (VPost (pairV (u.chk rt sig E)) W)) := fun W u d' vu hbW hd' hTu hOu hwu => by
      obtain ⟨ih, hS, hnS, hX, hnV, hO, hw, hB, hL, hV, hP, hnY, hnP, hul⟩ := unhide HI
      have hb2w : Below w.heap.size w w2 := (unhide HB).trans ((unhide HB2).mono (unhide HB).size)
      have hbw : Below w.heap.size w W := hb2w.trans (hbW.mono hb2w.size)
      have hB2 : B ≤ w2.heap.size := Nat.le_trans hB hb2w.size
      rw [← hE]
      exact ih d' hd' w2.heap.size aS nS cS vu u a2 (nV + nY) c2 (x ++ t.vars) W (hTu.more (Below.refl _ _) hB2 (Nat.le_refl _)) ((hS.belowS (hbw.mono hB)).upS hB2) hnS ((unhide HR).belowV hbW) (by simp; omega) hbW.size hOu (by omega)
    have HRes2 := hide hres2
    have hbody : ∃ bL oL dB bL' bV' bP' mL' mV' mP' kL' kV' kP', aL = some ⟨bL, oL, none⟩ ∧ (∀ W, Below w2.heap.size w2 W → Cells7 W bL oL u0 bL' bV' bP' mL' mV' mP' kL' kV' kP' ∧ Calls Tryd.prog 38 #[.slice aS nS cS, tval u0 bL' bV' bP' mL' mV' mP' kL' kV' kP', .slice a2 (nV + nY) c2] W (VPost (pairV (u0.chk rt sig E)) W)) ∧ dB < d := by
      obtain ⟨ih, hS, hnS, hX, hnV, hO, hw, hB, hL, hV, hP, hnY, hnP, hul⟩ := unhide HI
      have hb2w : Below w.heap.size w w2 := (unhide HB).trans ((unhide HB2).mono (unhide HB).size)
      obtain ⟨bL, oL, rfl, hbL, hjL⟩ := hL.2.2 (by omega)
      obtain ⟨dB, bL', bV', bP', mL', mV', mP', kL', kV', kP', ed, hcs, hTB⟩ := (hjL 0 (by omega) u0 (by rw [hul]; rfl)).cells
      rw [show oL + 0 * 7 = oL by omega] at hcs
      refine ⟨bL, oL, dB, bL', bV', bP', mL', mV', mP', kL', kV', kP', rfl, fun W hbW => ?_, by omega⟩
      have hb : Below w.heap.size w W := hb2w.trans (hbW.mono hb2w.size)
      have hq : bL < w.heap.size := by omega
      have m0 : u0 ∈ t.l := by rw [hul]; simp
      have hwt : u0.wt + nY < t.wt := by rw [t.wt_eq, hul, hnY]; simp; omega
      refine ⟨⟨(hb.cell (p := ⟨bL, oL, none⟩) hq).trans hcs.1, (hb.cell (p := ⟨bL, oL + 1, none⟩) hq).trans hcs.2.1, (hb.cell (p := ⟨bL, oL + 2, none⟩) hq).trans hcs.2.2.1, (hb.cell (p := ⟨bL, oL + 3, none⟩) hq).trans hcs.2.2.2.1, (hb.cell (p := ⟨bL, oL + 4, none⟩) hq).trans hcs.2.2.2.2.1, (hb.cell (p := ⟨bL, oL + 5, none⟩) hq).trans hcs.2.2.2.2.2.1, (hb.cell (p := ⟨bL, oL + 6, none⟩) hq).trans hcs.2.2.2.2.2.2⟩, ?_⟩
      exact unhide HCk W u0 dB _ hbW (by omega) (hTB.more (hb.mono hB) (Nat.le_refl _) (Nat.le_refl _)) (by have := hO.2.2.2.2.2.1 u0 m0; rw [ed] at this; exact this) hwt
    clear hres2 hE
    obtain ⟨bL, oL, dB, bL', bV', bP', mL', mV', mP', kL', kV', kP', rfl, hbo, hdB⟩ := hbody
    obtain ⟨p0, hp0⟩ : ∃ p, u0.chk rt sig E = p := ⟨_, rfl⟩
    rw [hp0] at hbo HRes2
    obtain ⟨⟨c0, c1, c2', c3, c4, c5, c6⟩, hca⟩ := hbo w2 (Below.refl _ _)
    have HCa := hide hca
    obtain ⟨k0, k1, k2, k3, k4, k5, k6⟩ := unhide HC w2 (unhide HB2)
    unfold tval at HCa
    clear hca hbo hp0 hdB k0 k1 k2 k3 k5 k6 k52
    go_wp2_with fail
    refine (unhide HCa).mono ?_
    rintro e w3 ⟨rfl, hb3⟩
    have HB23 := hide hb3
    have HB3 := hide ((unhide HB2).trans (hb3.mono (unhide HB2).size))
    clear hb3 HCa c0 c1 c2' c3 c4 c5 c6 k4
    unfold pairV
    obtain ⟨s0, r0⟩ := p0
    by_cases hr0 : r0 = 0
    case neg =>
      have g : (r0 != 0) = true := by simp [hr0]
      have hx := (unhide HRes2).trans (under1 hr0)
      clear hr0 HRes HRes2
      subst hx
      go_wp2
      go_ret2
      exact ⟨rfl, (unhide HB).trans ((unhide HB3).mono (unhide HB).size)⟩
    subst hr0
    by_cases hs0 : s0 = 2
    case neg =>
      have g : (s0 != 2) = true := by simp [hs0]
      have hx := (unhide HRes2).trans (under2 rfl hs0)
      clear hs0 HRes HRes2
      subst hx
      go_wp2
      go_ret2
      exact ⟨rfl, (unhide HB).trans ((unhide HB3).mono (unhide HB).size)⟩
    subst hs0
    have hErr : ∀ e : Int, firstE (t.pat.map (Tm.patE rt sig E)) = e → e ≠ 0 → res = (0, e) := fun e h1 h2 => (unhide HRes2).trans (under3 rfl rfl h1 h2)
    have hEnd : firstE (t.pat.map (Tm.patE rt sig E)) = 0 → res = if namesB t = true then (2, 0) else (0, 30) := fun h => (unhide HRes2).trans (under4 rfl rfl h)
    have HErr := hide hErr
    have HEnd := hide hEnd
    clear hErr hEnd HRes HRes2
    go_wp2
    go_loopw [30] (fun iv wr => ∃ i : Nat, i ≤ nP ∧ iv = .int .i64 i ∧ firstE ((t.pat.take i).map (Tm.patE rt sig E)) = 0 ∧ Below w3.heap.size w3 wr) (fun iv _ => nP - (intOf iv).toNat)
    case atStart => exact ⟨0, Nat.zero_le _, rfl, rfl, Below.refl _ _⟩
    case round =>
      obtain ⟨i, hi0, rfl, hno, hb⟩ := hrel
      have hb0r : Below w0.heap.size w0 wr := (unhide HB3).trans (hb.mono (unhide HB3).size)
      have hbw : Below w.heap.size w wr := (unhide HB).trans (hb0r.mono (unhide HB).size)
      have hb2r : Below w2.heap.size w2 wr := (unhide HB23).trans (hb.mono (unhide HB23).size)
      obtain ⟨k0, k1, k2, k3, k4, k5, k6⟩ := unhide HC wr hb0r
      by_cases hi : i < nP
      · have hiI : (i : Int) < (nP : Int) := by omega
        obtain ⟨ih, hS, hnS, hX, hnV, hO, hw, hB, hL, hV, hP, hnY, hnP, hul⟩ := unhide HI
        obtain ⟨b, off, rfl, hbB, hAt⟩ := (hP.below (hbw.mono hB)).at hnP.symm hi
        obtain ⟨d', bL2, bV2, bP2, mL2, mV2, mP2, kL2, kV2, kP2, rfl, ⟨c0, c1, c2', c3, c4, c5, c6⟩, hTu⟩ := hAt.cells
        have hil : i < t.pat.length := by rw [hnP]; exact hi
        have hmem : t.pat[i] ∈ t.pat := List.getElem_mem hil
        have hwu : (t.pat[i]).wt + nY < t.wt := by
          have := le_sum (List.mem_map_of_mem (f := Tm.wt) hmem)
          rw [t.wt_eq, hnY]
          omega
        have hOu := hO.2.2.2.2.2.2 _ hmem
        have hsz := hOu.sizes
        have hBr : B ≤ wr.heap.size := Nat.le_trans hB hbw.size
        obtain ⟨A, eA, hbA, hsA, hcA, hhA⟩ := box_new wr #[.int .i64 (t.pat[i]).op, .string (t.pat[i]).name, .int .i64 (t.pat[i]).sort, .string (t.pat[i]).num, .slice bL2 mL2 kL2, .slice bV2 mV2 kV2, .slice bP2 mP2 kP2] 26
        have hAll : ∀ W, Below A.heap.size A W → (W.cell? ⟨wr.heap.size, 0, none⟩ = some (.int .i64 (t.pat[i]).op) ∧ W.cell? ⟨wr.heap.size, 1, none⟩ = some (.string (t.pat[i]).name) ∧ W.cell? ⟨wr.heap.size, 2, none⟩ = some (.int .i64 (t.pat[i]).sort) ∧ W.cell? ⟨wr.heap.size, 3, none⟩ = some (.string (t.pat[i]).num) ∧ W.cell? ⟨wr.heap.size, 4, none⟩ = some (.slice bL2 mL2 kL2) ∧ W.cell? ⟨wr.heap.size, 5, none⟩ = some (.slice bV2 mV2 kV2) ∧ W.cell? ⟨wr.heap.size, 6, none⟩ = some (.slice bP2 mP2 kP2)) ∧ Below wr.heap.size wr W ∧ IsT W B d' (.agg #[.int .i64 (t.pat[i]).op, .string (t.pat[i]).name, .int .i64 (t.pat[i]).sort, .string (t.pat[i]).num, .slice bL2 mL2 kL2, .slice bV2 mV2 kV2, .slice bP2 mP2 kP2]) (t.pat[i]) ∧ B ≤ W.heap.size := fun W h => by
          have hq : wr.heap.size < A.heap.size := by omega
          have hbW : Below wr.heap.size wr W := hbA.trans (h.mono (by omega))
          exact ⟨⟨(h.cell (p := ⟨wr.heap.size, 0, none⟩) hq).trans (hcA 0 _ rfl), (h.cell (p := ⟨wr.heap.size, 1, none⟩) hq).trans (hcA 1 _ rfl), (h.cell (p := ⟨wr.heap.size, 2, none⟩) hq).trans (hcA 2 _ rfl), (h.cell (p := ⟨wr.heap.size, 3, none⟩) hq).trans (hcA 3 _ rfl), (h.cell (p := ⟨wr.heap.size, 4, none⟩) hq).trans (hcA 4 _ rfl), (h.cell (p := ⟨wr.heap.size, 5, none⟩) hq).trans (hcA 5 _ rfl), (h.cell (p := ⟨wr.heap.size, 6, none⟩) hq).trans (hcA 6 _ rfl)⟩, hbW, hTu.more (hbW.mono hBr) (Nat.le_refl _) (Nat.le_refl _), Nat.le_trans hBr hbW.size⟩
        have hat : (t.pat[i]).patE rt sig E ≠ 0 → res = (0, (t.pat[i]).patE rt sig E) := fun h => unhide HErr _ (by
          have := firstE_at (l := t.pat.map (Tm.patE rt sig E)) (i := i) (by simpa using hil) (by rw [← List.map_take]; exact hno) (by simpa using h)
          simpa using this) h
        have hsn : (t.pat[i]).patE rt sig E = 0 → firstE ((t.pat.take (i + 1)).map (Tm.patE rt sig E)) = 0 := fun h => by
          rw [take_more hil, List.map_append]
          show firstE (_ ++ [(t.pat[i]).patE rt sig E]) = 0
          rw [firstE_snoc, if_neg (fun k => k hno), h]
        have hck := fun (W : World) (vu : Value) (hbW : Below w2.heap.size w2 W) (hTW : IsT W B d' vu (t.pat[i])) => unhide HCk W (t.pat[i]) d' vu hbW (Nat.lt_succ_self d') hTW hOu hwu
        generalize t.pat[i] = u at *
        have HAll := hide hAll
        have HAS := hide (And.intro hat (And.intro hsn (And.intro hsz hck)))
        have HEA := hide eA
        have HBr := hide (And.intro hb (And.intro hbw hb2r))
        have HSA := hide (And.intro hsA hbA)
        clear hAll hat hsn hsz hck eA hbA hsA hcA hhA ih hS hnS hX hnV hO hw hB hL hV hP hnY hnP hul hAt hTu hil hmem hwu hOu hBr hb hbw hb2r hb0r hno hbB
        obtain ⟨_, _, hIA, hBA⟩ := unhide HAll A (Below.refl _ _)
        have HD := hide (depth_any d' B _ u A hIA hBA (by have := (unhide HAS).2.2.1; omega))
        clear hIA hBA
        go_wp2_with fail
        rw [unhide HEA]
        refine (unhide HD).mono ?_
        rintro e w5 ⟨rfl, hb5⟩
        obtain ⟨⟨j0, j1, j2, j3, j4, j5, j6⟩, hbr5, hI5, hB5⟩ := unhide HAll w5 hb5
        have HB5 := hide hb5
        have HBr5 := hide hbr5
        have HI5 := hide (And.intro hI5 hB5)
        clear hb5 HD k0 k1 k2 k3 k4 k5 k6 c0 c1 c2' c3 c4 c5 c6 hbr5 hI5 hB5
        by_cases hd2 : 200 < u.depth
        · have g : decide ((200 : Int) < (u.depth : Int)) = true := by simp; omega
          have hx := (unhide HAS).1 (by rw [pE1 hd2]; decide)
          rw [pE1 hd2] at hx
          clear hd2 HErr HEnd
          subst hx
          go_wp2
          go_ret2
          exact ⟨rfl, (unhide HBr).2.1.trans ((unhide HBr5).mono (unhide HBr).2.1.size)⟩
        · have g : decide ((200 : Int) < (u.depth : Int)) = false := by simp; omega
          have HSz := hide (size_any d' B _ u w5 (unhide HI5).1 (unhide HI5).2 (by have := (unhide HAS).2.2.1; omega))
          have HD2 := hide hd2
          clear hd2
          go_wp2_with fail
          refine (unhide HSz).mono ?_
          rintro e w6 ⟨rfl, hb6⟩
          have hb6A := (unhide HB5).trans (hb6.mono (unhide HB5).size)
          obtain ⟨⟨l0, l1, l2, l3, l4, l5, l6⟩, hbr6, hI6, hB6⟩ := unhide HAll w6 hb6A
          have HB6 := hide hb6A
          have HBr6 := hide hbr6
          have HI6 := hide (And.intro hI6 hB6)
          clear hb6 hb6A HSz j0 j1 j2 j3 j4 j5 j6 hbr6 hI6 hB6 g
          by_cases hz2 : 50000 < u.size
          · have g : decide ((50000 : Int) < (u.size : Int)) = true := by simp; omega
            have hx := (unhide HAS).1 (by rw [pE2 (unhide HD2) hz2]; decide)
            rw [pE2 (unhide HD2) hz2] at hx
            clear hz2 HErr HEnd
            subst hx
            go_wp2
            go_ret2
            exact ⟨rfl, (unhide HBr).2.1.trans ((unhide HBr6).mono (unhide HBr).2.1.size)⟩
          · have g : decide ((50000 : Int) < (u.size : Int)) = false := by simp; omega
            have HZ2 := hide hz2
            clear hz2
            by_cases ho : u.op = 17
            case neg =>
              have g2 : (u.op != 17) = true := by simp [ho]
              have hx := (unhide HAS).1 (by rw [pE3 (unhide HD2) (unhide HZ2) (fun h => ho h.1)]; decide)
              rw [pE3 (unhide HD2) (unhide HZ2) (fun h => ho h.1)] at hx
              clear ho HErr HEnd
              subst hx
              go_wp2
              go_ret2
              exact ⟨rfl, (unhide HBr).2.1.trans ((unhide HBr6).mono (unhide HBr).2.1.size)⟩
            have g2 : (u.op != 17) = false := by simp [ho]
            have HO17 := hide ho
            have HBa := hide (Bare_any d' B _ u w6 (unhide HI6).1 (unhide HI6).2)
            obtain ⟨bb, hbb⟩ : ∃ b, u.bare = b := ⟨_, rfl⟩
            rw [hbb] at HBa
            have HBB := hide hbb
            clear ho hbb
            go_wp2_with fail
            refine (unhide HBa).mono ?_
            rintro e w7 ⟨rfl, hb7⟩
            have hb7A := (unhide HB6).trans (hb7.mono (unhide HB6).size)
            obtain ⟨⟨m0, m1, m2, m3, m4, m5, m6⟩, hbr7, hI7, hB7⟩ := unhide HAll w7 hb7A
            have HBr7 := hide hbr7
            have HI7 := hide (And.intro hI7 hB7)
            clear hb7 hb7A HBa l0 l1 l2 l3 l4 l5 l6 hbr7 hI7 hB7 g g2
            cases bb with
            | false =>
              have h3 : ¬ (u.op = 17 ∧ u.bare = true) := fun h => by rw [unhide HBB] at h; cases h.2
              have hx := (unhide HAS).1 (by rw [pE3 (unhide HD2) (unhide HZ2) h3]; decide)
              rw [pE3 (unhide HD2) (unhide HZ2) h3] at hx
              clear h3 HErr HEnd
              subst hx
              go_wp2
              go_ret2
              exact ⟨rfl, (unhide HBr).2.1.trans ((unhide HBr7).mono (unhide HBr).2.1.size)⟩
            | true =>
              have hp4 := pE4 (rt := rt) (sig := sig) (env := E) (unhide HD2) (unhide HZ2) ⟨unhide HO17, unhide HBB⟩
              have HCu := hide ((unhide HAS).2.2.2 w7 _ ((unhide HBr).2.2.trans ((unhide HBr7).mono (unhide HBr).2.2.size)) (unhide HI7).1)
              obtain ⟨p, hp⟩ : ∃ p, u.chk rt sig E = p := ⟨_, rfl⟩
              rw [hp] at HCu hp4
              have HP4 := hide hp4
              clear hp hp4
              go_wp2_with fail
              refine (unhide HCu).mono ?_
              rintro e w8 ⟨rfl, hb8⟩
              have HBr8 := hide ((unhide HBr7).trans (hb8.mono (unhide HBr7).size))
              clear hb8 HCu m0 m1 m2 m3 m4 m5 m6
              unfold pairV
              obtain ⟨ps, pe⟩ := p
              by_cases hpe : pe = 0
              · subst hpe
                have hs2 := (unhide HAS).2.1 (unhide HP4)
                have HS2 := hide hs2
                clear hs2
                go_wp2
                exact ⟨⟨i + 1, by omega, by simp, unhide HS2, (unhide HBr).1.trans ((unhide HBr8).mono (unhide HBr).1.size)⟩, by simp [intOf]; omega⟩
              · have g : (pe != 0) = true := by simp [hpe]
                have hx := (unhide HAS).1 (by rw [unhide HP4]; exact hpe)
                rw [unhide HP4] at hx
                clear hpe HErr HEnd
                subst hx
                go_wp2
                go_ret2
                exact ⟨rfl, (unhide HBr).2.1.trans ((unhide HBr8).mono (unhide HBr).2.1.size)⟩
      · have htk : t.pat.take i = t.pat := List.take_of_length_le (by
          obtain ⟨_, _, _, _, _, _, _, _, _, _, _, _, hnP, _⟩ := unhide HI
          omega)
        rw [htk] at hno
        have hx := unhide HEnd hno
        have HNm := hide (names_any (unhide HT wr hb0r).1 (unhide HT wr hb0r).2)
        have HBw := hide hbw
        obtain ⟨nb, hnb⟩ : ∃ b, namesB t = b := ⟨_, rfl⟩
        rw [hnb] at HNm hx
        have HX := hide hx
        clear hx
        have hdi : decide ((i : Int) < (nP : Int)) = false := by simp; omega
        have hin : i = nP := by omega
        subst hin
        clear hbw hb hno htk hb0r hb2r hnb HErr HEnd hi hdi hi0
        go_wp2_with fail
        refine (unhide HNm).mono ?_
        rintro e w4 ⟨rfl, hb4⟩
        have HB4 := hide ((unhide HBw).trans (hb4.mono (unhide HBw).size))
        clear hb4 k0 k1 k2 k3 k4 k5 k6 HNm
        cases nb with
        | true =>
          have hx := (unhide HX).trans (if_pos rfl)
          clear HX
          subst hx
          go_wp2
          go_ret2
          exact ⟨rfl, unhide HB4⟩
        | false =>
          have hx := (unhide HX).trans (if_neg (by simp))
          clear HX
          subst hx
          go_wp2
          go_ret2
          exact ⟨rfl, unhide HB4⟩
end
end Go.Proofs.YtdkenobgfgmepaaDoor

/- The document's check, of any term; its Check. -/
namespace Go.Proofs.YtdkenobgfgmepaaDoor
open Go Go.RowKit
theorem ck_any (rt : ByteArray → Bool) (sig : List Fn) (d : Nat) : CkC rt sig d := by
  induction d using Nat.strongRecOn with
  | _ d ih =>
  intro B aS nS cS v t aV nV cV x w hT hS hnS hX hnV hB hO hw
  by_cases hout : t.op < 1 ∨ 19 < t.op
  · exact ck_out hT hout
  rcases (by omega : t.op = 1 ∨ t.op = 2 ∨ t.op = 3 ∨ t.op = 4 ∨ t.op = 5 ∨ t.op = 6 ∨ t.op = 7 ∨ t.op = 8 ∨ t.op = 9 ∨ t.op = 10 ∨ t.op = 11 ∨ t.op = 12 ∨ t.op = 13 ∨ t.op = 14 ∨ t.op = 15 ∨ t.op = 16 ∨ t.op = 17 ∨ t.op = 18 ∨ t.op = 19) with h | h | h | h | h | h | h | h | h | h | h | h | h | h | h | h | h | h | h
  · by_cases hn : t.l.length = 0
    · exact ck_num hT h hn (hO.1 h)
    · exact ck_many (k := 0) hT (by rw [h]; rfl) hn
  · by_cases hn : t.l.length = 0
    · exact ck_tf hT (.inl h) hn
    · exact ck_many (k := 0) hT (by rw [h]; rfl) hn
  · by_cases hn : t.l.length = 0
    · exact ck_tf hT (.inr h) hn
    · exact ck_many (k := 0) hT (by rw [h]; rfl) hn
  · by_cases hn : t.l.length = 1
    · exact ck_op4 ih hT hS hnS hX hnV hB hO hw h hn
    · exact ck_many (k := 1) hT (by rw [h]; rfl) hn
  · exact ck_op5 ih hT hS hnS hX hnV hB hO hw h
  · exact ck_op6 ih hT hS hnS hX hnV hB hO hw h
  · by_cases hn : t.l.length = 2
    · exact ck_op7 ih hT hS hnS hX hnV hB hO hw h hn
    · exact ck_many (k := 2) hT (by rw [h]; rfl) hn
  · by_cases hn : t.l.length = 2
    · exact ck_op8 ih hT hS hnS hX hnV hB hO hw h hn
    · exact ck_many (k := 2) hT (by rw [h]; rfl) hn
  · by_cases hn : t.l.length = 2
    · exact ck_eq ih hT hS hnS hX hnV hB hO hw h hn
    · exact ck_many (k := 2) hT (by rw [h]; rfl) hn
  · by_cases hn : t.l.length = 2
    · exact ck_op10 ih hT hS hnS hX hnV hB hO hw h hn
    · exact ck_many (k := 2) hT (by rw [h]; rfl) hn
  · by_cases hn : t.l.length = 2
    · exact ck_op11 ih hT hS hnS hX hnV hB hO hw h hn
    · exact ck_many (k := 2) hT (by rw [h]; rfl) hn
  · exact ck_op12 ih hT hS hnS hX hnV hB hO hw h
  · by_cases hn : t.l.length = 2
    · exact ck_op13 ih hT hS hnS hX hnV hB hO hw h hn
    · exact ck_many (k := 2) hT (by rw [h]; rfl) hn
  · by_cases hn : t.l.length = 1
    · exact ck_op14 ih hT hS hnS hX hnV hB hO hw h hn
    · exact ck_many (k := 1) hT (by rw [h]; rfl) hn
  · by_cases hn : t.l.length = 2
    · exact ck_op15 ih hT hS hnS hX hnV hB hO hw h hn
    · exact ck_many (k := 2) hT (by rw [h]; rfl) hn
  · by_cases hn : t.l.length = 3
    · exact ck_ite ih hT hS hnS hX hnV hB hO hw h hn
    · exact ck_many (k := 3) hT (by rw [h]; rfl) hn
  · cases hwd : wordB t.name with
    | true => exact ck_app ih hT hS hnS hX hnV hB hO hw h hwd
    | false => exact ck_word hT (.inl h) hwd hO.2.1
  · by_cases hn : t.l.length = 0
    · cases hwd : wordB t.name with
      | true => exact ck_var hT hX hnV hB h hn hwd hO.2.1
      | false => exact ck_word hT (.inr ⟨h, hn⟩) hwd hO.2.1
    · exact ck_many (k := 0) hT (by rw [h]; rfl) hn
  · by_cases hn : t.l.length = 1
    · exact ck_forall ih hT hS hnS hX hnV hB hO hw h hn
    · exact ck_many (k := 1) hT (by rw [h]; rfl) hn
set_option maxRecDepth 100000 in
set_option maxHeartbeats 16000000 in
theorem CheckD_any {rt : ByteArray → Bool} {w : World} {B d n c : Nat} {a : Option Addr} {sig : List Fn} {v : Value} {t : Tm} (hT : IsT w B d v t) (hS : Row B a n c 3 (SigR w B sig)) (hn : n = sig.length) (hB : B ≤ w.heap.size) (hO : OkT (RtC rt) (d + 1) t) (hwt : t.wt ≤ 1000) :
    Calls Tryd.prog 15 #[.slice a n c, v] w (VPost (pairV (t.check rt sig)) w) := by
  have hsz := hO.sizes
  have hTw := hT
  obtain ⟨y0, y1, y2, y3, y4, y5, y6, rfl⟩ := hT.form
  obtain ⟨w0, e0, hb0, hs0, hc0, hh⟩ := box_new w #[y0, y1, y2, y3, y4, y5, y6] 26
  have HAll : Hid (∀ W, Below w0.heap.size w0 W → (W.cell? ⟨w.heap.size, 0, none⟩ = some y0 ∧ W.cell? ⟨w.heap.size, 1, none⟩ = some y1 ∧ W.cell? ⟨w.heap.size, 2, none⟩ = some y2 ∧ W.cell? ⟨w.heap.size, 3, none⟩ = some y3 ∧ W.cell? ⟨w.heap.size, 4, none⟩ = some y4 ∧ W.cell? ⟨w.heap.size, 5, none⟩ = some y5 ∧ W.cell? ⟨w.heap.size, 6, none⟩ = some y6) ∧ Below w.heap.size w W ∧ IsT W B d (.agg #[y0, y1, y2, y3, y4, y5, y6]) t ∧ B ≤ W.heap.size) := fun W h => by
    have hq : w.heap.size < w0.heap.size := by omega
    have hbW : Below w.heap.size w W := hb0.trans (h.mono (by omega))
    exact ⟨⟨(h.cell (p := ⟨w.heap.size, 0, none⟩) hq).trans (hc0 0 _ rfl), (h.cell (p := ⟨w.heap.size, 1, none⟩) hq).trans (hc0 1 _ rfl), (h.cell (p := ⟨w.heap.size, 2, none⟩) hq).trans (hc0 2 _ rfl), (h.cell (p := ⟨w.heap.size, 3, none⟩) hq).trans (hc0 3 _ rfl), (h.cell (p := ⟨w.heap.size, 4, none⟩) hq).trans (hc0 4 _ rfl), (h.cell (p := ⟨w.heap.size, 5, none⟩) hq).trans (hc0 5 _ rfl), (h.cell (p := ⟨w.heap.size, 6, none⟩) hq).trans (hc0 6 _ rfl)⟩, hbW, hTw.more (hbW.mono hB) (Nat.le_refl _) (Nat.le_refl _), Nat.le_trans hB hbW.size⟩
  have HCk := hide (fun W (h : Below w0.heap.size w0 W) => ck_any rt sig d B a n c _ t none 0 0 [] W (unhide HAll W h).2.2.1 (hS.belowS ((unhide HAll W h).2.1.mono hB)) hn ⟨Nat.le_refl _, by omega, fun h => absurd rfl h⟩ rfl (unhide HAll W h).2.2.2 hO (by omega))
  have hch : t.check rt sig = if 200 < t.depth then (0, 33) else if 50000 < t.size then (0, 34) else t.chk rt sig (envOf []) := by
    unfold Tm.check limE
    by_cases h1 : 200 < t.depth
    · rw [if_pos h1, if_pos (by decide), if_pos h1]
    · rw [if_neg h1, if_neg h1]
      by_cases h2 : 50000 < t.size
      · rw [if_pos h2, if_pos (by decide), if_pos h2]
      · rw [if_neg h2, if_neg h2, if_neg (by simp)]
        rfl
  obtain ⟨res, hres⟩ : ∃ r, r = t.check rt sig := ⟨_, rfl⟩
  rw [← hres]
  rw [hch] at hres
  have HRes := hide hres
  have HE := hide e0
  have HSz := hide hsz
  clear hres hch hT hTw hS hn hO hwt hb0 hs0 hc0 hh e0 hsz hB
  obtain ⟨⟨k0, k1, k2, k3, k4, k5, k6⟩, _, hI0, hB0⟩ := unhide HAll w0 (Below.refl _ _)
  have HD := hide (depth_any d B _ t w0 hI0 hB0 (by have := unhide HSz; omega))
  clear hI0 hB0 k0 k1 k2 k3 k4 k5 k6
  go_enter Tryd.func15, Tryd.ntmps15
  go_wp2_with fail
  rw [unhide HE]
  refine (unhide HD).mono ?_
  rintro e w5 ⟨rfl, hb5⟩
  obtain ⟨⟨k0, k1, k2, k3, k4, k5, k6⟩, hbw5, hI5, hB5⟩ := unhide HAll w5 hb5
  have HBw5 := hide hbw5
  have HB5 := hide hb5
  have HSi := hide (size_any d B _ t w5 hI5 hB5 (by have := unhide HSz; omega))
  clear hbw5 hb5 hI5 hB5 HD
  by_cases hd2 : 200 < t.depth
  · have g : decide ((200 : Int) < (t.depth : Int)) = true := by simp; omega
    have hx := (unhide HRes).trans (if_pos hd2)
    clear hd2 HRes
    subst hx
    go_wp2
    go_ret2
    exact ⟨rfl, unhide HBw5⟩
  · have g : decide ((200 : Int) < (t.depth : Int)) = false := by simp; omega
    have hx := (unhide HRes).trans (if_neg hd2)
    have HX := hide hx
    clear hd2 hx
    go_wp2_with fail
    refine (unhide HSi).mono ?_
    rintro e w6 ⟨rfl, hb6⟩
    have hb06 := (unhide HB5).trans (hb6.mono (unhide HB5).size)
    have hc := unhide HCk w6 hb06
    obtain ⟨⟨l0, l1, l2, l3, l4, l5, l6⟩, hbw6, _, _⟩ := unhide HAll w6 hb06
    have HBw6 := hide hbw6
    have HC := hide hc
    clear k0 k1 k2 k3 k4 k5 k6 hbw6 hb6 hb06 HSi g hc
    by_cases hz2 : 50000 < t.size
    · have g : decide ((50000 : Int) < (t.size : Int)) = true := by simp; omega
      have hx := (unhide HX).trans (if_pos hz2)
      clear hz2 HX HRes
      subst hx
      go_wp2
      go_ret2
      exact ⟨rfl, unhide HBw6⟩
    · have g : decide ((50000 : Int) < (t.size : Int)) = false := by simp; omega
      have hx := (unhide HX).trans (if_neg hz2)
      clear hz2 HX HRes
      subst hx
      go_wp2_with fail
      refine (unhide HC).mono ?_
      rintro e w7 ⟨rfl, hb7⟩
      have HBw7 := hide ((unhide HBw6).trans (hb7.mono (unhide HBw6).size))
      clear hb7
      unfold pairV
      go_wp2
      go_ret2
      exact ⟨rfl, unhide HBw7⟩
end Go.Proofs.YtdkenobgfgmepaaDoor

/- areDigits at texts that are not digits. -/
namespace Go.Proofs.YtdkenobgfgmepaaDoor.Nm
open Go Go.RowKit

set_option maxRecDepth 100000 in
set_option maxHeartbeats 800000 in
theorem areDigits_no (s : ByteArray) (w : World) (hd : s.size = 0 ∨ ¬ Dg s.data.toList) (_hl : s.size ≤ 4000) :
    Calls Tryd.prog 111 #[.string s] w fun e w' => e = .returned (.bool false) ∧ Below w.heap.size w w' := by
  have hk0 : (w.iter s 0).heap[w.heap.size]? = some (.stringIter s 0) := World.iter_heap w s 0
  have hb0 : Below w.heap.size w (w.iter s 0) := (Below.refl _ w).alloc (Nat.le_refl _) _
  have HDD := hide hd
  clear hd
  go_enter Tryd.func111, Tryd.ntmps111
  go_wp2
  go_loopw [4] (fun _ wr => ∃ pos : Nat, pos ≤ s.size ∧ wr.heap[w.heap.size]? = some (.stringIter s pos) ∧ Below w.heap.size w wr ∧ Hid (∀ i (hi : i < s.size), i < pos → 48 ≤ (s[i]'hi).toNat ∧ (s[i]'hi).toNat ≤ 57)) (fun _ wr => s.size - wr.iterPos w.heap.size)
  case atStart => exact ⟨0, Nat.zero_le _, hk0, hb0, hide (fun i hi h => absurd h (by omega))⟩
  case round =>
    obtain ⟨pos, hps, hk, hnx, hall⟩ := hrel
    clear hk0 hb0
    by_cases hp : pos < s.size
    · by_cases hg : 48 ≤ (s[pos]'hp).toNat ∧ (s[pos]'hp).toNat ≤ 57
      · obtain ⟨c0, c1⟩ := hg
        have hnext : ∀ ty, (Instr.next (.pointer (some ⟨w.heap.size, 0, none⟩)) true ty).run Tryd.prog wr = _ := fun ty => Lib.run_next_ascii_at wr w.heap.size s pos ty hk hp (by omega)
        have hk1 := Lib.iterAt_heap wr w.heap.size s pos (pos + 1) hk
        have hnx1 : Below w.heap.size w (wr.iterAt w.heap.size s (pos + 1)) := Lib.below_iterAt hnx (by omega) s (pos + 1)
        have hmu : wr.iterPos w.heap.size = pos := by simp [World.iterPos, hk]
        generalize wr.iterAt w.heap.size s (pos + 1) = W1 at hnext hk1 hnx1
        have hall1 := hide (fun i (hi : i < s.size) (h : i < pos + 1) => show 48 ≤ (s[i]'hi).toNat ∧ (s[i]'hi).toNat ≤ 57 from by
          by_cases e : i = pos
          · subst e; exact ⟨c0, c1⟩
          · exact unhide hall i hi (by omega))
        obtain ⟨c, hc⟩ : ∃ c : Int, c = ((s[pos]'hp).toNat : Int) := ⟨_, rfl⟩
        have c0' : 48 ≤ c := by omega
        have c1' : c ≤ 57 := by omega
        rw [← hc] at hnext
        clear hc c0 c1
        have ct0 : decide (c < 48) = false := by simp; omega
        have ct1 : decide (57 < c) = false := by simp; omega
        have HM := hide hmu
        clear hmu
        go_wp2
        exact ⟨⟨pos + 1, by omega, hk1, hnx1, hall1⟩, by rw [unhide HM]; simp [World.iterPos, hk1]; omega⟩
      · have hnext : ∀ ty, (Instr.next (.pointer (some ⟨w.heap.size, 0, none⟩)) true ty).run Tryd.prog wr = _ := fun ty => Lib.run_next_any_at wr w.heap.size s pos ty hk hp
        have hnx1 : Below w.heap.size w (wr.iterAt w.heap.size s (pos + (Utf8.decode s pos).2)) := Lib.below_iterAt hnx (by omega) s _
        have hrune : ((Utf8.decode s pos).1 : Int) < 48 ∨ 57 < ((Utf8.decode s pos).1 : Int) := by
          by_cases ha : (s[pos]'hp).toNat < 128
          · rw [decode_ascii s pos hp ha]
            have : ¬ (48 ≤ (s[pos]'hp).toNat ∧ (s[pos]'hp).toNat ≤ 57) := hg
            show (((s[pos]'hp).toNat : Nat) : Int) < 48 ∨ 57 < (((s[pos]'hp).toNat : Nat) : Int)
            omega
          · have := (decode_high s pos hp (by omega)).1
            omega
        generalize wr.iterAt w.heap.size s (pos + (Utf8.decode s pos).2) = W1 at hnext hnx1
        generalize ((Utf8.decode s pos).1 : Int) = c at hnext hrune
        clear hg hall
        by_cases h48 : c < 48
        · go_wp2
          go_ret
          exact ⟨rfl, hnx1⟩
        · have h57 : 57 < c := by omega
          have ct0 : decide (c < 48) = false := by simp; omega
          go_wp2
          go_ret
          exact ⟨rfl, hnx1⟩
    · have hnext : ∀ ty, (Instr.next (.pointer (some ⟨w.heap.size, 0, none⟩)) true ty).run Tryd.prog wr = _ := fun ty => Lib.run_next_end_at wr w.heap.size s pos ty hk hp
      have hz : s.size = 0 := by
        rcases unhide HDD with h | h
        · exact h
        · exfalso
          apply h
          intro b hb
          obtain ⟨i, hi, rfl⟩ := List.mem_iff_getElem.1 hb
          have hi' : i < s.size := by simpa using hi
          rw [get_toList s i hi' hi]
          exact unhide hall i hi' (by omega)
      have hemp : (!s.toList.isEmpty) = false := by
        rw [Lib.toList_data]
        have h2 : s.data.toList.length = s.size := by simp
        rw [List.eq_nil_of_length_eq_zero (h2.trans hz)]
        rfl
      have HE := hide hemp
      clear hemp hz
      go_wp2
      go_ret
      exact ⟨by show Ending.returned (Value.bool (!s.toList.isEmpty)) = _; rw [unhide HE], hnx⟩

end Go.Proofs.YtdkenobgfgmepaaDoor.Nm

/- The document's numbers (package avowref1): that Right, trim, Parse, Must return; light. -/
namespace Go.Proofs.YtdkenobgfgmepaaDoor.Nm
open Go.RowKit

/-- The bytes of a right text. -/
theorem txt_at {neg : Bool} {D : List UInt8} {T : ByteArray} (hT : T.data.toList = txt neg D) (hD : Dg D) (i : Nat) (hi : i < T.size) : (i = 0 ∧ neg = true ∧ (T[i]'hi).toNat = 45) ∨ ((0 < i ∨ neg = false) ∧ 48 ≤ (T[i]'hi).toNat ∧ (T[i]'hi).toNat ≤ 57) := by
  have h := get_toList T i hi (by have : T.data.toList.length = T.size := by simp
                                  omega)
  rw [← h]
  cases neg with
  | false =>
    refine .inr ⟨.inr rfl, hD _ ?_⟩
    have : txt false D = D := rfl
    rw [← this, ← hT]
    exact List.getElem_mem _
  | true =>
    cases i with
    | zero =>
      refine .inl ⟨rfl, rfl, ?_⟩
      simp only [hT, txt, if_true, List.getElem_cons_zero]
      rfl
    | succ i =>
      refine .inr ⟨.inl (by omega), hD _ ?_⟩
      simp only [hT, txt, if_true, List.getElem_cons_succ]
      exact List.getElem_mem _
/-- A right text: digits, no nought ahead of others, no nought below 0. -/
structure RT (neg : Bool) (D : List UInt8) : Prop where
  dg : Dg D
  ne : D ≠ []
  z : D.head? = some 48 → D = [48] ∧ neg = false
  len : D.length ≤ 2000
theorem txt_size {neg : Bool} {D : List UInt8} {T : ByteArray} (hT : T.data.toList = txt neg D) : T.size = D.length + (if neg then 1 else 0) := by
  have : T.data.toList.length = T.size := by simp
  rw [← this, hT]
  cases neg <;> simp [txt]
theorem txt_first {neg : Bool} {D : List UInt8} {T : ByteArray} (hT : T.data.toList = txt neg D) (h : RT neg D) (i : Nat) (hi : i < T.size) (e : i = if neg then 1 else 0) : (T[i]'hi).toNat = 48 → D = [48] ∧ neg = false := by
  intro h48
  apply h.z
  have hg := get_toList T i hi (by have : T.data.toList.length = T.size := by simp
                                   omega)
  rw [← hg] at h48
  obtain ⟨b, D', rfl⟩ : ∃ b D', D = b :: D' := by
    cases D with
    | nil => exact absurd rfl h.ne
    | cons b D' => exact ⟨b, D', rfl⟩
  simp only [List.head?_cons, Option.some.injEq]
  apply UInt8.toNat_inj.1
  subst e
  cases neg with
  | false => simpa [hT, txt] using h48
  | true => simpa [hT, txt] using h48

set_option maxRecDepth 100000 in
set_option maxHeartbeats 800000 in
theorem right_yes (neg : Bool) (D : List UInt8) (T : ByteArray) (w : World) (hT : T.data.toList = txt neg D) (h : RT neg D) :
    Calls Tryd.prog 59 #[.string T] w fun e w' => e = .returned (.bool true) ∧ Below w.heap.size w w' := by
  have hsz := txt_size hT
  have hl := h.len
  have hD0 : 0 < D.length := List.length_pos_iff.2 h.ne
  have hat := txt_at hT h.dg
  have hpos : 0 < T.size := by omega
  have hls : T.size ≤ 4000 := by cases neg <;> simp at hsz <;> omega
  have hfst := txt_first hT h
  cases neg with
  | false =>
    simp at hsz
    obtain ⟨c0, c1, c2⟩ : (0 < 0 ∨ false = false) ∧ 48 ≤ (T[0]'hpos).toNat ∧ (T[0]'hpos).toNat ≤ 57 := by
      rcases hat 0 hpos with ⟨_, h9, _⟩ | h9
      · cases h9
      · exact h9
    have h45 : (((T[0]'hpos).toNat : Int) == 45) = false := by simp; omega
    have h0L : ((0 : Int) == (T.size : Int)) = false := by simp; omega
    have h48 : ((((T[0]'hpos).toNat : Int) == 48) = true ∧ (T.size : Int) = 1) ∨ (((T[0]'hpos).toNat : Int) == 48) = false := by
      by_cases e : (T[0]'hpos).toNat = 48
      · have h2 := (hfst 0 hpos rfl e).1
        refine .inl ⟨by simp; omega, ?_⟩
        rw [hsz, h2]; rfl
      · exact .inr (by simp; omega)
    clear hfst hsz c0 hD0 h hT hl
    rcases h48 with ⟨h48, hL1⟩ | h48
    · have hL2 : decide ((1 : Int) < (T.size : Int)) = false := by simp; omega
      go_enter Tryd.func59, Tryd.ntmps59
      go_wp2
      go_loop [3] (fun iv => ∃ i : Nat, 0 ≤ i ∧ i ≤ T.size ∧ iv = .int .i64 i) (fun iv => T.size - (intOf iv).toNat)
      case atStart => exact ⟨0, Nat.le_refl _, by omega, rfl⟩
      case round =>
        obtain ⟨i, hi0, hi1, rfl⟩ := hrel
        by_cases hi : i < T.size
        · obtain ⟨d0, d1⟩ : 48 ≤ (T[i]'hi).toNat ∧ (T[i]'hi).toNat ≤ 57 := by
            rcases hat i hi with ⟨h7, h8, h9⟩ | ⟨_, h9⟩
            · first | (cases h8; done) | omega
            · exact h9
          have t0 : decide (((T[i]'hi).toNat : Int) < 48) = false := by simp; omega
          have t1 : decide (57 < ((T[i]'hi).toNat : Int)) = false := by simp; omega
          go_wp2
          exact ⟨⟨i + 1, by omega, by omega, by simp⟩, by simp [intOf]; omega⟩
        · go_wp2
          go_ret
          exact ⟨rfl, Below.refl _ _⟩
    · skip
      go_enter Tryd.func59, Tryd.ntmps59
      go_wp2
      go_loop [3] (fun iv => ∃ i : Nat, 0 ≤ i ∧ i ≤ T.size ∧ iv = .int .i64 i) (fun iv => T.size - (intOf iv).toNat)
      case atStart => exact ⟨0, Nat.le_refl _, by omega, rfl⟩
      case round =>
        obtain ⟨i, hi0, hi1, rfl⟩ := hrel
        by_cases hi : i < T.size
        · obtain ⟨d0, d1⟩ : 48 ≤ (T[i]'hi).toNat ∧ (T[i]'hi).toNat ≤ 57 := by
            rcases hat i hi with ⟨h7, h8, h9⟩ | ⟨_, h9⟩
            · first | (cases h8; done) | omega
            · exact h9
          have t0 : decide (((T[i]'hi).toNat : Int) < 48) = false := by simp; omega
          have t1 : decide (57 < ((T[i]'hi).toNat : Int)) = false := by simp; omega
          go_wp2
          exact ⟨⟨i + 1, by omega, by omega, by simp⟩, by simp [intOf]; omega⟩
        · go_wp2
          go_ret
          exact ⟨rfl, Below.refl _ _⟩
  | true =>
    simp at hsz
    have h1 : 1 < T.size := by omega
    have c45 : (T[0]'hpos).toNat = 45 := by
      rcases hat 0 hpos with ⟨_, _, h9⟩ | ⟨h9, _⟩
      · exact h9
      · rcases h9 with h9 | h9
        · omega
        · cases h9
    have h45 : (((T[0]'hpos).toNat : Int) == 45) = true := by simp; omega
    have h0L : ((1 : Int) == (T.size : Int)) = false := by simp; omega
    have h48 : (((T[1]'h1).toNat : Int) == 48) = false := by
      by_cases e : (T[1]'h1).toNat = 48
      · cases (hfst 1 h1 rfl e).2
      · simp; omega
    clear hfst hsz hD0 h hT hl c45
    go_enter Tryd.func59, Tryd.ntmps59
    go_wp2
    go_loop [3] (fun iv => ∃ i : Nat, 1 ≤ i ∧ i ≤ T.size ∧ iv = .int .i64 i) (fun iv => T.size - (intOf iv).toNat)
    case atStart => exact ⟨1, Nat.le_refl _, by omega, rfl⟩
    case round =>
      obtain ⟨i, hi0, hi1, rfl⟩ := hrel
      by_cases hi : i < T.size
      · obtain ⟨d0, d1⟩ : 48 ≤ (T[i]'hi).toNat ∧ (T[i]'hi).toNat ≤ 57 := by
          rcases hat i hi with ⟨h7, h8, h9⟩ | ⟨_, h9⟩
          · first | (cases h8; done) | omega
          · exact h9
        have t0 : decide (((T[i]'hi).toNat : Int) < 48) = false := by simp; omega
        have t1 : decide (57 < ((T[i]'hi).toNat : Int)) = false := by simp; omega
        go_wp2
        exact ⟨⟨i + 1, by omega, by omega, by simp⟩, by simp [intOf]; omega⟩
      · go_wp2
        go_ret
        exact ⟨rfl, Below.refl _ _⟩

end Go.Proofs.YtdkenobgfgmepaaDoor.Nm

namespace Go.Proofs.YtdkenobgfgmepaaDoor.Nm
open Go Go.RowKit

set_option maxRecDepth 100000 in
set_option maxHeartbeats 800000 in
theorem parse_not (T : List UInt8) (w : World) (hl : T.length ≤ 2000) (h : ¬ RT (Lib.hasPrefix T [45]) (Lib.trimPrefix T [45])) :
    Calls Tryd.prog 101 #[.string ⟨T.toArray⟩] w fun e w' => e = .returned (.tuple #[.agg #[.int .i64 0, .slice none 0 0], .bool false]) ∧ Below w.heap.size w w' := by
  obtain ⟨D, hD⟩ : ∃ D, D = Lib.trimPrefix T [45] := ⟨_, rfl⟩
  obtain ⟨neg, hneg⟩ : ∃ neg, neg = Lib.hasPrefix T [45] := ⟨_, rfl⟩
  rw [← hD, ← hneg] at h
  have hDl : D.length ≤ 2000 := by
    rw [hD]
    unfold Lib.trimPrefix
    split
    · simp; omega
    · exact hl
  have hcut : ∀ w, Calls Tryd.prog 87 #[.string ⟨T.toArray⟩, .string ⟨#[45]⟩] w fun e w' => e = .returned (.tuple #[.string ⟨D.toArray⟩, .bool neg]) ∧ w' = w := fun w => by
    have h := Go.Proofs.YtdkenobgfgmepaaDoor.cut_any ⟨T.toArray⟩ w
    rw [hD, hneg]
    cases T with
    | nil => simpa [Lib.trimPrefix, Lib.hasPrefix] using h
    | cons b T =>
      by_cases e : b = 45
      · subst e
        simpa [Lib.trimPrefix, Lib.hasPrefix] using h
      · have e2 : ([45] : List UInt8).isPrefixOf (b :: T) = false := by simp [List.isPrefixOf, Ne.symm e]
        simpa [Lib.trimPrefix, Lib.hasPrefix, e, e2] using h
  obtain ⟨S, hS⟩ : ∃ S : ByteArray, S = ⟨D.toArray⟩ := ⟨_, rfl⟩
  obtain ⟨TT, hT⟩ : ∃ TT : ByteArray, TT = ⟨T.toArray⟩ := ⟨_, rfl⟩
  have hSD : S.data.toList = D := by rw [hS]
  have hSn : S.size = D.length := by rw [hS]; simp [ByteArray.size]
  rw [← hS, ← hT] at hcut
  rw [← hT]
  clear hS hT
  have HCUT := hide hcut
  clear hcut hD hneg hl
  have hbox := Bx.new w 0 none 0 0
  have hbw : Below w.heap.size w (w.alloc (.cells #[.int .i64 0, .slice none 0 0] 200)) := (Below.refl _ w).alloc (Nat.le_refl _) _
  by_cases hok : D ≠ [] ∧ Dg D
  · obtain ⟨hne, hdg⟩ := hok
    have hpos : 0 < S.size := by rw [hSn]; exact List.length_pos_iff.2 hne
    have hgS : Dg S.data.toList := by rw [hSD]; exact hdg
    have hfirst : D.head? = some 48 ∧ ¬ (D = [48] ∧ neg = false) := by
      by_cases hh : D.head? = some 48
      · exact ⟨hh, fun h9 => h ⟨hdg, hne, fun _ => h9, by omega⟩⟩
      · exact absurd ⟨hdg, hne, fun h9 => absurd h9 hh, by omega⟩ h
    have h48 : (((S[0]'hpos).toNat : Int) == 48) = true := by
      cases D with
      | nil => exact absurd rfl hne
      | cons b D' =>
        have h2 := get_toList S 0 hpos (by rw [hSD]; simp)
        simp only [hSD, List.getElem_cons_zero] at h2
        have h3 := hfirst.1
        simp only [List.head?_cons, Option.some.injEq] at h3
        rw [← h2, h3]
        rfl
    have hor : neg = true ∨ (1 : Int) < (S.size : Int) := by
      cases neg with
      | true => exact .inl rfl
      | false =>
        refine .inr ?_
        rcases Nat.lt_or_ge 1 S.size with h9 | h9
        · omega
        · exfalso
          apply hfirst.2
          refine ⟨?_, rfl⟩
          cases D with
          | nil => exact absurd rfl hne
          | cons b D' =>
            have h3 := hfirst.1
            simp only [List.head?_cons, Option.some.injEq] at h3
            have h4 : D' = [] := List.eq_nil_of_length_eq_zero (by simp at hSn; omega)
            rw [h3, h4]
    have HAD := hide (fun w => areDigits_yes S w hgS hpos (by omega))
    clear h hfirst hgS hdg hne hDl hSn hSD
    go_enter Tryd.func101, Tryd.ntmps101
    go_wp2_with fail
    refine (unhide HCUT _).mono ?_
    rintro e w1 ⟨rfl, rfl⟩
    go_wp2_with fail
    refine (unhide HAD _).mono ?_
    rintro e w2 ⟨rfl, hb2⟩
    have hbx := hbox.below hb2
    obtain ⟨kR0, kR1, kRf0, kRf1⟩ := hbx.facts
    have hbel := hbw.trans (hb2.mono hbw.size)
    rcases hor with rfl | h1
    · go_wp2
      refine bodyPost_ret (v := .tuple #[.agg #[.int .i64 0, .slice none 0 0], .bool false]) ?_ rfl ?_
      · simp [results, Tryd.results101, go_sem, kR0, kR1]
      · exact ⟨rfl, below_put hbel (Nat.le_refl _) _ _⟩
    · cases neg
      all_goals
        go_wp2
        refine bodyPost_ret (v := .tuple #[.agg #[.int .i64 0, .slice none 0 0], .bool false]) ?_ rfl ?_
        · simp [results, Tryd.results101, go_sem, kR0, kR1]
        · exact ⟨rfl, below_put hbel (Nat.le_refl _) _ _⟩
  · have HAD := hide (fun w => areDigits_no S w (by
      by_cases hne : D = []
      · left; rw [hSn, hne]; rfl
      · right; rw [hSD]; exact fun h9 => hok ⟨hne, h9⟩) (by omega))
    clear h hok hDl hSn hSD
    go_enter Tryd.func101, Tryd.ntmps101
    go_wp2_with fail
    refine (unhide HCUT _).mono ?_
    rintro e w1 ⟨rfl, rfl⟩
    go_wp2_with fail
    refine (unhide HAD _).mono ?_
    rintro e w2 ⟨rfl, hb2⟩
    have hbx := hbox.below hb2
    obtain ⟨kR0, kR1, kRf0, kRf1⟩ := hbx.facts
    have hbel := hbw.trans (hb2.mono hbw.size)
    go_wp2
    refine bodyPost_ret (v := .tuple #[.agg #[.int .i64 0, .slice none 0 0], .bool false]) ?_ rfl ?_
    · simp [results, Tryd.results101, go_sem, kR0, kR1]
    · exact ⟨rfl, below_put hbel (Nat.le_refl _) _ _⟩

end Go.Proofs.YtdkenobgfgmepaaDoor.Nm
