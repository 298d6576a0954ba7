/- Package scope: a declaration's parts, gone through one after another. -/
import Derived.Test.YtljhpbjngbbjbaaDoorZAE
set_option linter.unusedVariables false
set_option linter.unusedSimpArgs false

/- Package scope: copied. -/
namespace Go.Proofs.YtljhpbjngbbjbaaDoor
open Go Go.RowKit
def coS (h : Nat) (l : List De) : Nat := sumN (l.map (coD h))
theorem coS_take {h j : Nat} {l : List De} {t : De} (ht : l[j]? = some t) : coS h (l.take (j + 1)) = coS h (l.take j) + coD h t := by
  unfold coS
  rw [List.take_add_one, ht]
  simp only [Option.toList, List.map_append, sumN_app]
  simp [sumN]
theorem coS_take_le (h j : Nat) (l : List De) : coS h (l.take j) ≤ coS h l := by
  have := congrArg (coS h) (List.take_append_drop j l)
  unfold coS at this ⊢
  rw [List.map_append, sumN_app] at this
  omega
def DsQ (w : World) (P : Nat → Prop) (v : Value) (l : List De) : Prop := RowP w 22 P v l.length fun j cs => ∀ t, l[j]? = some t → DeP w P cs t
/-- Between declarations. -/
def XK (w : World) (cb K g b off n : Nat) (l : List De) (j : Nat) (W : World) : Prop := CpS W cb (65536 - coS K (l.take j)) ∧ But cb w W ∧ w.heap.size ≤ g ∧ g < W.heap.size ∧ (∀ o, W.frozen? ⟨g, o, none⟩ = false) ∧ (∀ p, 22 * j ≤ p → p < 22 * n → W.cell? ⟨g, p, none⟩ = w.cell? ⟨b, off + p, none⟩) ∧ ∃ m, g + 1 ≤ m ∧ m ≤ W.heap.size ∧ OLg 22 (OD W K) g (g + 1) m 0 ((l.take j).map (dr K))
theorem XK.start {w W : World} {cb K g b off n j m : Nat} {l : List De} {t : De} {x : DeV} (hj : j < n) (h1 : CpS W cb (65536 - coS K (l.take j))) (h2 : But cb w W) (h3 : w.heap.size ≤ g) (h4 : g < W.heap.size) (h5 : ∀ o, W.frozen? ⟨g, o, none⟩ = false) (h6 : ∀ p, 22 * j ≤ p → p < 22 * n → W.cell? ⟨g, p, none⟩ = w.cell? ⟨b, off + p, none⟩) (h7 : g + 1 ≤ m) (h8 : m ≤ W.heap.size) (h9 : OLg 22 (OD W K) g (g + 1) m 0 ((l.take j).map (dr K))) (hr : w.rangeAt b (off + j * 22) (deCells t x)) : XJ w cb K g b off n m l j (deCells t x) (65536 - coS K (l.take j)) W := by
  refine ⟨h1, h2, h3, h4, h7, h8, h5, fun i v hv => ?_, fun p p1 p2 => h6 p (by omega) p2, h9⟩
  have hi : i < 22 := (List.getElem?_eq_some_iff.1 hv).1
  rw [h6 (j * 22 + i) (by omega) (by omega), ← Nat.add_assoc]
  exact hr i v hv
theorem XK.finish {w W : World} {cb K g b off n m j i0 i1 i2 i3 i4 i5 : Nat} {l : List De} {t : De} {x : DeV} {C : Int} (h : XJ w cb K g b off n m l j (deCells t x) C W) (ht : l[j]? = some t) (hC : C = 65536 - coS K (l.take (j + 1))) (hm : m ≤ i0)
    (ps : OSg 6 (OPm W K) i0 i1 x.pa x.pn x.pc (t.ps.map (pr K))) (ty : OSp (OE W K) i1 i2 x.ta x.tn x.tc (t.t.r.map (er K))) (req : OSp (OE W K) i2 i3 x.ra x.rn x.rc (t.req.map (er K))) (ens : OSp (OE W K) i3 i4 x.ea x.en x.ec (t.ens.map (er K))) (mea : OSp (OE W K) i4 i5 x.ma x.mn x.mc (t.mea.map (er K))) (body : OSp (OE W K) i5 W.heap.size x.ba x.bn x.bc (t.body.l.map (er K))) : XK w cb K g b off n l (j + 1) W := by
  have hl : ((l.take j).map (dr K)).length = j := by
    have := (List.getElem?_eq_some_iff.1 ht).1
    simp
    omega
  have l1 := ps.2.2.2.1
  have l2 := ty.2.2.2.1
  have l3 := req.2.2.2.1
  have l4 := ens.2.2.2.1
  have l5 := mea.2.2.2.1
  have l6 := body.2.2.2.1
  refine ⟨by rw [← hC]; exact h.cp, h.but, h.g0, h.g1, h.fr, h.rest, W.heap.size, by have := h.gm; have := h.mm; omega, Nat.le_refl _, ?_⟩
  rw [List.take_add_one, ht]
  simp only [Option.toList, List.map_append, List.map_cons, List.map_nil]
  rw [OLg.split]
  refine ⟨m, h.done, W.heap.size, h.mm, ?_, rfl⟩
  rw [hl]
  have e0 : 0 + 22 * j = j * 22 := by omega
  rw [e0]
  refine ⟨x, i1, i2, i3, i4, i5, fun i v hv => ?_, h.now 21 _ rfl, ps.wide6 hm (Nat.le_refl _), ty, req, ens, mea, x.ba, x.bn, x.bc, fun i v hv => ?_, h.fr _, body⟩
  · refine h.now i v ?_
    have hi : i < 14 := (List.getElem?_eq_some_iff.1 hv).1
    rcases i with _ | _ | _ | _ | _ | _ | _ | _ | _ | _ | _ | _ | _ | _ | i
    all_goals first | exact hv | omega
  · rw [Nat.add_assoc]
    refine h.now (14 + i) v ?_
    have hi : i < 7 := (List.getElem?_eq_some_iff.1 hv).1
    rcases i with _ | _ | _ | _ | _ | _ | _ | i
    all_goals first | exact hv | omega
def CoP (K n : Nat) (l : List De) (w : World) (e : Ending) (w' : World) : Prop := ∃ a2 c2, e = .returned (.slice a2 n c2) ∧ OSg 22 (OD w' K) w.heap.size w'.heap.size a2 n c2 (l.map (dr K)) ∧ Below w.heap.size w w'
theorem de_one {d : De} {x : DeV} : ∀ u ∈ deCells d x, u.oneCell' = true := fun u hu => by
  simp only [deCells, List.mem_cons, List.not_mem_nil, or_false] at hu
  rcases hu with rfl | rfl | rfl | rfl | rfl | rfl | rfl | rfl | rfl | rfl | rfl | rfl | rfl | rfl | rfl | rfl | rfl | rfl | rfl | rfl | rfl | rfl <;> rfl
set_option maxRecDepth 100000 in
set_option maxHeartbeats 8000000 in
theorem copied_some {K : Nat} {w : World} {n c b off : Nat} {l : List De} {P : Nat → Prop} (hx : DsQ w P (.slice (some ⟨b, off, none⟩) n c) l) (hk : l.all (hiD K) = true) (h0 : n ≠ 0) (hL : coS K l ≤ 65536) : Calls Tryd.prog 21 #[.slice (some ⟨b, off, none⟩) n c] w (CoP K n l w) := by
  obtain ⟨a', c', e0, hr1, hr2, hr3⟩ := hx
  obtain ⟨rfl, hn, rfl⟩ : some ⟨b, off, none⟩ = a' ∧ n = l.length ∧ c = c' := by simpa using e0
  rw [← hn] at hr1 hr2 hr3
  obtain ⟨b', off', e, hPb, hbw, hrow⟩ := hr3 h0
  obtain ⟨rfl, rfl⟩ : b = b' ∧ off = off' := by simpa using e
  obtain ⟨A, eA, hbA, hsA, hhA⟩ := box_new w #[.int .i64 65536] 91
  have hrow2 : ∀ j, j < n → ∀ t, l[j]? = some t → ∃ x, w.rangeAt b (off + j * 22) (deCells t x) ∧ DeInP w P t x ∧ hiD K t = true := fun j hj t ht => by
    obtain ⟨cs, k1, k2⟩ := hrow j hj
    obtain ⟨x, rfl, k3⟩ := k2 t ht
    exact ⟨x, k1, k3, List.all_eq_true.1 hk t (List.mem_of_getElem? ht)⟩
  have hcell : ∀ j, j < n * 22 → ∃ u, A.cell? ⟨b, off + j, none⟩ = some u ∧ u.oneCell' = true := fun j hj => by
    obtain ⟨t, ht⟩ : ∃ t, l[j / 22]? = some t := ⟨_, List.getElem?_eq_getElem (by omega)⟩
    obtain ⟨x, k1, -⟩ := hrow2 (j / 22) (by omega) t ht
    obtain ⟨v, hv⟩ : ∃ v, (deCells t x)[j % 22]? = some v := ⟨_, List.getElem?_eq_getElem (by simp [deCells]; omega)⟩
    refine ⟨v, ?_, de_one v (List.mem_of_getElem? hv)⟩
    have := k1 (j % 22) v hv
    rw [show off + j / 22 * 22 + j % 22 = off + j by omega] at this
    exact (hbA.cell (p := ⟨b, off + j, none⟩) hbw).trans this
  obtain ⟨g, cap, w1, hrun, k1, k2, k3, k4, k5, k6⟩ := app_copy (c := c) unD infD22 (by omega) (by omega) (by omega) h0 hr2 hcell 23
  have g4 : (n : Int) ≤ 1000000 := by omega
  have hI0 : XK A w.heap.size K g b off n l 0 w1 := by
    refine ⟨?_, But.of k4, k2, k3, k5, fun p _ hp => k6 p (by omega), g + 1, Nat.le_refl _, by omega, rfl⟩
    have e1 : (65536 - (coS K (l.take 0) : Nat) : Int) = 65536 := by simp [coS, sumN]
    rw [e1]
    exact (k4.block _ (blk hhA).1).trans hhA
  have HI := hide hI0
  rw [← eA] at hrun
  have R1 := hide hrun
  have HR := hide (And.intro hrow2 (And.intro hn (And.intro hL (And.intro hbw (And.intro k1 (And.intro hPb hr2))))))
  have HE := hide (And.intro hbA hsA)
  clear hrow hrow2 hn hL hr1 hr2 hr3 hPb hbw hcell e e0 hk eA hbA hsA hhA hrun k1 k2 k3 k4 k5 k6 hI0
  go_enter Tryd.func21, Tryd.ntmps21
  generalize hQQ : bodyPost Tryd.prog Tryd.f21 (CoP K n l w) = QQ
  have HQQ := hide hQQ
  clear hQQ
  go_wp2_with (at_builtin; refine app_run _ _ _ rfl rfl rfl rfl (unhide R1) ?_; clear R1)
  go_wp2_with fail
  go_loopw [12] (fun iv wr => ∃ j : Nat, iv = .int .i64 j ∧ j ≤ n ∧ Hid (XK A w.heap.size K g b off n l j wr)) (fun iv _ => n - (intOf iv).toNat)
  case atStart => exact ⟨0, rfl, Nat.zero_le _, unhide HI⟩
  case round =>
    obtain ⟨j, rfl, hj, HB⟩ := hrel
    have g3 : (0 : Int) ≤ (j : Int) := by omega
    by_cases hjn : j < n
    rotate_left
    · have g1 : ¬ ((j : Int) < (n : Int)) := by omega
      have g2 : decide ((j : Int) < (n : Int)) = false := by simp; omega
      obtain rfl : j = n := by omega
      have H0 := hide h0
      clear HI hj hjn h0
      go_wp2
      rw [← unhide HQQ]
      go_ret
      obtain ⟨hrow, hn, hL, hbw, hcap, hPb, hn6⟩ := unhide HR
      obtain ⟨-, k2, k3, k4, -, -, m, k7, k8, k9⟩ := unhide HB
      have et : l.take j = l := List.take_of_length_le (by omega)
      rw [et] at k9
      have hbA := (unhide HE).1
      have hsA := (unhide HE).2
      refine ⟨_, _, rfl, ⟨by simpa using hn, hcap, hn6, by have := k2.size; omega, fun hl => ⟨g, 0, rfl, by omega, k4, ?_⟩, fun e => ?_⟩, hbA.trans ⟨k2.os, k2.tape, k2.output, k2.size, fun k hk => k2.block k (by omega) (by omega)⟩⟩
      · exact OLg.wide (p := OD wr K) (fun _ _ _ _ _ g x => OD.wide x (Nat.le_refl _) g) _ _ _ _ hl k9 k8
      · have e0 : l.length = 0 := by simpa using congrArg List.length e
        exact absurd (hn.trans e0) (unhide H0)
    · obtain ⟨hrow, hn, hL, hbw, hcap, hPb, hn6⟩ := unhide HR
      obtain ⟨k1, k2, k3, k4, k5, k6, m, k7, k8, k9⟩ := unhide HB
      obtain ⟨t, ht⟩ : ∃ t, l[j]? = some t := ⟨_, List.getElem?_eq_getElem (by omega)⟩
      obtain ⟨x, hr, hin, hid⟩ := hrow j hjn t ht
      have hbA := (unhide HE).1
      have hsA := (unhide HE).2
      have hJ := XK.start hjn k1 k2 k3 k4 k5 k6 k7 k8 k9 (range_same hr (hbA.block b hbw))
      have hcb : w.heap.size < A.heap.size := by omega
      have hct := coS_take (h := K) ht
      have hcl := coS_take_le K (j + 1) l
      have hcd : coD K t = coP K t.ps + coL K t.t.r + coL K t.req + coL K t.ens + coL K t.mea + coL K t.body.l := rfl
      unfold hiD at hid
      simp only [Bool.and_eq_true] at hid
      obtain ⟨⟨⟨⟨⟨d1, d2⟩, d3⟩, d4⟩, d5⟩, d6⟩ := hid
      have hinb := hin.bnd
      have hSrc : ∀ W, But w.heap.size A W → DeInP W (fun x => P x ∧ x < w.heap.size) t x := fun W hW => hinb.keep ⟨Nat.le_trans hbA.size hW.size, fun k hk _ => (hW.block k (by have := hk.2; omega) (by have := hk.2; omega)).trans (hbA.block k hk.2)⟩ fun _ h => h
      obtain ⟨C, hC⟩ : ∃ C : Int, C = 65536 - coS K (l.take j) := ⟨_, rfl⟩
      rw [← hC] at hJ
      have g1 : (j : Int) < (n : Int) := by omega
      have g2 : decide ((j : Int) < (n : Int)) = true := by simp; omega
      have hjl : j < l.length := by omega
      have HN := hide (And.intro ht (And.intro hC (And.intro hct (And.intro hcl (And.intro hcd (And.intro hL (And.intro hjn k8)))))))
      have HS := hide hSrc
      have HD := hide (And.intro d1 (And.intro d2 (And.intro d3 (And.intro d4 (And.intro d5 d6)))))
      have hC6 : (coP K t.ps + coL K t.t.r + coL K t.req + coL K t.ens + coL K t.mea + coL K t.body.l : Int) ≤ C := by push_cast at *; omega
      have hC7 : C ≤ 65536 := by omega
      have HC6 := hide (And.intro hC6 (And.intro hC7 hjl))
      have HCB := hide hcb
      have HJ0 := hide hJ
      clear hrow hn hL hbw hcap hPb hn6 k1 k2 k3 k4 k5 k6 k7 k8 k9 ht hr hin hJ hct hcl hcd d1 d2 d3 d4 d5 d6 hinb hSrc hC hj hjn hC6 hC7 hjl HI HR h0 hbA hsA hcb
      have hJ := unhide HJ0
      have z0 : wr.cell? ⟨g, j * 22 + 4, none⟩ = some (.slice x.pa x.pn x.pc) := hJ.now 4 _ rfl
      have HC0 := hide (xp_any (K := K) (L := C) (P := fun x => P x ∧ x < w.heap.size) (fun q hq e => by have := hq.2; omega) hJ.cp ((unhide HS) _ hJ.but).ps (unhide HD).1 (by have := unhide HC6; omega) (by have := unhide HC6; omega))
      clear hJ
      go_wp2_with fail
      refine (unhide HC0).mono ?_
      rintro e v0 ⟨a0, c0, rfl, p0, q0, b0⟩
      have hJ := (unhide HJ0).called (unhide HCB) b0 q0
      have y0 : v0.cell? ⟨g, j * 22 + 4, none⟩ = some (.slice x.pa x.pn x.pc) := hJ.now 4 _ rfl
      have f0 := hJ.fr (j * 22 + 4)
      have hst := hJ.stored (s := 4) (unhide HCB) (unhide HC6).2.2 rfl (by omega) (.slice a0 x.pn c0)
      have HP0 := hide (And.intro p0 (And.intro hJ.g1 (fr_but (g := g) b0 (unhide HJ0).cp q0)))
      obtain ⟨u0, eu0⟩ : ∃ u, v0.setCell ⟨g, j * 22 + 4, none⟩ (.slice a0 x.pn c0) = u := ⟨_, rfl⟩
      rw [eu0] at hst
      have hft : Fr v0.heap.size (Two w.heap.size g) v0 u0 := by rw [← eu0]; exact (Fr.refl _ _ _).set _ fun _ => .inr rfl
      have hsz : u0.heap.size = v0.heap.size := by rw [← eu0]; simp
      have HJ1 : Hid (XJ A w.heap.size K g b off n m l j (deCells t ⟨a0, x.pn, c0, x.ta, x.tn, x.tc, x.ra, x.rn, x.rc, x.ea, x.en, x.ec, x.ma, x.mn, x.mc, x.ba, x.bn, x.bc⟩) (C - coP K t.ps) u0) := hst
      have HF0 := hide (And.intro hft hsz)
      clear hJ hst p0 q0 b0 hft hsz z0 HC0
      have hJ := unhide HJ1
      have z1 : u0.cell? ⟨g, j * 22 + 8, none⟩ = some (.slice x.ta x.tn x.tc) := hJ.now 8 _ rfl
      have HC1 := hide (xc_all K u0 w.heap.size (C - coP K t.ps) x.ta x.tn x.tc t.t.r (fun x => P x ∧ x < w.heap.size) (fun q hq e => by have := hq.2; omega) hJ.cp (((unhide HS) _ hJ.but).ty.high (unhide HD).2.1) (by have := unhide HC6; omega) (by have := unhide HC6; omega))
      clear hJ
      go_wp2_with fail
      refine (unhide HC1).mono ?_
      rintro e v1 ⟨a1, c1, rfl, p1, q1, b1⟩
      have hJ := (unhide HJ1).called (unhide HCB) b1 q1
      have y1 : v1.cell? ⟨g, j * 22 + 8, none⟩ = some (.slice x.ta x.tn x.tc) := hJ.now 8 _ rfl
      have f1 := hJ.fr (j * 22 + 8)
      have hst := hJ.stored (s := 8) (unhide HCB) (unhide HC6).2.2 rfl (by omega) (.slice a1 x.tn c1)
      have HP1 := hide (And.intro p1 (And.intro hJ.g1 (fr_but (g := g) b1 (unhide HJ1).cp q1)))
      obtain ⟨u1, eu1⟩ : ∃ u, v1.setCell ⟨g, j * 22 + 8, none⟩ (.slice a1 x.tn c1) = u := ⟨_, rfl⟩
      rw [eu1] at hst
      have hft : Fr v1.heap.size (Two w.heap.size g) v1 u1 := by rw [← eu1]; exact (Fr.refl _ _ _).set _ fun _ => .inr rfl
      have hsz : u1.heap.size = v1.heap.size := by rw [← eu1]; simp
      have HJ2 : Hid (XJ A w.heap.size K g b off n m l j (deCells t ⟨a0, x.pn, c0, a1, x.tn, c1, x.ra, x.rn, x.rc, x.ea, x.en, x.ec, x.ma, x.mn, x.mc, x.ba, x.bn, x.bc⟩) (C - coP K t.ps - coL K t.t.r) u1) := hst
      have HF1 := hide (And.intro hft hsz)
      clear hJ hst p1 q1 b1 hft hsz z1 HC1
      have hJ := unhide HJ2
      have z2 : u1.cell? ⟨g, j * 22 + 10, none⟩ = some (.slice x.ra x.rn x.rc) := hJ.now 10 _ rfl
      have HC2 := hide (xc_all K u1 w.heap.size (C - coP K t.ps - coL K t.t.r) x.ra x.rn x.rc t.req (fun x => P x ∧ x < w.heap.size) (fun q hq e => by have := hq.2; omega) hJ.cp (((unhide HS) _ hJ.but).req.high (unhide HD).2.2.1) (by have := unhide HC6; omega) (by have := unhide HC6; omega))
      clear hJ
      go_wp2_with fail
      refine (unhide HC2).mono ?_
      rintro e v2 ⟨a2, c2, rfl, p2, q2, b2⟩
      have hJ := (unhide HJ2).called (unhide HCB) b2 q2
      have y2 : v2.cell? ⟨g, j * 22 + 10, none⟩ = some (.slice x.ra x.rn x.rc) := hJ.now 10 _ rfl
      have f2 := hJ.fr (j * 22 + 10)
      have hst := hJ.stored (s := 10) (unhide HCB) (unhide HC6).2.2 rfl (by omega) (.slice a2 x.rn c2)
      have HP2 := hide (And.intro p2 (And.intro hJ.g1 (fr_but (g := g) b2 (unhide HJ2).cp q2)))
      obtain ⟨u2, eu2⟩ : ∃ u, v2.setCell ⟨g, j * 22 + 10, none⟩ (.slice a2 x.rn c2) = u := ⟨_, rfl⟩
      rw [eu2] at hst
      have hft : Fr v2.heap.size (Two w.heap.size g) v2 u2 := by rw [← eu2]; exact (Fr.refl _ _ _).set _ fun _ => .inr rfl
      have hsz : u2.heap.size = v2.heap.size := by rw [← eu2]; simp
      have HJ3 : Hid (XJ A w.heap.size K g b off n m l j (deCells t ⟨a0, x.pn, c0, a1, x.tn, c1, a2, x.rn, c2, x.ea, x.en, x.ec, x.ma, x.mn, x.mc, x.ba, x.bn, x.bc⟩) (C - coP K t.ps - coL K t.t.r - coL K t.req) u2) := hst
      have HF2 := hide (And.intro hft hsz)
      clear hJ hst p2 q2 b2 hft hsz z2 HC2
      have hJ := unhide HJ3
      have z3 : u2.cell? ⟨g, j * 22 + 12, none⟩ = some (.slice x.ea x.en x.ec) := hJ.now 12 _ rfl
      have HC3 := hide (xc_all K u2 w.heap.size (C - coP K t.ps - coL K t.t.r - coL K t.req) x.ea x.en x.ec t.ens (fun x => P x ∧ x < w.heap.size) (fun q hq e => by have := hq.2; omega) hJ.cp (((unhide HS) _ hJ.but).ens.high (unhide HD).2.2.2.1) (by have := unhide HC6; omega) (by have := unhide HC6; omega))
      clear hJ
      go_wp2_with fail
      refine (unhide HC3).mono ?_
      rintro e v3 ⟨a3, c3, rfl, p3, q3, b3⟩
      have hJ := (unhide HJ3).called (unhide HCB) b3 q3
      have y3 : v3.cell? ⟨g, j * 22 + 12, none⟩ = some (.slice x.ea x.en x.ec) := hJ.now 12 _ rfl
      have f3 := hJ.fr (j * 22 + 12)
      have hst := hJ.stored (s := 12) (unhide HCB) (unhide HC6).2.2 rfl (by omega) (.slice a3 x.en c3)
      have HP3 := hide (And.intro p3 (And.intro hJ.g1 (fr_but (g := g) b3 (unhide HJ3).cp q3)))
      obtain ⟨u3, eu3⟩ : ∃ u, v3.setCell ⟨g, j * 22 + 12, none⟩ (.slice a3 x.en c3) = u := ⟨_, rfl⟩
      rw [eu3] at hst
      have hft : Fr v3.heap.size (Two w.heap.size g) v3 u3 := by rw [← eu3]; exact (Fr.refl _ _ _).set _ fun _ => .inr rfl
      have hsz : u3.heap.size = v3.heap.size := by rw [← eu3]; simp
      have HJ4 : Hid (XJ A w.heap.size K g b off n m l j (deCells t ⟨a0, x.pn, c0, a1, x.tn, c1, a2, x.rn, c2, a3, x.en, c3, x.ma, x.mn, x.mc, x.ba, x.bn, x.bc⟩) (C - coP K t.ps - coL K t.t.r - coL K t.req - coL K t.ens) u3) := hst
      have HF3 := hide (And.intro hft hsz)
      clear hJ hst p3 q3 b3 hft hsz z3 HC3
      have hJ := unhide HJ4
      have z4 : u3.cell? ⟨g, j * 22 + 13, none⟩ = some (.slice x.ma x.mn x.mc) := hJ.now 13 _ rfl
      have HC4 := hide (xc_all K u3 w.heap.size (C - coP K t.ps - coL K t.t.r - coL K t.req - coL K t.ens) x.ma x.mn x.mc t.mea (fun x => P x ∧ x < w.heap.size) (fun q hq e => by have := hq.2; omega) hJ.cp (((unhide HS) _ hJ.but).mea.high (unhide HD).2.2.2.2.1) (by have := unhide HC6; omega) (by have := unhide HC6; omega))
      clear hJ
      go_wp2_with fail
      refine (unhide HC4).mono ?_
      rintro e v4 ⟨a4, c4, rfl, p4, q4, b4⟩
      have hJ := (unhide HJ4).called (unhide HCB) b4 q4
      have y4 : v4.cell? ⟨g, j * 22 + 13, none⟩ = some (.slice x.ma x.mn x.mc) := hJ.now 13 _ rfl
      have f4 := hJ.fr (j * 22 + 13)
      have hst := hJ.stored (s := 13) (unhide HCB) (unhide HC6).2.2 rfl (by omega) (.slice a4 x.mn c4)
      have HP4 := hide (And.intro p4 (And.intro hJ.g1 (fr_but (g := g) b4 (unhide HJ4).cp q4)))
      obtain ⟨u4, eu4⟩ : ∃ u, v4.setCell ⟨g, j * 22 + 13, none⟩ (.slice a4 x.mn c4) = u := ⟨_, rfl⟩
      rw [eu4] at hst
      have hft : Fr v4.heap.size (Two w.heap.size g) v4 u4 := by rw [← eu4]; exact (Fr.refl _ _ _).set _ fun _ => .inr rfl
      have hsz : u4.heap.size = v4.heap.size := by rw [← eu4]; simp
      have HJ5 : Hid (XJ A w.heap.size K g b off n m l j (deCells t ⟨a0, x.pn, c0, a1, x.tn, c1, a2, x.rn, c2, a3, x.en, c3, a4, x.mn, c4, x.ba, x.bn, x.bc⟩) (C - coP K t.ps - coL K t.t.r - coL K t.req - coL K t.ens - coL K t.mea) u4) := hst
      have HF4 := hide (And.intro hft hsz)
      clear hJ hst p4 q4 b4 hft hsz z4 HC4
      have hJ := unhide HJ5
      have z5 : u4.cell? ⟨g, j * 22 + 18, none⟩ = some (.slice x.ba x.bn x.bc) := hJ.now 18 _ rfl
      have HC5 := hide (xc_all K u4 w.heap.size (C - coP K t.ps - coL K t.t.r - coL K t.req - coL K t.ens - coL K t.mea) x.ba x.bn x.bc t.body.l (fun x => P x ∧ x < w.heap.size) (fun q hq e => by have := hq.2; omega) hJ.cp (((unhide HS) _ hJ.but).body.high (unhide HD).2.2.2.2.2) (by have := unhide HC6; omega) (by have := unhide HC6; omega))
      clear hJ
      go_wp2_with fail
      refine (unhide HC5).mono ?_
      rintro e v5 ⟨a5, c5, rfl, p5, q5, b5⟩
      have hJ := (unhide HJ5).called (unhide HCB) b5 q5
      have y5 : v5.cell? ⟨g, j * 22 + 18, none⟩ = some (.slice x.ba x.bn x.bc) := hJ.now 18 _ rfl
      have f5 := hJ.fr (j * 22 + 18)
      have hst := hJ.stored (s := 18) (unhide HCB) (unhide HC6).2.2 rfl (by omega) (.slice a5 x.bn c5)
      have HP5 := hide (And.intro p5 (And.intro hJ.g1 (fr_but (g := g) b5 (unhide HJ5).cp q5)))
      obtain ⟨u5, eu5⟩ : ∃ u, v5.setCell ⟨g, j * 22 + 18, none⟩ (.slice a5 x.bn c5) = u := ⟨_, rfl⟩
      rw [eu5] at hst
      have hft : Fr v5.heap.size (Two w.heap.size g) v5 u5 := by rw [← eu5]; exact (Fr.refl _ _ _).set _ fun _ => .inr rfl
      have hsz : u5.heap.size = v5.heap.size := by rw [← eu5]; simp
      have HJ6 : Hid (XJ A w.heap.size K g b off n m l j (deCells t ⟨a0, x.pn, c0, a1, x.tn, c1, a2, x.rn, c2, a3, x.en, c3, a4, x.mn, c4, a5, x.bn, c5⟩) (C - coP K t.ps - coL K t.t.r - coL K t.req - coL K t.ens - coL K t.mea - coL K t.body.l) u5) := hst
      have HF5 := hide (And.intro hft hsz)
      clear hJ hst p5 q5 b5 hft hsz z5 HC5
      go_wp2_with fail
      have hK : XK A w.heap.size K g b off n l (j + 1) u5 := by
        obtain ⟨ht, hC, hct, hcl, hcd, hL, hjn, k8⟩ := unhide HN
        have hcb := unhide HCB
        obtain ⟨p0, gv0, b0⟩ := unhide HP0
        obtain ⟨t0, s0⟩ := unhide HF0
        obtain ⟨p1, gv1, b1⟩ := unhide HP1
        obtain ⟨t1, s1⟩ := unhide HF1
        obtain ⟨p2, gv2, b2⟩ := unhide HP2
        obtain ⟨t2, s2⟩ := unhide HF2
        obtain ⟨p3, gv3, b3⟩ := unhide HP3
        obtain ⟨t3, s3⟩ := unhide HF3
        obtain ⟨p4, gv4, b4⟩ := unhide HP4
        obtain ⟨t4, s4⟩ := unhide HF4
        obtain ⟨p5, gv5, b5⟩ := unhide HP5
        obtain ⟨t5, s5⟩ := unhide HF5
        have gj0 := (unhide HJ0).g1
        have bs0 := b0.size
        have gj1 := (unhide HJ1).g1
        have bs1 := b1.size
        have gj2 := (unhide HJ2).g1
        have bs2 := b2.size
        have gj3 := (unhide HJ3).g1
        have bs3 := b3.size
        have gj4 := (unhide HJ4).g1
        have bs4 := b4.size
        have gj5 := (unhide HJ5).g1
        have bs5 := b5.size
        have bb := (unhide HJ0).but.size
        have T5 := t5
        have T4 := t4.trans ((b5.less (H' := v4.heap.size) (by omega)).trans (T5.less (H' := v4.heap.size) (by omega)))
        have T3 := t3.trans ((b4.less (H' := v3.heap.size) (by omega)).trans (T4.less (H' := v3.heap.size) (by omega)))
        have T2 := t2.trans ((b3.less (H' := v2.heap.size) (by omega)).trans (T3.less (H' := v2.heap.size) (by omega)))
        have T1 := t1.trans ((b2.less (H' := v1.heap.size) (by omega)).trans (T2.less (H' := v1.heap.size) (by omega)))
        have T0 := t0.trans ((b1.less (H' := v0.heap.size) (by omega)).trans (T1.less (H' := v0.heap.size) (by omega)))
        rw [s0] at p1
        rw [s1] at p2
        rw [s2] at p3
        rw [s3] at p4
        rw [s4] at p5
        have r0 := OPs.fr p0 T0 (Nat.le_refl _) (fun k' i q1 q2 hh => by rcases hh with hh | hh <;> omega)
        have r1 := p1.fr T1 (Nat.le_refl _) (fun k' i q1 q2 hh => by rcases hh with hh | hh <;> omega)
        have r2 := p2.fr T2 (Nat.le_refl _) (fun k' i q1 q2 hh => by rcases hh with hh | hh <;> omega)
        have r3 := p3.fr T3 (Nat.le_refl _) (fun k' i q1 q2 hh => by rcases hh with hh | hh <;> omega)
        have r4 := p4.fr T4 (Nat.le_refl _) (fun k' i q1 q2 hh => by rcases hh with hh | hh <;> omega)
        have r5 := p5.fr T5 (Nat.le_refl _) (fun k' i q1 q2 hh => by rcases hh with hh | hh <;> omega)
        rw [← s5] at r5
        exact XK.finish (unhide HJ6) ht (by rw [hC]; push_cast at *; omega) k8 r0 r1 r2 r3 r4 r5
      have HK := hide hK
      have HJN := hide (unhide HN).2.2.2.2.2.2.1
      exact ⟨⟨j + 1, by push_cast; rfl, unhide HJN, unhide HK⟩, by simp only [intOf]; have := unhide HJN; omega⟩
end Go.Proofs.YtljhpbjngbbjbaaDoor

/- Package scope: rows as trees hold them; parameters. -/
namespace Go.Proofs.YtljhpbjngbbjbaaDoor
open Go Go.RowKit
def OsP (H r mc md mb K lo hi : Nat) (a : Option Addr) (n c : Nat) (x : List Er × RZ) (w : World) (e : Ending) (w' : World) : Prop := e = .returned (.tuple #[]) ∧ RSt H r mc md mb w' x.2 ∧ OSp (OE w' K) lo hi a n c x.1 ∧ Fr H (Foot lo hi 0 0 0) w w'
theorem os_in {H lo hi q o n : Nat} {w w' : World} (hf : Fr H (Foot (q + 1) hi q o n) w w') (h1 : lo ≤ q) (h2 : q < hi) : Fr H (Foot lo hi 0 0 0) w w' := hf.mono fun k j hk => by
  rcases hk with ⟨g1, g2⟩ | ⟨g1, g2, g3⟩
  · exact .inl ⟨by omega, g2⟩
  · exact .inl ⟨by omega, by omega⟩
theorem xrow_os {H r mc md mb K lo hi n c : Nat} {a : Option Addr} {w : World} {z : RZ} {l : List Er} (h : RSt H r mc md mb w z) (hx : OSp (OE w K) lo hi a n c l) (hh : hi ≤ H) (hFi : Fi K z) : Calls Tryd.prog 58 #[.pointer (some ⟨r, 0, none⟩), .slice a n c] w (OsP H r mc md mb K lo hi a n c (thr (rxE K) z l) w) := by
  obtain ⟨h3, h4, h5, h6, h7, h8⟩ := hx
  cases l with
  | nil =>
    obtain rfl : n = 0 := h3
    refine (exprs_nil h).mono ?_
    rintro e w' ⟨rfl, k1, k2⟩
    exact ⟨rfl, k1, ⟨rfl, h4, h5, h6, fun e => absurd rfl e, h8⟩, Fr.of _ k2⟩
  | cons t l =>
    obtain ⟨q, o, rfl, g1, g2, g3⟩ := h7 (by simp)
    refine (xrow_of (ec_all H r mc md mb K) h g3 ⟨by omega, hh, .inl (by omega)⟩ hFi h3 h4 h5).mono ?_
    rintro e w' ⟨rfl, k1, k2, k3⟩
    refine ⟨rfl, k1, ⟨h3.trans (thr_len _ _).symm, h4, h5, h6, fun _ => ⟨q, o, rfl, g1, g2, k2⟩, fun e => ?_⟩, os_in k3 g1 g2⟩
    have := congrArg List.length e
    rw [thr_len] at this
    simp at this
theorem xund_os {H r mc md mb K lo hi n c : Nat} {a : Option Addr} {w : World} {z : RZ} {l : List Er} (s : ByteArray) (h : RSt H r mc md mb w z) (hx : OSp (OE w K) lo hi a n c l) (hh : hi ≤ H) (hFi : Fi (K + 1) z) : Calls Tryd.prog 59 #[.pointer (some ⟨r, 0, none⟩), .string s, .slice a n c] w (OsP H r mc md mb K lo hi a n c (undS (thr (rxE K)) s z l) w) := by
  obtain ⟨h3, h4, h5, h6, h7, h8⟩ := hx
  cases l with
  | nil =>
    obtain rfl : n = 0 := h3
    refine (under_gen (s := s) (z := z) (y := z.setB (z.depth + 1) s (z.depth + 1)) (R := fun w3 => Below H w w3) h (hFi.down (by omega)) rfl fun w1 hR1 hb1 => ?_).mono ?_
    · refine (exprs_nil hR1).mono ?_
      rintro e w' ⟨rfl, k1, k2⟩
      exact ⟨rfl, k1, hb1.trans k2⟩
    · rintro e w' ⟨rfl, k1, w3, k2, k3⟩
      exact ⟨rfl, k1, ⟨rfl, h4, h5, h6, fun e => absurd rfl e, h8⟩, Fr.of _ (k2.trans k3)⟩
  | cons t l =>
    obtain ⟨q, o, rfl, g1, g2, g3⟩ := h7 (by simp)
    refine (xund_any (ec_all H r mc md mb K) s h g3 ⟨by omega, hh, .inl (by omega)⟩ hFi h3 h4 h5 (fun _ => rfl)).mono ?_
    rintro e w' ⟨rfl, k1, k2, k3⟩
    have hl : (undS (thr (rxE K)) s z (t :: l)).1.length = (t :: l).length := thr_len (t :: l) _
    refine ⟨rfl, k1, ⟨h3.trans hl.symm, h4, h5, h6, fun _ => ⟨q, o, rfl, g1, g2, k2⟩, fun e => ?_⟩, os_in k3 g1 g2⟩
    have := congrArg List.length e
    rw [hl] at this
    simp at this
/-- A parameter whose row has been gone through. -/
theorem OPm.row {H K lo hi b o : Nat} {w w' : World} {p : Pr} {l' : List Er} {a : Option Addr} {n c : Nat} (hx : OPm w K lo hi b o p) (hA : Ap H lo hi b) (h3 : w.cell? ⟨b, o + 3, none⟩ = some (.slice a n c)) (hf : Fr H (Foot lo hi 0 0 0) w w') (h : OSp (OE w' K) lo hi a n c l') : OPm w' K lo hi b o (p.setR l') ∧ Fr H (Foot lo hi b o 6) w w' := by
  obtain ⟨a2, n2, c2, k1, k2⟩ := hx
  have e := k1 3 _ rfl
  rw [h3] at e
  obtain ⟨rfl, rfl, rfl⟩ : a = a2 ∧ n = n2 ∧ c = c2 := by simpa using e
  have ho := hA.o1
  refine ⟨⟨a, n, c, fun j v hv => (hf.cell b (o + j) hA.b1 fun hk => ?_).trans (k1 j v ?_), h⟩, hf.mono fun k j hk => ?_⟩
  · rcases hk with ⟨g1, g2⟩ | ⟨g1, g2, g3⟩ <;> omega
  · rcases j with _ | _ | _ | _ | _ | _ | j
    all_goals exact hv
  · rcases hk with ⟨g1, g2⟩ | ⟨g1, g2, g3⟩
    · exact .inl ⟨g1, g2⟩
    · omega
theorem OPm.low {H K lo hi b o : Nat} {w w' : World} {p : Pr} (hx : OPm w K lo hi b o p) (hA : Ap H lo hi b) (h : Below H w w') : OPm w' K lo hi b o p := hx.fr (Fr.of (fun _ _ => False) h) hA.b1 hA.h1 (fun _ _ _ h => h) fun _ _ _ _ h => h
def PaP (H r mc md mb K lo hi b o : Nat) (x : Pr × RZ) (w : World) (e : Ending) (w' : World) : Prop := e = .returned (.tuple #[]) ∧ RSt H r mc md mb w' x.2 ∧ OPm w' K lo hi b o x.1 ∧ Fr H (Foot lo hi b o 6) w w'
end Go.Proofs.YtljhpbjngbbjbaaDoor

/- Package scope: param. -/
namespace Go.Proofs.YtljhpbjngbbjbaaDoor
open Go Go.RowKit
set_option maxRecDepth 100000 in
set_option maxHeartbeats 8000000 in
theorem xpar_any {H r mc md mb K lo hi b o : Nat} {w : World} {z : RZ} {p : Pr} (h : RSt H r mc md mb w z) (hx : OPm w K lo hi b o p) (hA : Ap H lo hi b) (hFi : Fi (K + 2) z) : Calls Tryd.prog 57 #[.pointer (some ⟨r, 0, none⟩), .pointer (some ⟨b, o, none⟩)] w (PaP H r mc md mb K lo hi b o (rxP K z p) w) := by
  have hl := fun n => (asked (h.below (below_dw _ w n)).nb p.name).2
  obtain ⟨pw, x0, x1, x2, x3, x4, x5, hf, hw⟩ := h.cells
  obtain ⟨a, n, c, h1, h2⟩ := id hx
  have y0 : w.cell? ⟨b, o, none⟩ = some (.string p.name) := h1 0 _ rfl
  have y2 : w.cell? ⟨b, o + 2, none⟩ = some (.string p.t.name) := h1 2 _ rfl
  have y3 : w.cell? ⟨b, o + 3, none⟩ = some (.slice a n c) := h1 3 _ rfl
  have y5 : w.cell? ⟨b, o + 5, none⟩ = some (.int .i64 p.at') := h1 5 _ rfl
  have HRF := hide (fun n => refus_any (h.below (below_dw _ w n)) p.at' 171)
  have HR0 := hide (fun n => h.below (below_dw w.heap.size w n))
  have HX := hide hx
  have HA := hide hA
  have HY := hide (And.intro y0 (And.intro y2 y3))
  unfold rxP
  obtain ⟨z1, hz1⟩ : ∃ z1, (if 0 < z.bnd p.name then z.ref p.at' 171 else z) = z1 := ⟨_, rfl⟩
  have hF1 : Fi (K + 2) z1 ∧ z1.depth = z.depth := by
    rw [← hz1]
    split
    · exact hFi.ref _ _
    · exact ⟨hFi, rfl⟩
  have hF2 : Fi (K + 1) z1 := hF1.1.down (by omega)
  rw [hz1]
  obtain ⟨Y, hY⟩ : ∃ Y, undS (thr (rxE K)) p.t.name z1 p.t.r = Y := ⟨_, rfl⟩
  have hYF : Fi (K + 1) Y.2 ∧ Y.2.depth = z1.depth := by rw [← hY]; exact und_kp (fun z l => thr_kp (rx_kp K) l z) _ _ _ hF2
  rw [hY]
  have HYE := hide hY
  have HYD := hide (show 0 ≤ Y.2.depth ∧ Y.2.depth ≤ 1000000000 from ⟨hYF.1.d0, by have := hYF.1.d1; push_cast at this; omega⟩)
  have HFi := hide hF2
  have hb := h.size
  by_cases hk : 0 < z.bnd p.name
  · rw [if_pos hk] at hz1
    obtain ⟨N, hN⟩ : ∃ N, z.bnd p.name = N := ⟨_, rfl⟩
    have hN' : (lkI p.name z.bind).getD 0 = N := hN
    rw [hN'] at hl
    rw [hN] at hk
    have d1 : decide (0 < N) = true := by simpa using hk
    have d2 : decide (N > 0) = true := by simpa using hk
    have HZ := hide hz1
    clear h hx hA hf hw h1 h2 y2 y3 hF1 hF2 hY hYF hFi hN hN' x0 x1 x3 x4 x5 hz1
    go_enter Tryd.func57, Tryd.ntmps57
    go_wp2_with fail
    go_quiet (fail)
    go_wp2_with fail
    refine (unhide HRF nq).mono ?_
    rintro e W1 ⟨rfl, hRq, hbq⟩
    rw [unhide HZ] at hRq
    have HR1 := hide hRq
    have HB1 := hide ((below_dw H w nq).trans hbq)
    clear hRq hbq HRF HR0 y0 y5 hl x2
    have hR1 := unhide HR1
    have hb1 := unhide HB1
    have hx1 := (unhide HX).low (unhide HA) hb1
    have u0 : W1.cell? ⟨b, o, none⟩ = some (.string p.name) := (hb1.cell (p := ⟨b, o, none⟩) (unhide HA).b1).trans (unhide HY).1
    have u2 : W1.cell? ⟨b, o + 2, none⟩ = some (.string p.t.name) := (hb1.cell (p := ⟨b, o + 2, none⟩) (unhide HA).b1).trans (unhide HY).2.1
    have u3 : W1.cell? ⟨b, o + 3, none⟩ = some (.slice a n c) := (hb1.cell (p := ⟨b, o + 3, none⟩) (unhide HA).b1).trans (unhide HY).2.2
    obtain ⟨a', n', c', q1, q2⟩ := hx1
    have e3 := q1 3 _ rfl
    rw [u3] at e3
    obtain ⟨rfl, rfl, rfl⟩ : a = a' ∧ n = n' ∧ c = c' := by simpa using e3
    have HC : Hid (∀ V, (V = W1 ∨ V = W1.drew) → Calls Tryd.prog 59 #[.pointer (some ⟨r, 0, none⟩), .string p.t.name, .slice a n c] V fun e w2 => e = .returned (.tuple #[]) ∧ RSt H r mc md mb w2 Y.2 ∧ OPm w2 K lo hi b o (p.setR Y.1) ∧ Fr H (Foot lo hi b o 6) w w2 ∧ w2.cell? ⟨b, o + 2, none⟩ = some (.string p.t.name) ∧ w2.cell? ⟨b, o + 3, none⟩ = some (.slice a n c) ∧ w2.cell? ⟨b, o, none⟩ = some (.string p.name)) := by
      intro V hV
      have hbV : Below W1.heap.size W1 V := by
        rcases hV with e | e
        · rw [e]; exact Below.refl _ _
        · rw [e]; exact (Below.refl _ _).drew
      have hbH : Below H W1 V := hbV.mono hR1.size
      refine (xund_os p.t.name (hR1.below hbV) (q2.fr (Fr.of (fun _ _ => False) hbH) (unhide HA).h1 fun _ _ _ _ h => h) (unhide HA).h1 (unhide HFi)).mono ?_
      rintro e w2 ⟨rfl, k1, k2, k3⟩
      rw [unhide HYE] at k1 k2
      have hx1 : OPm W1 K lo hi b o p := ⟨a, n, c, q1, q2⟩
      have k4 := (hx1.low (unhide HA) hbH).row (unhide HA) ((hbH.cell (p := ⟨b, o + 3, none⟩) (unhide HA).b1).trans u3) k3 k2
      obtain ⟨a3, n3, c3, m1, m2⟩ := k4.1
      have ho := (unhide HA).o1
      have hcc : ∀ j, w2.cell? ⟨b, o + j, none⟩ = V.cell? ⟨b, o + j, none⟩ := fun j => k3.cell b _ (unhide HA).b1 fun hk => by rcases hk with ⟨g1, g2⟩ | ⟨g1, g2, g3⟩ <;> omega
      exact ⟨rfl, k1, k4.1, (Fr.of _ (hb1.trans hbH)).trans k4.2, (hcc 2).trans ((hbH.cell (p := ⟨b, o + 2, none⟩) (unhide HA).b1).trans u2), (hcc 3).trans ((hbH.cell (p := ⟨b, o + 3, none⟩) (unhide HA).b1).trans u3), (hcc 0).trans ((hbH.cell (p := ⟨b, o, none⟩) (unhide HA).b1).trans u0)⟩
    clear hR1 hb1 q1 q2 e3 u0 HR1 HB1
    go_wp2_with fail
    go_region_held3 (fun w' => w'.cell? ⟨b, o + 2, none⟩ = some (.string p.t.name) ∧ w'.cell? ⟨b, o + 3, none⟩ = some (.slice a n c)) (first | assumption | exact ⟨u2, u3⟩) (first | (go_at_call 59; refine (unhide HC _ (.inr rfl)).mono ?_; rintro e w2 ⟨rfl, k1, k2, k3, k4, k5, k6⟩; have hk2 : w2.cell? ⟨b, o + 2, none⟩ = some (.string p.t.name) ∧ w2.cell? ⟨b, o + 3, none⟩ = some (.slice a n c) := ⟨k4, k5⟩))
    all_goals
      obtain ⟨pw2, x0, x1, x2, x3, x4, x5, hf, hw⟩ := k1.cells
      have f3 := hf 3
      have hd := unhide HYD
      have q1 : wrap64 (Y.2.depth + 1) = Y.2.depth + 1 := by unfold wrap64; omega
      have hR3 := k1.depth (Y.2.depth + 1)
      have hb3 : Below H w2 (w2.setCell ⟨r, 3, none⟩ (.int .i64 (Y.2.depth + 1))) := below_set (Below.refl H w2) k1.hr _ _
      obtain ⟨W3, eW3⟩ : ∃ W3, w2.setCell ⟨r, 3, none⟩ (.int .i64 (Y.2.depth + 1)) = W3 := ⟨_, rfl⟩
      rw [eW3] at hR3 hb3
      obtain ⟨pw3, b0, b1, b2, b3, b4, b5, bf, -⟩ := hR3.cells
      obtain ⟨W5, hrun5, hput5, hN5⟩ := updated (hR3.below (Below.refl _ W3).drew).nb p.name (Y.2.depth + 1)
      have hB5 := (hR3.below (Below.refl _ W3).drew).bound hput5 hN5
      have hb35 : Below H w2 W5 := (hb3.trans (Below.refl _ W3).drew).trans hB5.2
      have v0 : W3.cell? ⟨b, o, none⟩ = some (.string p.name) := (hb3.cell (p := ⟨b, o, none⟩) (unhide HA).b1).trans k6
      have HF := hide (show PaP H r mc md mb K lo hi b o (p.setR Y.1, Y.2.setB (Y.2.depth + 1) p.name (Y.2.depth + 1)) w (.returned (.tuple #[])) W5 from ⟨rfl, hB5.1, k2.low (unhide HA) hb35, k3.trans (Fr.of _ hb35)⟩)
      clear k1 k2 k3 k4 k5 k6 hk2 hf hw hd hR3 hb3 bf hput5 hN5 hB5 hb35 HC x0 x1 x4 x5 u2 u3
      go_wp2_with fail
      go_region
      go_wp2
      refine bodyPost_end (results_none rfl _ _ _) rfl ?_
      exact unhide HF
  · rw [if_neg hk] at hz1
    subst hz1
    obtain ⟨N, hN⟩ : ∃ N, z.bnd p.name = N := ⟨_, rfl⟩
    have hN' : (lkI p.name z.bind).getD 0 = N := hN
    rw [hN'] at hl
    rw [hN] at hk
    have d1 : decide (0 < N) = false := by simpa using hk
    have d2 : decide (N > 0) = false := by simpa using hk
    clear h hx hA hf hw h1 h2 y2 y3 hF1 hF2 hY hYF hFi hN hN' x0 x1 x3 x4 x5
    go_enter Tryd.func57, Tryd.ntmps57
    go_wp2_with fail
    go_quiet (fail)
    go_wp2_with fail
    have hRq := unhide HR0 nq
    have hbq := below_dw H w nq
    obtain ⟨W1, eW1⟩ : ∃ W, w.drewN nq = W := ⟨_, rfl⟩
    rw [eW1] at hRq hbq ⊢
    have HR1 := hide hRq
    have HB1 := hide hbq
    clear hRq hbq HRF HR0 y0 y5 hl x2 eW1
    have hR1 := unhide HR1
    have hb1 := unhide HB1
    have hx1 := (unhide HX).low (unhide HA) hb1
    have u0 : W1.cell? ⟨b, o, none⟩ = some (.string p.name) := (hb1.cell (p := ⟨b, o, none⟩) (unhide HA).b1).trans (unhide HY).1
    have u2 : W1.cell? ⟨b, o + 2, none⟩ = some (.string p.t.name) := (hb1.cell (p := ⟨b, o + 2, none⟩) (unhide HA).b1).trans (unhide HY).2.1
    have u3 : W1.cell? ⟨b, o + 3, none⟩ = some (.slice a n c) := (hb1.cell (p := ⟨b, o + 3, none⟩) (unhide HA).b1).trans (unhide HY).2.2
    obtain ⟨a', n', c', q1, q2⟩ := hx1
    have e3 := q1 3 _ rfl
    rw [u3] at e3
    obtain ⟨rfl, rfl, rfl⟩ : a = a' ∧ n = n' ∧ c = c' := by simpa using e3
    have HC : Hid (∀ V, (V = W1 ∨ V = W1.drew) → Calls Tryd.prog 59 #[.pointer (some ⟨r, 0, none⟩), .string p.t.name, .slice a n c] V fun e w2 => e = .returned (.tuple #[]) ∧ RSt H r mc md mb w2 Y.2 ∧ OPm w2 K lo hi b o (p.setR Y.1) ∧ Fr H (Foot lo hi b o 6) w w2 ∧ w2.cell? ⟨b, o + 2, none⟩ = some (.string p.t.name) ∧ w2.cell? ⟨b, o + 3, none⟩ = some (.slice a n c) ∧ w2.cell? ⟨b, o, none⟩ = some (.string p.name)) := by
      intro V hV
      have hbV : Below W1.heap.size W1 V := by
        rcases hV with e | e
        · rw [e]; exact Below.refl _ _
        · rw [e]; exact (Below.refl _ _).drew
      have hbH : Below H W1 V := hbV.mono hR1.size
      refine (xund_os p.t.name (hR1.below hbV) (q2.fr (Fr.of (fun _ _ => False) hbH) (unhide HA).h1 fun _ _ _ _ h => h) (unhide HA).h1 (unhide HFi)).mono ?_
      rintro e w2 ⟨rfl, k1, k2, k3⟩
      rw [unhide HYE] at k1 k2
      have hx1 : OPm W1 K lo hi b o p := ⟨a, n, c, q1, q2⟩
      have k4 := (hx1.low (unhide HA) hbH).row (unhide HA) ((hbH.cell (p := ⟨b, o + 3, none⟩) (unhide HA).b1).trans u3) k3 k2
      obtain ⟨a3, n3, c3, m1, m2⟩ := k4.1
      have ho := (unhide HA).o1
      have hcc : ∀ j, w2.cell? ⟨b, o + j, none⟩ = V.cell? ⟨b, o + j, none⟩ := fun j => k3.cell b _ (unhide HA).b1 fun hk => by rcases hk with ⟨g1, g2⟩ | ⟨g1, g2, g3⟩ <;> omega
      exact ⟨rfl, k1, k4.1, (Fr.of _ (hb1.trans hbH)).trans k4.2, (hcc 2).trans ((hbH.cell (p := ⟨b, o + 2, none⟩) (unhide HA).b1).trans u2), (hcc 3).trans ((hbH.cell (p := ⟨b, o + 3, none⟩) (unhide HA).b1).trans u3), (hcc 0).trans ((hbH.cell (p := ⟨b, o, none⟩) (unhide HA).b1).trans u0)⟩
    clear hR1 hb1 q1 q2 e3 u0 HR1 HB1
    go_wp2_with fail
    go_region_held3 (fun w' => w'.cell? ⟨b, o + 2, none⟩ = some (.string p.t.name) ∧ w'.cell? ⟨b, o + 3, none⟩ = some (.slice a n c)) (first | assumption | exact ⟨u2, u3⟩) (first | (go_at_call 59; refine (unhide HC _ (.inr rfl)).mono ?_; rintro e w2 ⟨rfl, k1, k2, k3, k4, k5, k6⟩; have hk2 : w2.cell? ⟨b, o + 2, none⟩ = some (.string p.t.name) ∧ w2.cell? ⟨b, o + 3, none⟩ = some (.slice a n c) := ⟨k4, k5⟩))
    all_goals
      obtain ⟨pw2, x0, x1, x2, x3, x4, x5, hf, hw⟩ := k1.cells
      have f3 := hf 3
      have hd := unhide HYD
      have q1 : wrap64 (Y.2.depth + 1) = Y.2.depth + 1 := by unfold wrap64; omega
      have hR3 := k1.depth (Y.2.depth + 1)
      have hb3 : Below H w2 (w2.setCell ⟨r, 3, none⟩ (.int .i64 (Y.2.depth + 1))) := below_set (Below.refl H w2) k1.hr _ _
      obtain ⟨W3, eW3⟩ : ∃ W3, w2.setCell ⟨r, 3, none⟩ (.int .i64 (Y.2.depth + 1)) = W3 := ⟨_, rfl⟩
      rw [eW3] at hR3 hb3
      obtain ⟨pw3, b0, b1, b2, b3, b4, b5, bf, -⟩ := hR3.cells
      obtain ⟨W5, hrun5, hput5, hN5⟩ := updated (hR3.below (Below.refl _ W3).drew).nb p.name (Y.2.depth + 1)
      have hB5 := (hR3.below (Below.refl _ W3).drew).bound hput5 hN5
      have hb35 : Below H w2 W5 := (hb3.trans (Below.refl _ W3).drew).trans hB5.2
      have v0 : W3.cell? ⟨b, o, none⟩ = some (.string p.name) := (hb3.cell (p := ⟨b, o, none⟩) (unhide HA).b1).trans k6
      have HF := hide (show PaP H r mc md mb K lo hi b o (p.setR Y.1, Y.2.setB (Y.2.depth + 1) p.name (Y.2.depth + 1)) w (.returned (.tuple #[])) W5 from ⟨rfl, hB5.1, k2.low (unhide HA) hb35, k3.trans (Fr.of _ hb35)⟩)
      clear k1 k2 k3 k4 k5 k6 hk2 hf hw hd hR3 hb3 bf hput5 hN5 hB5 hb35 HC x0 x1 x4 x5 u2 u3
      go_wp2_with fail
      go_region
      go_wp2
      refine bodyPost_end (results_none rfl _ _ _) rfl ?_
      exact unhide HF
end Go.Proofs.YtljhpbjngbbjbaaDoor

namespace Go.Proofs.YtljhpbjngbbjbaaDoor
open Go Go.RowKit
theorem kp_up {k j : Nat} {f : RZ → Er → Er × RZ} (hf : Kp k f) (hj : k ≤ j) : Kp j f := fun z t h => by
  have h1 := hf z t (h.down hj)
  exact ⟨⟨h1.1.d0, by rw [h1.2]; exact h.d1, h1.1.b⟩, h1.2⟩
theorem par_fi {K m : Nat} {z : RZ} (p : Pr) (h : Fi (K + 2 + (m + 1)) z) : Fi (K + 2 + m) (rxP K z p).2 := by
  obtain ⟨z1, hz1⟩ : ∃ z1, (if 0 < z.bnd p.name then z.ref p.at' 171 else z) = z1 := ⟨_, rfl⟩
  have hF1 : Fi (K + 2 + (m + 1)) z1 ∧ z1.depth = z.depth := by
    rw [← hz1]
    split
    · exact h.ref _ _
    · exact ⟨h, rfl⟩
  have e : (rxP K z p).2 = (undS (thr (rxE K)) p.t.name z1 p.t.r).2.setB ((undS (thr (rxE K)) p.t.name z1 p.t.r).2.depth + 1) p.name ((undS (thr (rxE K)) p.t.name z1 p.t.r).2.depth + 1) := by rw [← hz1]; rfl
  have hu : Fi (K + 2 + m + 1) (undS (thr (rxE K)) p.t.name z1 p.t.r).2 ∧ (undS (thr (rxE K)) p.t.name z1 p.t.r).2.depth = z1.depth := und_kp (k := K + 2 + m) (fun z l => thr_kp (kp_up (rx_kp K) (by omega)) l z) _ _ _ (hF1.1.down (by omega))
  have h0 := hu.1.d0
  have h1 := hu.1.d1
  rw [e]
  exact hu.1.setB _ (by omega) (by push_cast at h1 ⊢; omega) (by omega) (by push_cast at h1; omega)
theorem fresh_fi {K m : Nat} (z : RZ) (hK : K + m ≤ 100000000) : Fi (K + m) z.fresh := ⟨Int.le_refl _, by show (0 : Int) + ((K + m : Nat) : Int) ≤ 1000000000; omega, fun s => by show 0 ≤ (lkI s []).getD 0 ∧ (lkI s []).getD 0 ≤ 1000000000; simp [lkI]⟩
theorem RSt.ens {H r mc md mb : Nat} {w : World} {z : RZ} (h : RSt H r mc md mb w z) (b : Bool) : RSt H r mc md mb (w.setCell ⟨r, 4, none⟩ (.bool b)) (z.setE b) := by
  obtain ⟨pw, h1, h2⟩ := h.box
  have hu : Up H r w (w.setCell ⟨r, 4, none⟩ (.bool b)) := fun k _ _ hn => heap_set _ _ hn
  exact h.boxed hu rfl rfl rfl (pw := pw) (set_block h1 _) (h2.up hu fun cs e => by rw [h1] at e; injection e with e; injection e with e1 e2; exact absurd e2 (by decide))
theorem RS0.lt {H r mc md : Nat} {w : World} {z : RZ} (h : RS0 H r mc md w z) : r < w.heap.size := by
  obtain ⟨mb, pw, h1, h2⟩ := h.box
  exact (blk h1).1
theorem RS0.cells {H r mc md : Nat} {w : World} {z : RZ} (h : RS0 H r mc md w z) : ∃ mb pw, w.cell? ⟨r, 0, none⟩ = some (.map (some mc)) ∧ w.cell? ⟨r, 1, none⟩ = some (.map (some md)) ∧ w.cell? ⟨r, 2, none⟩ = some (.map mb) ∧ w.cell? ⟨r, 3, none⟩ = some (.int .i64 z.depth) ∧ w.cell? ⟨r, 4, none⟩ = some (.bool z.ens) ∧ w.cell? ⟨r, 5, none⟩ = some (.pointer pw) ∧ (∀ o, w.frozen? ⟨r, o, none⟩ = false) ∧ WrP H w pw z.wr := by
  obtain ⟨mb, pw, h1, h2⟩ := h.box
  exact ⟨mb, pw, (blk h1).2.1 0 _ rfl, (blk h1).2.1 1 _ rfl, (blk h1).2.1 2 _ rfl, (blk h1).2.1 3 _ rfl, (blk h1).2.1 4 _ rfl, (blk h1).2.1 5 _ rfl, (blk h1).2.2, h2⟩
theorem RS0.same {H r mc md : Nat} {w w' : World} {z : RZ} (h : RS0 H r mc md w z) (hs : ∀ k, H ≤ k → k < w.heap.size → w'.heap[k]? = w.heap[k]?) : RS0 H r mc md w' z := by
  obtain ⟨mb, pw, h1, h2⟩ := h.box
  exact ⟨⟨mb, pw, (hs r h.hr h.lt).trans h1, h2.same hs⟩, h.nc.same (hs _ h.hc h.nc.lt), h.nd.same (hs _ h.hd h.nd.lt), h.hr, h.hc, h.hd, h.ne⟩
theorem RS0.below {H r mc md : Nat} {w w' : World} {z : RZ} (h : RS0 H r mc md w z) (hb : Below w.heap.size w w') : RS0 H r mc md w' z := h.same fun k _ hk => hb.block k hk
/-- New binders. -/
theorem RS0.fresh {H r mc md : Nat} {w : World} {z : RZ} (h : RS0 H r mc md w z) : RSt H r mc md w.heap.size (((w.alloc (.map #[] 0)).setCell ⟨r, 2, none⟩ (.map (some w.heap.size))).setCell ⟨r, 3, none⟩ (.int .i64 0)) z.fresh ∧ Below H w (((w.alloc (.map #[] 0)).setCell ⟨r, 2, none⟩ (.map (some w.heap.size))).setCell ⟨r, 3, none⟩ (.int .i64 0)) := by
  have hlt := h.lt
  have hr := h.hr
  have hbA := (Below.refl w.heap.size w).alloc (Nat.le_refl _) (.map #[] 0)
  have hA := h.below hbA
  have hnb := NM.new w
  obtain ⟨mb, pw, h1, h2⟩ := hA.box
  have hne : r ≠ w.heap.size := by omega
  have hb1 : ∀ k, k ≠ r → (((w.alloc (.map #[] 0)).setCell ⟨r, 2, none⟩ (.map (some w.heap.size))).setCell ⟨r, 3, none⟩ (.int .i64 0)).heap[k]? = (w.alloc (.map #[] 0)).heap[k]? := fun k hk => (heap_set _ _ hk).trans (heap_set _ _ hk)
  have hcr : ∀ m es, NM (w.alloc (.map #[] 0)) m es → m ≠ r := fun m es hm e => by
    obtain ⟨a, c, h3, -⟩ := hm
    rw [e, h1] at h3
    cases h3
  have hcl := h.nc.lt
  have hdl := h.nd.lt
  refine ⟨⟨⟨pw, set_block (set_block h1 _) _, ?_⟩, hA.nc.same (hb1 _ (hcr _ _ hA.nc)), hA.nd.same (hb1 _ (hcr _ _ hA.nd)), hnb.same (hb1 _ (Ne.symm hne)), hr, h.hc, h.hd, by omega, h.ne, by omega, by omega⟩, below_set (below_set (hbA.mono (by omega)) hr _ _) hr _ _⟩
  have hz : z.fresh.wr = z.wr := rfl
  rw [hz]
  exact h2.up (fun k _ _ hn => hb1 k hn) fun cs e => by rw [h1] at e; injection e with e; injection e with e1 e2; exact absurd e2 (by decide)
theorem ODi.s_ps {w w' : World} {K lo i1 i2 i3 i4 i5 hi b o H : Nat} {d : Dz} {x : DeV} (h : ODi w K lo i1 i2 i3 i4 i5 hi b o d x) (hA : Ap H lo hi b) {l : List Pr} (hf : Fr H (Foot lo i1 0 0 0) w w') (hl : OSg 6 (OPm w' K) lo i1 x.pa x.pn x.pc l) : ODi w' K lo i1 i2 i3 i4 i5 hi b o { d with ps := l } x ∧ Fr H (Foot lo hi b o 22) w w' := by
  obtain ⟨l1, l2, l3, l4, l5, l6⟩ := h.le
  have hb := hA.b1
  have hh := hA.h1
  have ho := hA.o1
  refine ⟨⟨fun j v hv => ?_, (hf.cell b _ hb fun hk => by rcases hk with ⟨g1, g2⟩ | ⟨g1, g2, g3⟩ <;> omega).trans h.place, hl, h.ty.fr hf (by omega) fun k j k1 k2 hk => by rcases hk with ⟨g1, g2⟩ | ⟨g1, g2, g3⟩ <;> omega, h.req.fr hf (by omega) fun k j k1 k2 hk => by rcases hk with ⟨g1, g2⟩ | ⟨g1, g2, g3⟩ <;> omega, h.ens.fr hf (by omega) fun k j k1 k2 hk => by rcases hk with ⟨g1, g2⟩ | ⟨g1, g2, g3⟩ <;> omega, h.mea.fr hf (by omega) fun k j k1 k2 hk => by rcases hk with ⟨g1, g2⟩ | ⟨g1, g2, g3⟩ <;> omega, h.body.fr hf hb hh (fun j k1 k2 hk => by rcases hk with ⟨g1, g2⟩ | ⟨g1, g2, g3⟩ <;> omega) fun k j k1 k2 hk => by rcases hk with ⟨g1, g2⟩ | ⟨g1, g2, g3⟩ <;> omega⟩, hf.mono fun k j hk => ?_⟩
  · have hj : j < 14 := (List.getElem?_eq_some_iff.1 hv).1
    refine (hf.cell b (o + j) hb fun hk => by rcases hk with ⟨g1, g2⟩ | ⟨g1, g2, g3⟩ <;> omega).trans (h.cells j v hv)
  · rcases hk with ⟨g1, g2⟩ | ⟨g1, g2, g3⟩
    · exact .inl ⟨by omega, by omega⟩
    · first | exact .inr ⟨g1, by omega, by omega⟩ | omega
theorem ODi.s_ty {w w' : World} {K lo i1 i2 i3 i4 i5 hi b o H : Nat} {d : Dz} {x : DeV} (h : ODi w K lo i1 i2 i3 i4 i5 hi b o d x) (hA : Ap H lo hi b) {l : List Er} (hf : Fr H (Foot i1 i2 0 0 0) w w') (hl : OSp (OE w' K) i1 i2 x.ta x.tn x.tc l) : ODi w' K lo i1 i2 i3 i4 i5 hi b o { d with t := d.t.setR l } x ∧ Fr H (Foot lo hi b o 22) w w' := by
  obtain ⟨l1, l2, l3, l4, l5, l6⟩ := h.le
  have hb := hA.b1
  have hh := hA.h1
  have ho := hA.o1
  refine ⟨⟨fun j v hv => ?_, (hf.cell b _ hb fun hk => by rcases hk with ⟨g1, g2⟩ | ⟨g1, g2, g3⟩ <;> omega).trans h.place, OPs.fr h.ps hf (by omega) fun k j k1 k2 hk => by rcases hk with ⟨g1, g2⟩ | ⟨g1, g2, g3⟩ <;> omega, hl, h.req.fr hf (by omega) fun k j k1 k2 hk => by rcases hk with ⟨g1, g2⟩ | ⟨g1, g2, g3⟩ <;> omega, h.ens.fr hf (by omega) fun k j k1 k2 hk => by rcases hk with ⟨g1, g2⟩ | ⟨g1, g2, g3⟩ <;> omega, h.mea.fr hf (by omega) fun k j k1 k2 hk => by rcases hk with ⟨g1, g2⟩ | ⟨g1, g2, g3⟩ <;> omega, h.body.fr hf hb hh (fun j k1 k2 hk => by rcases hk with ⟨g1, g2⟩ | ⟨g1, g2, g3⟩ <;> omega) fun k j k1 k2 hk => by rcases hk with ⟨g1, g2⟩ | ⟨g1, g2, g3⟩ <;> omega⟩, hf.mono fun k j hk => ?_⟩
  · have hj : j < 14 := (List.getElem?_eq_some_iff.1 hv).1
    refine (hf.cell b (o + j) hb fun hk => by rcases hk with ⟨g1, g2⟩ | ⟨g1, g2, g3⟩ <;> omega).trans (h.cells j v hv)
  · rcases hk with ⟨g1, g2⟩ | ⟨g1, g2, g3⟩
    · exact .inl ⟨by omega, by omega⟩
    · first | exact .inr ⟨g1, by omega, by omega⟩ | omega
theorem ODi.s_req {w w' : World} {K lo i1 i2 i3 i4 i5 hi b o H : Nat} {d : Dz} {x : DeV} (h : ODi w K lo i1 i2 i3 i4 i5 hi b o d x) (hA : Ap H lo hi b) {l : List Er} (hf : Fr H (Foot i2 i3 0 0 0) w w') (hl : OSp (OE w' K) i2 i3 x.ra x.rn x.rc l) : ODi w' K lo i1 i2 i3 i4 i5 hi b o { d with req := l } x ∧ Fr H (Foot lo hi b o 22) w w' := by
  obtain ⟨l1, l2, l3, l4, l5, l6⟩ := h.le
  have hb := hA.b1
  have hh := hA.h1
  have ho := hA.o1
  refine ⟨⟨fun j v hv => ?_, (hf.cell b _ hb fun hk => by rcases hk with ⟨g1, g2⟩ | ⟨g1, g2, g3⟩ <;> omega).trans h.place, OPs.fr h.ps hf (by omega) fun k j k1 k2 hk => by rcases hk with ⟨g1, g2⟩ | ⟨g1, g2, g3⟩ <;> omega, h.ty.fr hf (by omega) fun k j k1 k2 hk => by rcases hk with ⟨g1, g2⟩ | ⟨g1, g2, g3⟩ <;> omega, hl, h.ens.fr hf (by omega) fun k j k1 k2 hk => by rcases hk with ⟨g1, g2⟩ | ⟨g1, g2, g3⟩ <;> omega, h.mea.fr hf (by omega) fun k j k1 k2 hk => by rcases hk with ⟨g1, g2⟩ | ⟨g1, g2, g3⟩ <;> omega, h.body.fr hf hb hh (fun j k1 k2 hk => by rcases hk with ⟨g1, g2⟩ | ⟨g1, g2, g3⟩ <;> omega) fun k j k1 k2 hk => by rcases hk with ⟨g1, g2⟩ | ⟨g1, g2, g3⟩ <;> omega⟩, hf.mono fun k j hk => ?_⟩
  · have hj : j < 14 := (List.getElem?_eq_some_iff.1 hv).1
    refine (hf.cell b (o + j) hb fun hk => by rcases hk with ⟨g1, g2⟩ | ⟨g1, g2, g3⟩ <;> omega).trans (h.cells j v hv)
  · rcases hk with ⟨g1, g2⟩ | ⟨g1, g2, g3⟩
    · exact .inl ⟨by omega, by omega⟩
    · first | exact .inr ⟨g1, by omega, by omega⟩ | omega
theorem ODi.s_ens {w w' : World} {K lo i1 i2 i3 i4 i5 hi b o H : Nat} {d : Dz} {x : DeV} (h : ODi w K lo i1 i2 i3 i4 i5 hi b o d x) (hA : Ap H lo hi b) {l : List Er} (hf : Fr H (Foot i3 i4 0 0 0) w w') (hl : OSp (OE w' K) i3 i4 x.ea x.en x.ec l) : ODi w' K lo i1 i2 i3 i4 i5 hi b o { d with ens := l } x ∧ Fr H (Foot lo hi b o 22) w w' := by
  obtain ⟨l1, l2, l3, l4, l5, l6⟩ := h.le
  have hb := hA.b1
  have hh := hA.h1
  have ho := hA.o1
  refine ⟨⟨fun j v hv => ?_, (hf.cell b _ hb fun hk => by rcases hk with ⟨g1, g2⟩ | ⟨g1, g2, g3⟩ <;> omega).trans h.place, OPs.fr h.ps hf (by omega) fun k j k1 k2 hk => by rcases hk with ⟨g1, g2⟩ | ⟨g1, g2, g3⟩ <;> omega, h.ty.fr hf (by omega) fun k j k1 k2 hk => by rcases hk with ⟨g1, g2⟩ | ⟨g1, g2, g3⟩ <;> omega, h.req.fr hf (by omega) fun k j k1 k2 hk => by rcases hk with ⟨g1, g2⟩ | ⟨g1, g2, g3⟩ <;> omega, hl, h.mea.fr hf (by omega) fun k j k1 k2 hk => by rcases hk with ⟨g1, g2⟩ | ⟨g1, g2, g3⟩ <;> omega, h.body.fr hf hb hh (fun j k1 k2 hk => by rcases hk with ⟨g1, g2⟩ | ⟨g1, g2, g3⟩ <;> omega) fun k j k1 k2 hk => by rcases hk with ⟨g1, g2⟩ | ⟨g1, g2, g3⟩ <;> omega⟩, hf.mono fun k j hk => ?_⟩
  · have hj : j < 14 := (List.getElem?_eq_some_iff.1 hv).1
    refine (hf.cell b (o + j) hb fun hk => by rcases hk with ⟨g1, g2⟩ | ⟨g1, g2, g3⟩ <;> omega).trans (h.cells j v hv)
  · rcases hk with ⟨g1, g2⟩ | ⟨g1, g2, g3⟩
    · exact .inl ⟨by omega, by omega⟩
    · first | exact .inr ⟨g1, by omega, by omega⟩ | omega
theorem ODi.s_mea {w w' : World} {K lo i1 i2 i3 i4 i5 hi b o H : Nat} {d : Dz} {x : DeV} (h : ODi w K lo i1 i2 i3 i4 i5 hi b o d x) (hA : Ap H lo hi b) {l : List Er} (hf : Fr H (Foot i4 i5 0 0 0) w w') (hl : OSp (OE w' K) i4 i5 x.ma x.mn x.mc l) : ODi w' K lo i1 i2 i3 i4 i5 hi b o { d with mea := l } x ∧ Fr H (Foot lo hi b o 22) w w' := by
  obtain ⟨l1, l2, l3, l4, l5, l6⟩ := h.le
  have hb := hA.b1
  have hh := hA.h1
  have ho := hA.o1
  refine ⟨⟨fun j v hv => ?_, (hf.cell b _ hb fun hk => by rcases hk with ⟨g1, g2⟩ | ⟨g1, g2, g3⟩ <;> omega).trans h.place, OPs.fr h.ps hf (by omega) fun k j k1 k2 hk => by rcases hk with ⟨g1, g2⟩ | ⟨g1, g2, g3⟩ <;> omega, h.ty.fr hf (by omega) fun k j k1 k2 hk => by rcases hk with ⟨g1, g2⟩ | ⟨g1, g2, g3⟩ <;> omega, h.req.fr hf (by omega) fun k j k1 k2 hk => by rcases hk with ⟨g1, g2⟩ | ⟨g1, g2, g3⟩ <;> omega, h.ens.fr hf (by omega) fun k j k1 k2 hk => by rcases hk with ⟨g1, g2⟩ | ⟨g1, g2, g3⟩ <;> omega, hl, h.body.fr hf hb hh (fun j k1 k2 hk => by rcases hk with ⟨g1, g2⟩ | ⟨g1, g2, g3⟩ <;> omega) fun k j k1 k2 hk => by rcases hk with ⟨g1, g2⟩ | ⟨g1, g2, g3⟩ <;> omega⟩, hf.mono fun k j hk => ?_⟩
  · have hj : j < 14 := (List.getElem?_eq_some_iff.1 hv).1
    refine (hf.cell b (o + j) hb fun hk => by rcases hk with ⟨g1, g2⟩ | ⟨g1, g2, g3⟩ <;> omega).trans (h.cells j v hv)
  · rcases hk with ⟨g1, g2⟩ | ⟨g1, g2, g3⟩
    · exact .inl ⟨by omega, by omega⟩
    · first | exact .inr ⟨g1, by omega, by omega⟩ | omega
theorem ODi.s_body {w w' : World} {K lo i1 i2 i3 i4 i5 hi b o H : Nat} {d : Dz} {x : DeV} (h : ODi w K lo i1 i2 i3 i4 i5 hi b o d x) (hA : Ap H lo hi b) {l : Er} (hf : Fr H (Foot i5 hi b (o + 14) 7) w w') (hl : OE w' (K + 1) i5 hi b (o + 14) l) : ODi w' K lo i1 i2 i3 i4 i5 hi b o { d with body := l } x ∧ Fr H (Foot lo hi b o 22) w w' := by
  obtain ⟨l1, l2, l3, l4, l5, l6⟩ := h.le
  have hb := hA.b1
  have hh := hA.h1
  have ho := hA.o1
  refine ⟨⟨fun j v hv => ?_, (hf.cell b _ hb fun hk => by rcases hk with ⟨g1, g2⟩ | ⟨g1, g2, g3⟩ <;> omega).trans h.place, OPs.fr h.ps hf (by omega) fun k j k1 k2 hk => by rcases hk with ⟨g1, g2⟩ | ⟨g1, g2, g3⟩ <;> omega, h.ty.fr hf (by omega) fun k j k1 k2 hk => by rcases hk with ⟨g1, g2⟩ | ⟨g1, g2, g3⟩ <;> omega, h.req.fr hf (by omega) fun k j k1 k2 hk => by rcases hk with ⟨g1, g2⟩ | ⟨g1, g2, g3⟩ <;> omega, h.ens.fr hf (by omega) fun k j k1 k2 hk => by rcases hk with ⟨g1, g2⟩ | ⟨g1, g2, g3⟩ <;> omega, h.mea.fr hf (by omega) fun k j k1 k2 hk => by rcases hk with ⟨g1, g2⟩ | ⟨g1, g2, g3⟩ <;> omega, hl⟩, hf.mono fun k j hk => ?_⟩
  · have hj : j < 14 := (List.getElem?_eq_some_iff.1 hv).1
    refine (hf.cell b (o + j) hb fun hk => by rcases hk with ⟨g1, g2⟩ | ⟨g1, g2, g3⟩ <;> omega).trans (h.cells j v hv)
  · rcases hk with ⟨g1, g2⟩ | ⟨g1, g2, g3⟩
    · exact .inl ⟨by omega, by omega⟩
    · first | exact .inr ⟨g1, by omega, by omega⟩ | omega
end Go.Proofs.YtljhpbjngbbjbaaDoor
