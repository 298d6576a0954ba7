/- Package rup: take. -/
import Derived.Test.YtmkkhpoedlbafaaQI
set_option linter.unusedVariables false
set_option linter.unusedSimpArgs false

/- Package rup: visit. -/
namespace Go.Proofs.Ytmkkhpoedlbafaa
open Go Go.RowKit
theorem res_t {W : World} {fn : Func} {a : Act} {s : Nat} {u : Value} (hf : fn.results = #[.tmp s]) (hs : a.tmps[s]? = some u) : (results fn a.tmps).run Try.prog W = .ok u W := by
  simp [results, hf, hs, go_sem]
/-- A list of watches that is nil is laid again. -/
theorem Ck.sameWatch {w0 w : World} {B r : Nat} {ρ : Nat → Nat × Nat} {q : Mv} {k : KS} {tr : List Int} (h : Ck w0 w B r ρ q k tr) {x gW nW capW : Nat} (hc : k.ws[x]? = some []) (hl : q.wv[x]? = some (.slice none 0 0)) (hv : q.vW = .slice (some ⟨gW, 0, none⟩) nW capW) (hnW : nW = k.ws.length) : Ck w0 (w.setCell ⟨gW, x, none⟩ (.slice none 0 0)) B r ρ q k tr := by
  subst hnW
  have hrt := h.rw_
  rw [hv] at hrt
  have hg : ρ gW = (3, 0) := hrt.2 gW rfl
  have hB : B ≤ gW := (hrt.1.lt gW rfl).1
  obtain ⟨n1, n2⟩ := h.ne hg (by simp) (by simp)
  have c' := @Rw.carry w _ B ρ ρ (fun z => z = (3, 0)) (frame_set (w := w) (p := ⟨gW, x, none⟩) (u := .slice none 0 0) hg)
  have hnew := hrt.set x (.slice none 0 0)
  have hsm : q.wv.set x (.slice none 0 0) = q.wv := by
    apply List.ext_getElem?
    intro i
    rw [List.getElem?_set]
    by_cases e : x = i
    · subst e; rw [if_pos rfl, if_pos (List.getElem?_eq_some_iff.1 hl).1]; exact hl.symm
    · simp [e]
  rw [hsm, ← hv] at hnew
  exact ⟨(Below.heap_setCell w _ _ _ n1).trans h.blk, h.rB, h.rr, h.mp.step (Below.heap_setCell w _ _ _ n2), h.mB, h.mr, c' h.rc (by simp), h.ll, fun i v d h1 h2 => c' (h.rl i v d h1 h2) (by simp), hnew, fun x2 v l2 h1 h2 => c' (h.rx x2 v l2 h1 h2) (by simp), c' h.rt (by simp), c' h.rT (by simp), h.bl.setCell hB _⟩
set_option maxRecDepth 100000 in
set_option maxHeartbeats 64000000 in
theorem visit_some (w0 w : World) (B r : Nat) (ρ : Nat → Nat × Nat) (q : Mv) (k : KS) (x : Nat) (L M : List (List Int)) (S0 : Int → Prop) (n h gX capX : Nat) (l0 : List Nat)
    (hC : Ck w0 w B r ρ q k (trs (2 * k.pl.length) k.trail)) (hS : Str L M S0 n k.pl k.cs k.ws k.trail) (hW : AllW k h) (hx : k.trail[h]? = some (op x)) (nh : n ≤ h) (hl : k.ws[x]? = some l0) (hvX : q.wv[x]? = some (.slice (some ⟨gX, 0, none⟩) l0.length capX)) (hP : k.pl.length ≤ 1000000000) (hcs : k.cs.length ≤ 1000000000) :
    Calls Try.prog 31 #[.pointer (some ⟨r, 0, none⟩), .int .i64 x] w (VPost w0 B r k L M S0 n h) := by
  have c2 := hC.cells.2.2.1
  have hxl : x < k.ws.length := (List.getElem?_eq_some_iff.1 hl).1
  have hrw := hC.rw_
  obtain ⟨gW, capW, hvW, y1, y2, hBW, hltW, hrW⟩ := hrw.open (by omega)
  rw [hvW] at c2 hrw
  obtain ⟨cX, fX⟩ := hrw.cell hvX
  have i1 : (0 : Int) ≤ (x : Int) := by omega
  have i2 : (x : Int) < (k.ws.length : Int) := by omega
  have HV : Hid (VR w0 w B r k L M S0 n h x l0 (.slice (some ⟨gX, 0, none⟩) l0.length capX) 0 0 k ρ q [] l0) := ⟨hC, Lk.refl k, hl, hvX, rfl, rfl, rfl, Nat.le_refl _, rfl, by rw [List.drop_zero]; exact Vs.start hS hW hx nh hl⟩
  have hlen : l0.length ≤ k.cs.length := hS.wlen hl
  obtain ⟨n0, hn0⟩ : ∃ n0, l0.length = n0 := ⟨_, rfl⟩
  have HN := hide hn0
  rw [hn0] at cX hlen
  have HB : Hid (n0 ≤ 1000000000) := by show _ ≤ _; omega
  have HP := hide hP
  have HCS := hide hcs
  clear hrw hBW hltW hrW y1 y2 hvW hS hW hx hl hvX hn0 hC fX hP hcs hlen nh hxl
  go_enter Try.func31, Try.ntmps31
  go_wp2
  go_step3
  go_wp2
  go_step3
  go_wp2
  change Code.wp Try.prog (.loop (vBody Try.f31)) _ _ _
  refine wp_loop (VI w0 B r k L M S0 n h x l0 gX n0 capX) (fun a w => n0 - (intOf (a.tmps.getD 20 undef)).toNat) ?_ (fun a' w' hI => round_any hI (unhide HN) (unhide HB) (unhide HP) (unhide HCS) ?_ ?_)
  · exact ⟨0, 0, k, ρ, q, [], l0, ⟨rfl, rfl, rfl, rfl, rfl, rfl, rfl, rfl, rfl⟩, Nat.zero_le _, unhide HV⟩
  · intro a' w' kept k' ρ' q' K P hs hv
    obtain ⟨u, rfl⟩ := hs.lit
    clear hs c2 cX HV
    have d2 := hv.ck.cells.2.2.1
    have hxl' : x < k'.ws.length := (List.getElem?_eq_some_iff.1 hv.hP).1
    have hrw := hv.ck.rw_
    obtain ⟨gV, capV, hvV, y1, y2, hBV, hltV, hrV⟩ := hrw.open (by omega)
    rw [hvV] at d2 hrw
    obtain ⟨eX, fX⟩ := hrw.cell hv.hv
    have hki : kept ≤ n0 := hv.ki
    have hcap : n0 ≤ capX := by
      obtain ⟨_, _, hf, h1, _⟩ := (hv.ck.rx x _ _ hv.hv hv.hP).form
      simp only [Value.slice.injEq] at hf
      rw [← unhide HN, ← hv.pl]
      omega
    have hnb := unhide HB
    have j1 : (0 : Int) ≤ (kept : Int) := by omega
    have j2 : (kept : Int) ≤ (capX : Int) := by omega
    have j3 : (x : Int) < (k'.ws.length : Int) := by omega
    have j4 : (kept : Int) ≤ 1000000000 := by omega
    have HH := hide hv
    have HVV := hide hvV
    have HKI := hide hki
    clear hrw hBV hltV hrV y1 y2 hvV hv hki hxl' hcap hnb i2
    go_wp2
    refine wp_region_noPanic ?_
    go_region
    refine NoPanic.normal ?_
    go_wp2
    try rw [Exit.noGoto_ret]
    go_ret
    have hv := unhide HH
    have hc := hv.ck.cutWatch (m := kept) hv.hP hv.hv (by rw [hv.pl]) (unhide HVV) rfl (by rw [unhide HN]; exact unhide HKI)
    have hvs := hv.vs
    rw [← unhide HN, List.drop_length] at hvs
    obtain ⟨s1, s2⟩ := hvs.done
    rw [hv.pk] at hc
    exact ⟨true, _, _, _, rfl, hc.drew, hv.lk.upd_ws _, s1, fun _ => s2, fun e => by cases e⟩
  · rintro a' w' h1 h2 ⟨k2, ρ2, q2, h3, h4, h5⟩ h6
    have hres := res_t (W := w') (fn := Try.f31) (a := a') rfl h2
    exact bodyPost_ret hres h1 ⟨false, k2, ρ2, q2, rfl, h3, h4, h5, fun e => (by cases e), fun _ => h6⟩
set_option maxRecDepth 100000 in
set_option maxHeartbeats 64000000 in
theorem visit_nil (w0 w : World) (B r : Nat) (ρ : Nat → Nat × Nat) (q : Mv) (k : KS) (x : Nat) (L M : List (List Int)) (S0 : Int → Prop) (n h : Nat)
    (hC : Ck w0 w B r ρ q k (trs (2 * k.pl.length) k.trail)) (hS : Str L M S0 n k.pl k.cs k.ws k.trail) (hW : AllW k h) (hx : k.trail[h]? = some (op x)) (nh : n ≤ h) (hl : k.ws[x]? = some []) (hvX : q.wv[x]? = some (.slice none 0 0)) :
    Calls Try.prog 31 #[.pointer (some ⟨r, 0, none⟩), .int .i64 x] w (VPost w0 B r k L M S0 n h) := by
  have c2 := hC.cells.2.2.1
  have hxl : x < k.ws.length := (List.getElem?_eq_some_iff.1 hl).1
  have hrw := hC.rw_
  obtain ⟨gW, capW, hvW, y1, y2, hBW, hltW, hrW⟩ := hrw.open (by omega)
  rw [hvW] at c2 hrw
  obtain ⟨cX, fX⟩ := hrw.cell hvX
  have i1 : (0 : Int) ≤ (x : Int) := by omega
  have i2 : (x : Int) < (k.ws.length : Int) := by omega
  have hne' : r ≠ gW := (hC.ne hrW (by simp) (by simp)).1
  have hne := Ne.symm hne'
  have hvs := (Vs.start hS hW hx nh hl).done
  rw [set_same hl] at hvs
  have HS := hide hvs
  have Hc := hide (hC.sameWatch hl hvX hvW rfl).drew
  clear hrw hBW hltW hrW y1 y2 hvW hS hW hx hl hvX hC nh hxl hvs
  go_enter Try.func31, Try.ntmps31
  go_wp2
  go_step3
  go_wp2
  go_step3
  go_wp2
  refine wp_loop (fun a' w' => a' = _ ∧ w' = w) (fun _ _ => 0) ⟨rfl, rfl⟩ ?_
  rintro a' w' ⟨rfl, rfl⟩
  go_wp2
  refine wp_region_noPanic ?_
  go_region
  refine NoPanic.normal ?_
  go_wp2
  try rw [Exit.noGoto_ret]
  go_ret
  exact ⟨true, _, _, _, rfl, unhide Hc, Lk.refl k, (unhide HS).1, fun _ => (unhide HS).2, fun e => by cases e⟩
theorem visit_any (w0 w : World) (B r : Nat) (ρ : Nat → Nat × Nat) (q : Mv) (k : KS) (x : Nat) (L M : List (List Int)) (S0 : Int → Prop) (n h : Nat)
    (hC : Ck w0 w B r ρ q k (trs (2 * k.pl.length) k.trail)) (hS : Str L M S0 n k.pl k.cs k.ws k.trail) (hW : AllW k h) (hx : k.trail[h]? = some (op x)) (nh : n ≤ h) (hP : k.pl.length ≤ 1000000000) (hcs : k.cs.length ≤ 1000000000) :
    Calls Try.prog 31 #[.pointer (some ⟨r, 0, none⟩), .int .i64 x] w (VPost w0 B r k L M S0 n h) := by
  have hxl : x < k.ws.length := by
    rw [hS.wl]
    have := op_lt (hS.tlt _ (List.mem_of_getElem? hx))
    rwa [op_op] at this
  obtain ⟨l0, hl⟩ : ∃ l0, k.ws[x]? = some l0 := ⟨_, List.getElem?_eq_getElem hxl⟩
  obtain ⟨v, hv⟩ : ∃ v, q.wv[x]? = some v := ⟨q.wv[x]'(by rw [hC.wvl]; exact hxl), List.getElem?_eq_getElem _⟩
  have hrow := hC.rx x v l0 hv hl
  rcases hrow.1.2 with ⟨rfl, h0⟩ | ⟨g, cap, cur, rfl, _⟩
  · have : l0 = [] := List.eq_nil_of_length_eq_zero h0
    subst this
    exact visit_nil w0 w B r ρ q k x L M S0 n h hC hS hW hx nh hl hv
  · exact visit_some w0 w B r ρ q k x L M S0 n h g cap l0 hC hS hW hx nh hl hv hP hcs
end Go.Proofs.Ytmkkhpoedlbafaa

/- Package rup: propagate. -/
namespace Go.Proofs.Ytmkkhpoedlbafaa
open Go Go.RowKit
/-- The checker behind a propagation: clauses, watches, trail and head aside it is as it was. -/
structure Lp (k k' : KS) : Prop where
  pl : k'.pl = k.pl
  em : k'.empty = k.empty
  re : k'.refuted = k.refuted
  cs : k'.cs.length = k.cs.length
  tr : ∃ t, k'.trail = k.trail ++ t
theorem Lp.refl (k : KS) : Lp k k := ⟨rfl, rfl, rfl, rfl, [], by simp⟩
theorem Lp.lk {k k1 k2 : KS} {hd : Nat} (h : Lp k k1) (h2 : Lk { k1 with head := hd } k2) : Lp k k2 := by
  refine ⟨h2.pl.trans h.pl, h2.em.trans h.em, h2.re.trans h.re, h2.cs.trans h.cs, ?_⟩
  obtain ⟨t1, e1⟩ := h.tr
  obtain ⟨t2, e2⟩ := h2.tr
  exact ⟨t1 ++ t2, by rw [e2, ← List.append_assoc, ← e1]⟩
/-- In the midst of the propagation. -/
structure PR (w0 w : World) (B r : Nat) (k : KS) (L M : List (List Int)) (S0 : Int → Prop) (n : Nat) (k' : KS) (ρ' : Nat → Nat × Nat) (q' : Mv) : Prop where
  ck : Ck w0 w B r ρ' q' k' (trs (2 * k'.pl.length) k'.trail)
  lp : Lp k k'
  st : Str L M S0 n k'.pl k'.cs k'.ws k'.trail
  aw : AllW k' k'.head
  nh : n ≤ k'.head
  hl : k'.head ≤ k'.trail.length
def PPost (w0 : World) (B r : Nat) (k : KS) (L M : List (List Int)) (S0 : Int → Prop) (n : Nat) (e : Ending) (w' : World) : Prop := ∃ b k' ρ' q', e = .returned (.bool b) ∧ Ck w0 w' B r ρ' q' k' (trs (2 * k'.pl.length) k'.trail) ∧ Lp k k' ∧ Str L M S0 n k'.pl k'.cs k'.ws k'.trail ∧ (b = true → AllW k' k'.trail.length ∧ k'.head = k'.trail.length) ∧ (b = false → Clash L S0)
def hdOf (w : World) (r : Nat) : Nat := (intOf ((w.cell? ⟨r, 5, none⟩).getD undef)).toNat
theorem Ck.hdOf {w0 w : World} {B r : Nat} {ρ : Nat → Nat × Nat} {q : Mv} {k : KS} {tr : List Int} (h : Ck w0 w B r ρ q k tr) : hdOf w r = k.head := by
  unfold Go.Proofs.Ytmkkhpoedlbafaa.hdOf
  rw [h.cells.2.2.2.2.2.1]
  simp [intOf]
set_option maxRecDepth 100000 in
set_option maxHeartbeats 64000000 in
theorem propagate_any (w0 w : World) (B r : Nat) (ρ : Nat → Nat × Nat) (q : Mv) (k : KS) (L M : List (List Int)) (S0 : Int → Prop) (n : Nat) (h0 : PR w0 w B r k L M S0 n k ρ q) (hP : k.pl.length ≤ 1000000000) (hcs : k.cs.length ≤ 1000000000) :
    Calls Try.prog 25 #[.pointer (some ⟨r, 0, none⟩)] w (PPost w0 B r k L M S0 n) := by
  have H0 := hide h0
  have HP := hide hP
  have HCS := hide hcs
  clear h0 hP hcs
  go_enter Try.func25, Try.ntmps25
  go_wp2
  go_loopw [] (fun w' => ∃ k' ρ' q', PR w0 w' B r k L M S0 n k' ρ' q') (fun w' => 2 * k.pl.length - hdOf w' r)
  case atStart => exact ⟨k, ρ, q, unhide H0⟩
  case round =>
    obtain ⟨k', ρ', q', hv⟩ := hrel
    clear H0
    have hpl := hv.lp.pl
    have hlen := hv.st.len
    have hhl := hv.hl
    have hPP := unhide HP
    have hCC := unhide HCS
    obtain ⟨z0, z1, z2, z3, d4, d5, z6, z7, df⟩ := hv.ck.cells
    have f5 := df 5
    clear z0 z1 z2 z3 z6 z7 df
    obtain ⟨nT, hnT⟩ : ∃ nT, k'.trail.length = nT := ⟨_, rfl⟩
    obtain ⟨hd, hhd⟩ : ∃ hd, k'.head = hd := ⟨_, rfl⟩
    rw [hpl, hnT] at hlen
    rw [hnT, hhd] at hhl
    rw [hhd] at d5
    by_cases hlt : hd < nT
    · obtain ⟨gL, capL, hvL, y1, y2, hBL, hltL, hrL⟩ := hv.ck.rT.open (by omega)
      have hrT := hv.ck.rT
      rw [hvL] at d4 hrT
      rw [hnT] at d4
      have hlt2 : hd < k'.trail.length := by omega
      obtain ⟨z, hz⟩ : ∃ z, k'.trail[hd]? = some z := ⟨_, List.getElem?_eq_getElem hlt2⟩
      have cZ := (hrT.cell (j := hd) (u := .int .i64 z) (by rw [List.getElem?_map, hz]; rfl)).1
      have hzl := hv.st.tlt z (List.mem_of_getElem? hz)
      have hzb : z < 4611686018427387904 := by rw [hpl] at hzl; omega
      have p1 : (0 : Int) ≤ (hd : Int) := by omega
      have p2 : (hd : Int) < (nT : Int) := by omega
      have p3 : (hd : Int) ≤ 2000000000 := by omega
      have hck1 := (hv.ck.setHead (hd + 1)).drew.drew
      rw [Int.natCast_add, Int.natCast_one] at hck1
      have HV1 := hide (fun (hh : AllW { k' with head := hd + 1 } hd) => visit_any w0 _ B r ρ' q' { k' with head := hd + 1 } (op z) L M S0 n hd hck1 hv.st hh (by rw [op_op]; exact hz) (by have := hv.nh; omega) (by show k'.pl.length ≤ _; rw [hpl]; exact hPP) (by show k'.cs.length ≤ _; rw [hv.lp.cs]; exact hCC))
      have HAW := hide hv.aw
      have HH := hide hv
      have HHD := hide hhd
      have HNT := hide hnT
      have HLT : Hid (hd < nT ∧ nT ≤ 2 * k.pl.length) := ⟨hlt, hlen⟩
      clear hv hpl hlen hPP hCC hnT hhd hvL y1 y2 hBL hltL hrL hrT hlt2 hz hzl hck1 hhl HP HCS
      go_wp2
      go_region
      go_wp2
      refine wp_region_noPanic ?_
      go_region_held3 (fun w' => w'.cell? ⟨r, 4, none⟩ = some (.slice (some ⟨gL, 0, none⟩) nT capL) ∧ w'.cell? ⟨r, 5, none⟩ = some (.int .i64 hd) ∧ w'.cell? ⟨gL, hd, none⟩ = some (.int .i64 z)) (go_keep) (first | (go_at_call 26; refine (opposite_any z _ (by assumption)).mono ?_; rintro e w' ⟨rfl, rfl⟩))
      refine NoPanic.normal ?_
      rename_i hHeld
      clear hHeld
      go_wp2_with (go_at_call 31; refine (unhide HV1 (by rw [← unhide HHD]; exact unhide HAW)).mono ?_; intro e w3 h3; obtain ⟨b, k3, ρ3, q3, rfl, h3⟩ := h3; have H3 := hide h3; clear h3)
      · go_ret
        obtain ⟨h31, h32, h33, h34, h35⟩ := unhide H3
        exact ⟨false, k3, ρ3, q3, rfl, h31, (unhide HH).lp.lk h32, h33, fun e => (by cases e), fun _ => h35 (by first | rfl | assumption | simp_all)⟩
      · obtain ⟨h31, h32, h33, h34, h35⟩ := unhide H3
        have haw := h34 (by first | rfl | assumption | simp_all)
        have e1 : k3.head = hd + 1 := h32.hd
        obtain ⟨t3, ht3⟩ := h32.tr
        have e2 : hd < k3.trail.length := by
          have h1 : hd < k'.trail.length := by rw [← unhide HHD]; have := (unhide HH).hl; have := unhide HLT; have h5 := (unhide HNT); have h6 := unhide HHD; omega
          rw [ht3, List.length_append]
          show hd < k'.trail.length + t3.length
          omega
        refine ⟨⟨k3, ρ3, q3, ⟨h31, (unhide HH).lp.lk h32, h33, by rw [e1]; exact haw, ?_, by omega⟩⟩, ?_⟩
        · have := (unhide HH).nh
          have := unhide HHD
          omega
        · rw [h31.hdOf, (unhide HH).ck.hdOf, e1, unhide HHD]
          have := unhide HLT
          omega
    · have hf : decide ((hd : Int) < (nT : Int)) = false := by simp; omega
      have hle : (nT : Int) ≤ (hd : Int) := by omega
      have hnl : ¬ ((hd : Int) < (nT : Int)) := by omega
      have hck1 := hv.ck.drew
      have HH := hide hv
      have Hck := hide hck1
      have HE : Hid (k'.head = k'.trail.length) := by show _ = _; omega
      obtain ⟨av, capv, hav, y1, y2⟩ := hv.ck.rT.form
      rw [hav, hnT] at d4
      clear hv hpl hlen hPP hCC hnT hhd hlt hck1 hhl HP HCS hav y1 y2 f5
      go_wp2
      go_region
      go_wp2
      go_ret
      have hv := unhide HH
      exact ⟨true, k', ρ', q', rfl, unhide Hck, hv.lp, hv.st, fun _ => ⟨by rw [← unhide HE]; exact hv.aw, unhide HE⟩, fun e => by cases e⟩
end Go.Proofs.Ytmkkhpoedlbafaa

namespace Go.Proofs.Ytmkkhpoedlbafaa
open Go Go.RowKit
/-- The opposites of the first i of xs are true. -/
structure TR (w0 w : World) (B r : Nat) (k : KS) (xs : List Int) (L M : List (List Int)) (n i : Nat) (k' : KS) (ρ' : Nat → Nat × Nat) (q' : Mv) : Prop where
  ck : Ck w0 w B r ρ' q' k' (trs (2 * k'.pl.length) k'.trail)
  st : Str L M (opp xs) n k'.pl k'.cs k'.ws k'.trail
  aw : AllW k' k'.head
  hd : k'.head = k.head
  em : k'.empty = k.empty
  re : k'.refuted = k.refuted
  cs : k'.cs = k.cs
  tr : ∃ t, k'.trail = k.trail ++ t
  pl : ∃ p, k'.pl = k.pl ++ p ∧ p.length ≤ i
  got : ∀ x ∈ xs.take i, ∃ y ∈ k'.trail, num k'.pl y = -x
  hh : k'.head ≤ k'.trail.length
theorem Str.bs {L M : List (List Int)} {S0 : Int → Prop} {n : Nat} {k : KS} (h : Str L M S0 n k.pl k.cs k.ws k.trail) : Bs k := ⟨h.wl, h.tlt, h.ppl⟩
/-- A number has a place from now on. -/
theorem TR.place {w0 w w2 : World} {B r : Nat} {k : KS} {xs : List Int} {L M : List (List Int)} {n i : Nat} {k' : KS} {ρ' ρ2 : Nat → Nat × Nat} {q' q2 : Mv} {a : Int} (h : TR w0 w B r k xs L M n i k' ρ' q') (ck : Ck w0 w2 B r ρ2 q2 (k'.grow a) (trs (2 * (k'.grow a).pl.length) (k'.grow a).trail)) (h0 : 0 < a) (h1 : a ≤ 9223372036854775807) (hn : a ∉ k'.pl) : Str L M (opp xs) n (k'.grow a).pl (k'.grow a).cs (k'.grow a).ws (k'.grow a).trail ∧ (∃ p, (k'.grow a).pl = k.pl ++ p ∧ p.length ≤ i + 1) ∧ ∀ x ∈ xs.take i, ∃ y ∈ k'.trail, num (k'.grow a).pl y = -x := by
  refine ⟨h.st.grow (h.st.ppl.push h0 h1 hn), ?_, fun x hx => ?_⟩
  · obtain ⟨p, e, hl⟩ := h.pl
    exact ⟨p ++ [a], by show k'.pl ++ [a] = _; rw [e, List.append_assoc], by simp; omega⟩
  · obtain ⟨y, hy, e⟩ := h.got x hx
    exact ⟨y, hy, by show num (k'.pl ++ [a]) y = _; rw [num_app (h.st.tlt y hy)]; exact e⟩
/-- Behind a take. -/
structure TQ (w0 w : World) (B r : Nat) (k : KS) (xs : List Int) (L M : List (List Int)) (n : Nat) (k' : KS) (ρ' : Nat → Nat × Nat) (q' : Mv) : Prop where
  ck : Ck w0 w B r ρ' q' k' (trs (2 * k'.pl.length) k'.trail)
  st : Str L M (opp xs) n k'.pl k'.cs k'.ws k'.trail
  aw : AllW k' k'.head
  hd : k'.head = k.head
  em : k'.empty = k.empty
  re : k'.refuted = k.refuted
  cs : k'.cs = k.cs
  tr : ∃ t, k'.trail = k.trail ++ t
  pl : ∃ p, k'.pl = k.pl ++ p ∧ p.length ≤ xs.length
  hh : k'.head ≤ k'.trail.length
def TPost (w0 : World) (B r : Nat) (k : KS) (xs : List Int) (L M : List (List Int)) (n : Nat) (e : Ending) (w' : World) : Prop := ∃ b k' ρ' q', e = .returned (.bool b) ∧ TQ w0 w' B r k xs L M n k' ρ' q' ∧ (b = true → ∀ x ∈ xs, ∃ y ∈ k'.trail, num k'.pl y = -x) ∧ (b = false → Fol L xs)
/-- One more of xs. -/
theorem TR.one {w0 w w2 : World} {B r : Nat} {k : KS} {xs : List Int} {L M : List (List Int)} {n i : Nat} {k' k1 : KS} {ρ' ρ1 : Nat → Nat × Nat} {q' q1 : Mv} {y : Nat} {x : Int} (h : TR w0 w B r k xs L M n i k' ρ' q') (hx : xs[i]? = some x) (hk : k1 = k' ∨ ∃ a, 0 < a ∧ a ≤ 9223372036854775807 ∧ a ∉ k'.pl ∧ k1 = k'.grow a) (ck : Ck w0 w2 B r ρ1 q1 k1 (trs (2 * k1.pl.length) k1.trail)) : Str L M (opp xs) n k1.pl k1.cs k1.ws k1.trail ∧ AllW k1 k1.head ∧ k1.head = k.head ∧ k1.empty = k.empty ∧ k1.refuted = k.refuted ∧ k1.cs = k.cs ∧ (∃ t, k1.trail = k.trail ++ t) ∧ (∃ p, k1.pl = k.pl ++ p ∧ p.length ≤ i + 1) ∧ (∀ x ∈ xs.take i, ∃ y ∈ k1.trail, num k1.pl y = -x) ∧ k1.head ≤ k1.trail.length := by
  rcases hk with rfl | ⟨a, h0, h1, hn, rfl⟩
  · obtain ⟨p, e, hl⟩ := h.pl
    exact ⟨h.st, h.aw, h.hd, h.em, h.re, h.cs, h.tr, ⟨p, e, by omega⟩, h.got, h.hh⟩
  · obtain ⟨s1, s2, s3⟩ := h.place ck h0 h1 hn
    exact ⟨s1, h.aw, h.hd, h.em, h.re, h.cs, h.tr, s2, s3, h.hh⟩
set_option maxRecDepth 100000 in
set_option maxHeartbeats 64000000 in
theorem take_any (w0 w : World) (B r : Nat) (ρ : Nat → Nat × Nat) (q : Mv) (k : KS) (v : Value) (xs : List Int) (L M : List (List Int)) (n : Nat) (h0 : TR w0 w B r k xs L M n 0 k ρ q) (hv : Sl w0 B v xs) (hw : Whole xs) (hP : k.pl.length + xs.length ≤ 1000000000) :
    Calls Try.prog 24 #[.pointer (some ⟨r, 0, none⟩), v] w (TPost w0 B r k xs L M n) := by
  obtain ⟨a, cap, rfl, hmax, _⟩ := hv.open
  have H0 := hide h0
  have HV := hide hv
  have HW := hide hw
  have HP := hide hP
  obtain ⟨m, hm⟩ : ∃ m, xs.length = m := ⟨_, rfl⟩
  rw [hm] at hmax ⊢
  have HM := hide hm
  have hmb : (m : Int) ≤ 1000000000 := by omega
  clear h0 hv hw hP hm
  go_enter Try.func24, Try.ntmps24
  go_wp2
  go_loopw [10] (fun iv w' => ∃ (i : Nat) (k' : KS) (ρ' : Nat → Nat × Nat) (q' : Mv), iv = .int .i64 i ∧ i ≤ m ∧ TR w0 w' B r k xs L M n i k' ρ' q') (fun iv _ => m - (intOf iv).toNat)
  case atStart => exact ⟨0, k, ρ, q, rfl, Nat.zero_le _, unhide H0⟩
  case round =>
    obtain ⟨i, k', ρ', q', rfl, him, ht⟩ := hrel
    clear H0
    by_cases hi : i < m
    · have hil : i < xs.length := by rw [unhide HM]; exact hi
      have hsl := (unhide HV).below ht.ck.bl
      obtain ⟨a2, cap2, he, _, hcell⟩ := hsl.open
      simp only [Value.slice.injEq] at he
      obtain ⟨rfl, hjunk, rfl⟩ := he
      clear hjunk
      obtain ⟨b, off, hab, hc, hb⟩ := hcell i hil
      subst hab
      obtain ⟨x, hx⟩ : ∃ x, xs[i]? = some x := ⟨_, List.getElem?_eq_getElem hil⟩
      have hxe : xs[i] = x := (List.getElem?_eq_some_iff.1 hx).2
      have hrng := (hsl.2 i hil).2
      rw [hxe] at hc hrng
      have hlit := unhide HW x (List.mem_of_getElem? hx)
      obtain ⟨p, hpe, hpl⟩ := ht.pl
      have hPl : k'.pl.length ≤ 1000000000 := by rw [hpe, List.length_append]; have := unhide HP; omega
      have HLit := hide (literal_any w0 _ B r ρ' q' k' x ht.ck ht.st.bs hlit hrng.1 hrng.2 hPl)
      have HT := hide ht
      have HX := hide hx
      have p1 : (0 : Int) ≤ (i : Int) := by omega
      have p2 : (i : Int) < (m : Int) := by omega
      have HPB : Hid (k.pl.length + xs.length ≤ 1000000000 ∧ i < xs.length) := ⟨unhide HP, hil⟩
      clear ht hsl hcell hx hxe hrng hlit hpe hpl hPl hil HP hb
      go_wp2_with (go_at_call 30; refine (unhide HLit).mono ?_; intro e w2 h2; obtain ⟨y, k1, ρ1, q1, rfl, h2⟩ := h2; have H2 := hide h2; clear h2; refine ?roundEnd)
      case roundEnd =>
        dsimp only
        obtain ⟨c1, f1, sz1, hk, hyl, hnum⟩ := unhide H2
        have hone := (unhide HT).one (y := y) (unhide HX) hk c1
        obtain ⟨s1, s2, s3, s4, s5, s6, s7, s8, s9, s10⟩ := hone
        obtain ⟨p, hpe, hpl⟩ := s8
        have hPl : k1.pl.length ≤ 1000000000 := by rw [hpe, List.length_append]; have := unhide HPB; omega
        have hyb : y < 4611686018427387904 := by omega
        obtain ⟨gT, capT, vT, rT⟩ := c1.truth (by omega)
        have d3 := c1.cells.2.2.2.1
        rw [vT] at d3
        have tY := (c1.truthAt vT (op_lt hyl)).1
        obtain ⟨NT, hNT⟩ : ∃ NT, 2 * k1.pl.length = NT := ⟨_, rfl⟩
        rw [hNT] at d3
        have hol := op_lt hyl
        have t1 : (0 : Int) ≤ (op y : Int) := by omega
        have t2 : (op y : Int) < (NT : Int) := by omega
        have hopn : num k1.pl (op y) = -x := by rw [num_op, hnum]
        have hxm : x ∈ xs := List.mem_of_getElem? (unhide HX)
        by_cases hyT : y ∈ k1.trail
        · have htv : tv k1.trail (op y) = -1 := (tv_mns s1.tcon).2 (by rw [op_op]; exact hyT)
          rw [htv] at tY
          have hfol : Fol L xs := Fol.hit (unhide HW) hxm (by rw [← hnum]; exact s1.up y hyT)
          have HR : Hid (TPost w0 B r k xs L M n (.returned (.bool false)) w2) := ⟨false, k1, ρ1, q1, rfl, ⟨c1, s1, s2, s3, s4, s5, s6, s7, ⟨p, hpe, by have := unhide HPB; omega⟩, s10⟩, fun e => (by cases e), fun _ => hfol⟩
          clear c1 f1 sz1 hk hyl hnum s1 s2 s3 s4 s5 s6 s7 s9 s10 hpe hpl hPl vT rT hNT hol hopn hxm hyT htv hfol H2 HLit HT hc
          go_wp2_with (go_at_call 26; refine (opposite_any y _ (by assumption)).mono ?_; rintro e w' ⟨rfl, rfl⟩)
          go_ret
          exact unhide HR
        · have htf : (tv k1.trail (op y) == -1) = false := by
            have h1 : ¬ tv k1.trail (op y) = -1 := fun e => hyT (by have := (tv_mns s1.tcon).1 e; rwa [op_op] at this)
            simpa using h1
          have hlen := s1.len
          have HSet := hide (set_any w0 _ B r ρ1 q1 k1 (op y) c1 hol hPl hlen)
          have HN : Hid (∀ (w3 : World) ρ3 v3, Ck w0 w3 B r ρ3 { q1 with vL := v3 } (if tv k1.trail (op y) = 0 then { k1 with trail := k1.trail ++ [op y] } else k1) (trs (2 * k1.pl.length) (if tv k1.trail (op y) = 0 then k1.trail ++ [op y] else k1.trail)) → ∃ k3 q3, TR w0 w3 B r k xs L M n (i + 1) k3 ρ3 q3) := by
            intro w3 ρ3 v3 h3
            have hgo : ∀ T : List Nat, (∀ z ∈ k1.trail, z ∈ T) → op y ∈ T → ∀ z ∈ xs.take (i + 1), ∃ y ∈ T, num k1.pl y = -z := by
              intro T hT1 hT2 z hz
              rw [List.take_add_one, unhide HX] at hz
              rcases List.mem_append.1 hz with hz | hz
              · obtain ⟨y2, hy2, e2⟩ := s9 z hz
                exact ⟨y2, hT1 _ hy2, e2⟩
              · simp only [Option.toList_some, List.mem_singleton] at hz
                subst hz
                exact ⟨op y, hT2, hopn⟩
            by_cases hz : tv k1.trail (op y) = 0
            · rw [if_pos hz, if_pos hz] at h3
              obtain ⟨z1, z2⟩ := tv_zero.1 hz
              obtain ⟨t0, ht0⟩ := s7
              exact ⟨_, _, h3, s1.set hol z1 z2 (Up.base (by show -(num k1.pl (op y)) ∈ xs; rw [hopn, Int.neg_neg]; exact hxm)), fun j c hj => (s2 j c hj).grow s10 _, s3, s4, s5, s6, ⟨t0 ++ [op y], by show k1.trail ++ [op y] = _; rw [ht0, List.append_assoc]⟩, ⟨p, hpe, by omega⟩, hgo _ (fun z hz => List.mem_append_left _ hz) (by simp), by show k1.head ≤ (k1.trail ++ [op y]).length; simp; omega⟩
            · rw [if_neg hz, if_neg hz] at h3
              have hin : op y ∈ k1.trail := by
                rcases tv_cases k1.trail (op y) with e | e | e
                · exact tv_one.1 e
                · rw [e] at htf; simp at htf
                · exact absurd e hz
              exact ⟨_, _, h3, s1, s2, s3, s4, s5, s6, s7, ⟨p, hpe, by omega⟩, hgo _ (fun z hz => hz) hin, s10⟩
          clear c1 f1 sz1 hk hyl hnum s1 s2 s3 s4 s5 s6 s7 s9 s10 hpe hpl hPl vT rT hNT hol hopn hxm hyT H2 HLit HT hc hlen
          go_wp2_with (first
            | (go_at_call 26; refine (opposite_any y _ (by assumption)).mono ?_; rintro e w' ⟨rfl, rfl⟩)
            | (go_at_call 28; refine (unhide HSet).mono ?_; intro e w3 h3; obtain ⟨rfl, ρ3, v3, h3⟩ := h3; have H3 := hide h3; clear h3))
          obtain ⟨k3, q3, h3⟩ := unhide HN _ _ _ (unhide H3)
          exact ⟨⟨i + 1, k3, ρ3, q3, by simp, by omega, h3⟩, by simp [intOf]; omega⟩
    · have hf : decide ((i : Int) < (m : Int)) = false := by simp; omega
      have hle : (m : Int) ≤ (i : Int) := by omega
      have HT := hide ht
      have HE : Hid (i = m) := by show _ = _; omega
      clear ht
      go_wp2
      go_ret
      have ht := unhide HT
      obtain ⟨p, hpe, hpl⟩ := ht.pl
      refine ⟨true, k', ρ', q', rfl, ⟨ht.ck, ht.st, ht.aw, ht.hd, ht.em, ht.re, ht.cs, ht.tr, ⟨p, hpe, by rw [unhide HM]; omega⟩, ht.hh⟩, fun _ => ?_, fun e => by cases e⟩
      have hg := ht.got
      rw [unhide HE, ← unhide HM, List.take_length] at hg
      exact hg
end Go.Proofs.Ytmkkhpoedlbafaa
