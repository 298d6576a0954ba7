/- Package rup: visit's look: another literal is watched. -/
import Derived.Test.YtmkkhpoedlbafaaQG
import Derived.Deep.RegionLaw
set_option linter.unusedVariables false
set_option linter.unusedSimpArgs false

namespace Go.Proofs.Ytmkkhpoedlbafaa
open Go Go.RowKit
theorem far {wa w3 w4 : World} {v : Value} {b j : Nat} (hg : wa.grownBy w4 v.ownBlock) (hwa : ∀ g, g < w3.heap.size → wa.heap[g]? = w3.heap[g]?) (hsz : w3.heap.size ≤ wa.heap.size) (hlt : b < w3.heap.size) (hne : some b ≠ v.ownBlock) : w4.cell? ⟨b, j, none⟩ = w3.cell? ⟨b, j, none⟩ ∧ w4.frozen? ⟨b, j, none⟩ = w3.frozen? ⟨b, j, none⟩ := by
  have h1 : w4.heap[b]? = w3.heap[b]? := (hg.block b (Nat.lt_of_lt_of_le hlt hsz) hne).trans (hwa b hlt)
  exact ⟨World.cell?_of_block (a := ⟨b, j, none⟩) h1, World.frozen?_of_block (a := ⟨b, j, none⟩) h1⟩
set_option maxRecDepth 100000 in
set_option maxHeartbeats 64000000 in
theorem rest_yes {Q : Exit → Act → World → Prop} {a : Act} {w0 w : World} {B r : Nat} {k : KS} {x : Nat} {L M : List (List Int)} {S0 : Int → Prop} {n h gX capX n0 kept i : Nat} {l0 K P t : List Nat} {k2 : KS} {ρ' : Nat → Nat × Nat} {q' : Mv} {a0 a1 m2 y gC nC capC gl nl capl gT NT capT : Nat} {iv tvv jv : Int}
    (hs : SE a r x gX n0 capX kept iv a0 gC tvv jv) (hv : VR w0 w B r k L M S0 n h x l0 (.slice (some ⟨gX, 0, none⟩) l0.length capX) kept i k2 ρ' q' K P) (hd : l0.drop i = a0 :: l0.drop (i + 1)) (hc : k2.cs[a0]? = some (a1 :: x :: t, m2)) (hat : At q' ρ' a0 gC nC capC gl nl capl gT NT capT) (hNT : 2 * k2.pl.length = NT) (hnl : nl = t.length + 2) (hb3 : nl ≤ 2000000000) (hm0 : 2 ≤ m2) (hm : m2 < nl) (hy : t[m2 - 2]? = some y) (hyT : op y ∉ k2.trail) (hi : i < l0.length) (hb : k2.cs.length ≤ 1000000000)
    (hq : ∀ a' w', SC a' r x gX n0 capX kept iv → (∃ k3 ρ3 q3 K3 P3, VR w0 w' B r k L M S0 n h x l0 (.slice (some ⟨gX, 0, none⟩) l0.length capX) kept (i + 1) k3 ρ3 q3 K3 P3) → Q (.exit 1) a' w') : Code.wp Try.prog (vRest Try.f31) Q a w := by
  obtain ⟨u, rfl⟩ := hs.lit
  clear hs
  obtain ⟨e1, e2, e3, e4⟩ := hv.ck.clauseAt hat.vC hat.vl hc
  have hyc : (a1 :: x :: t)[m2]? = some y := by
    obtain ⟨m3, rfl⟩ : ∃ m3, m2 = m3 + 2 := ⟨m2 - 2, by omega⟩
    simpa using hy
  have e4y := (e4 m2 y hyc).1
  have hyl : y < 2 * k2.pl.length := (hv.vs.str.cl a0 _ hc).lt y (List.mem_of_getElem? hyc)
  have tY := (hv.ck.truthAt hat.vT (y := y) hyl).1
  have htf : (tv k2.trail y != -1) = true := by
    have : ¬ tv k2.trail y = -1 := fun e => hyT ((tv_mns hv.vs.str.tcon).1 e)
    simpa using this
  have d3 := hv.ck.cells.2.2.2.1
  rw [hat.vT] at d3
  have v1 : (0 : Int) ≤ (m2 : Int) := by omega
  have v2 : (m2 : Int) < (nl : Int) := by omega
  have v3 : (0 : Int) ≤ (y : Int) := by omega
  have v4 : (y : Int) < (NT : Int) := by omega
  have v6 : (1 : Int) < (nl : Int) := by omega
  have e41 := e4 1 x rfl
  obtain ⟨e41, f41⟩ := e41
  obtain ⟨e4y, f4y⟩ := e4 m2 y hyc
  have hm1 : m2 ≠ 1 := by omega
  have hm1' : 1 ≠ m2 := Ne.symm hm1
  have nCl : gC ≠ gl := fun e => by have := hat.rC; rw [e, hat.rl] at this; cases this
  have nlC := Ne.symm nCl
  have hnn : nl = (a1 :: x :: t).length := by rw [hnl]; simp
  have hcl := (List.getElem?_eq_some_iff.1 hc).1
  have c1 := (hv.ck.setLit hc hat.vl hnn 1 y).setLit (i := a0) (c := a1 :: y :: t) (m := m2) (by simp [hcl]) hat.vl (by rw [hnl]; simp) m2 x
  have hset : (a1 :: y :: t).set m2 x = a1 :: y :: t.set (m2 - 2) x := by
    obtain ⟨m3, rfl⟩ : ∃ m3, m2 = m3 + 2 := ⟨m2 - 2, by omega⟩
    simp
  rw [hset] at c1
  simp only [List.set_set] at c1
  have Hck := hide c1.drew.drew
  have HV := hide hv
  have HD := hide hd
  have HI := hide hi
  have HC := hide hc
  have HY := hide hy
  have HT := hide hyT
  have HQ := hide hq
  have HYL := hide hyl
  have HB := hide hb
  clear c1 hset e4 hyc hyl hv hd hc hat hNT hnl hm0 hm hy hyT hq hnn hi hcl hb
  conv => arg 2; whnf
  go_wp2
  go_region
  go_wp2
  clear tY d3 htf v3 v4
  go_region_held3 (fun w' => w'.cell? ⟨gC, a0 * 2, none⟩ = some (.slice (some ⟨gl, 0, none⟩) nl capl) ∧ w'.cell? ⟨gC, a0 * 2 + 1, none⟩ = some (.int .i64 m2)) (go_keep) (fail)
  rename_i hHeld
  clear hHeld e1 e2 e3 e41 f41 e4y f4y v1 v2 v6 hm1 hm1' nCl nlC hb3
  revert Hck
  generalize (((w.setCell ⟨gl, 1, none⟩ (.int .i64 y)).setCell ⟨gl, m2, none⟩ (.int .i64 x)).drew.drew) = w3
  intro Hck
  have hst := (unhide HV).vs.str
  have hyw : y < k2.ws.length := by have := hst.wl; rw [List.length_set] at this; rw [this]; exact unhide HYL
  obtain ⟨ly, hly⟩ : ∃ ly, k2.ws[y]? = some ly := ⟨_, List.getElem?_eq_getElem hyw⟩
  have hwv : y < q'.wv.length := by rw [(unhide Hck).wvl]; exact hyw
  obtain ⟨vy, hvy⟩ : ∃ vy, q'.wv[y]? = some vy := ⟨_, List.getElem?_eq_getElem hwv⟩
  have hrow := (unhide Hck).rx y vy ly hvy hly
  obtain ⟨ay, capy, hay, _, _⟩ := hrow.form
  subst hay
  have hrw := (unhide Hck).rw_
  obtain ⟨gV, capV, hvV, _, _, _, hltV, hrV⟩ := hrw.open (by show 0 < k2.ws.length; omega)
  have d2 := (unhide Hck).cells.2.2.1
  rw [hvV] at d2 hrw
  obtain ⟨eV, fV⟩ := hrw.cell hvy
  have hyx : y ≠ x := by
    have hnd := (hst.cl a0 _ (unhide HC)).nd
    simp only [List.nodup_cons, List.mem_cons, not_or] at hnd
    exact fun e => hnd.2.1 (e ▸ List.mem_of_getElem? (unhide HY))
  have hlyb : ly.length ≤ 10000000000 := by
    have h1 := hst.wlen (x := y) (l := ly) (by rw [List.getElem?_set_ne (Ne.symm hyx)]; exact hly)
    have h2 := unhide HB
    omega
  have hne' : r ≠ gV := ((unhide Hck).ne hrV (by simp) (by simp)).1
  have hne := Ne.symm hne'
  have b1 : (0 : Int) ≤ (y : Int) := by omega
  have b2 : (y : Int) < (k2.ws.length : Int) := by omega
  have HO := hide hrow.1
  have HR := hide hrow.2
  have HVY := hide hvy
  have HLY := hide hly
  have HVV := hide hvV
  have HLB := hide hlyb
  have HSZ := hide (unhide Hck).size
  have HLT := hide (unhide Hck).lt
  have HLV := hide hltV
  have HRV := hide hrV
  have HEV := hide eV
  have HFV := hide fV
  have HD2 := hide d2
  have HFar : Hid (∀ wa w4 : World, wa.grownBy w4 (Value.slice ay ly.length capy).ownBlock → (∀ g, g < w3.heap.size → wa.heap[g]? = w3.heap[g]?) → w3.heap.size ≤ wa.heap.size → w4.cell? ⟨gV, y, none⟩ = some (.slice ay ly.length capy) ∧ w4.frozen? ⟨gV, y, none⟩ = false ∧ w4.cell? ⟨r, 2, none⟩ = some (.slice (some ⟨gV, 0, none⟩) k2.ws.length capV)) := by
    intro wa w4 h1 h2 h3
    have n1 : some gV ≠ (Value.slice ay ly.length capy).ownBlock := fun e => by have := hrow.2 _ e.symm; rw [hrV] at this; cases this
    have n2 : some r ≠ (Value.slice ay ly.length capy).ownBlock := fun e => by have := hrow.2 _ e.symm; rw [(unhide Hck).rr] at this; cases this
    obtain ⟨f1, f2⟩ := far (j := y) h1 h2 h3 hltV n1
    obtain ⟨f3, _⟩ := far (j := 2) h1 h2 h3 (unhide Hck).lt n2
    exact ⟨f1.trans eV, f2.trans fV, f3.trans d2⟩
  have eV2 : (w3.alloc (.cells #[.int .i64 (a0 : Int)] 3)).cell? ⟨gV, y, none⟩ = some (.slice ay ly.length capy) := (World.cell?_of_block (a := ⟨gV, y, none⟩) (Below.heap_alloc w3 _ gV hltV)).trans eV
  have d22 : (w3.alloc (.cells #[.int .i64 (a0 : Int)] 3)).cell? ⟨r, 2, none⟩ = some (.slice (some ⟨gV, 0, none⟩) k2.ws.length capV) := (World.cell?_of_block (a := ⟨r, 2, none⟩) (Below.heap_alloc w3 _ r (unhide Hck).lt)).trans d2
  clear hst hrow hrw hvy hly hvV hrV hlyb hwv hyx hltV
  go_wp2
  refine wp_region_noPanic ?_
  go_region_law ((refine step_app rfl _ _ (by rfl) B (.slice ay ly.length capy) ly.length (ly.map nv) (by rfl) (by first | exact (unhide HO).alloc _ | exact ((unhide HO).alloc _).drew) _ a0 (by rfl) (alloc_at (by simp)) (unhide HLB) (by simp; have := unhide HSZ; omega) ?_; intro g cap w4 ho hg hw hl; have e6 := (unhide HFar) _ w4 hg (fun g hg => Below.heap_alloc w3 _ g hg) (by simp); obtain ⟨e6, e7, e8⟩ := e6; have HO2 := hide ho; have HG2 := hide hg; have HW2 := hide hw; clear ho hg hw hl))
  all_goals
    refine NoPanic.normal ?_
    go_wp2
    first
      | exact unhide HQ _ _ ⟨rfl, rfl, rfl, rfl, rfl, rfl, rfl, rfl, rfl⟩ ⟨_, _, _, K, P, (unhide HV).move (unhide HD) (unhide HI) (unhide HC) (unhide HY) (unhide HLY) (unhide HT) (((unhide Hck).alloc _).drew.pushWatch (unhide HLY) (unhide HVY) (unhide HVV) rfl (unhide HO2) (unhide HG2) (unhide HW2))⟩
      | exact unhide HQ _ _ ⟨rfl, rfl, rfl, rfl, rfl, rfl, rfl, rfl, rfl⟩ ⟨_, _, _, K, P, (unhide HV).move (unhide HD) (unhide HI) (unhide HC) (unhide HY) (unhide HLY) (unhide HT) (((unhide Hck).alloc _).pushWatch (unhide HLY) (unhide HVY) (unhide HVV) rfl (unhide HO2) (unhide HG2) (unhide HW2))⟩
      | exact unhide HQ _ _ ⟨rfl, rfl, rfl, rfl, rfl, rfl, rfl, rfl, rfl⟩ ⟨_, _, _, K, P, (unhide HV).move (unhide HD) (unhide HI) (unhide HC) (unhide HY) (unhide HLY) (unhide HT) (((unhide Hck).alloc _).pushWatch (unhide HLY) (unhide HVY) (unhide HVV) rfl (unhide HO2) (unhide HG2) (unhide HW2)).drew⟩
end Go.Proofs.Ytmkkhpoedlbafaa
