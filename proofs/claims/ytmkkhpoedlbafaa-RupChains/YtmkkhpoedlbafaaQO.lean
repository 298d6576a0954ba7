/- Package rup: add: a clause is watched by its literal 0. -/
import Derived.Test.YtmkkhpoedlbafaaQN
import Derived.Test.YtmkkhpoedlbafaaQH
import Derived.Deep.RegionLaw
set_option linter.unusedVariables false
set_option linter.unusedSimpArgs false

namespace Go.Proofs.Ytmkkhpoedlbafaa
open Go Go.RowKit Go.Sort
set_option maxRecDepth 100000 in
set_option maxHeartbeats 64000000 in
theorem watch0_any {Q : Exit → Act → World → Prop} {a : Act} {w0 w : World} {B r g n cap : Nat} {ρ : Nat → Nat × Nat} {q : Mv} {k : KS} {zs : List Nat} {y : Nat} {ly : List Nat} (hs : AS a r g n cap) (hO : Own w0 w B r ρ q k g n cap (zs.map (fun y : Nat => (y : Int)))) (hz : zs[0]? = some y) (hly : k.ws[y]? = some ly) (hlyb : ly.length ≤ 10000000000) (hcs : k.cs.length ≤ 1000000000)
    (hq : ∀ a' w' ρ' q', AS a' r g n cap → Own w0 w' B r ρ' q' { k with ws := k.ws.set y (ly ++ [k.cs.length]) } g n cap (zs.map (fun y : Nat => (y : Int))) → Q .normal a' w') : Code.wp Try.prog (aW0 Try.f22) Q a w := by
  obtain ⟨u, rfl⟩ := hs.lit
  clear hs
  have hyw : y < k.ws.length := (List.getElem?_eq_some_iff.1 hly).1
  have hck := hO.ck
  have hwv : y < q.wv.length := by rw [hck.wvl]; exact hyw
  obtain ⟨vy, hvy⟩ : ∃ vy, q.wv[y]? = some vy := ⟨_, List.getElem?_eq_getElem hwv⟩
  have hrow := hck.rx y vy ly hvy hly
  obtain ⟨ay, capy, hay, _, _⟩ := hrow.form
  subst hay
  have hrw := hck.rw_
  obtain ⟨gV, capV, hvV, _, _, _, hltV, hrV⟩ := hrw.open (by omega)
  have d2 := hck.cells.2.2.1
  rw [hvV] at d2 hrw
  obtain ⟨eV, fV⟩ := hrw.cell hvy
  have d1 := hck.cells.2.1
  obtain ⟨aC, capC, haC, _, _⟩ := hck.rc.form
  rw [haC] at d1
  have cg := hO.cell (j := 0) (z := (y : Int)) (by rw [List.getElem?_map, hz]; rfl)
  have hne' : r ≠ gV := (hck.ne hrV (by simp) (by simp)).1
  have hne := Ne.symm hne'
  have hng : gV ≠ g := fun e => by rw [e, hO.mr] at hrV; cases hrV
  have hng' := Ne.symm hng
  have b1 : (0 : Int) ≤ (y : Int) := by omega
  have b2 : (y : Int) < (k.ws.length : Int) := by omega
  have b3 : (0 : Int) < (n : Int) := by
    have h1 := hO.ln
    have h2 := (List.getElem?_eq_some_iff.1 hz).1
    rw [List.length_map] at h1
    omega
  have b4 : 0 < n := by omega
  have HO := hide hrow.1
  have HVY := hide hvy
  have HLY := hide hly
  have HVV := hide hvV
  have HLB := hide hlyb
  have HSZ := hide hck.size
  have HOwn := hide hO
  have HFar : Hid (∀ wa w4 : World, wa.grownBy w4 (Value.slice ay ly.length capy).ownBlock → (∀ g, g < w.heap.size → wa.heap[g]? = w.heap[g]?) → w.heap.size ≤ wa.heap.size → w4.cell? ⟨gV, y, none⟩ = some (.slice ay ly.length capy) ∧ w4.frozen? ⟨gV, y, none⟩ = false ∧ w4.cell? ⟨r, 2, none⟩ = some (.slice (some ⟨gV, 0, none⟩) k.ws.length capV) ∧ w4.cell? ⟨g, 0, none⟩ = some (.int .i64 y) ∧ w4.cell? ⟨r, 1, none⟩ = some (.slice aC k.cs.length capC)) := by
    intro wa w4 h1 h2 h3
    have n1 : some gV ≠ (Value.slice ay ly.length capy).ownBlock := fun e => by have := hrow.2 _ e.symm; rw [hrV] at this; cases this
    have n2 : some r ≠ (Value.slice ay ly.length capy).ownBlock := fun e => by have := hrow.2 _ e.symm; rw [hck.rr] at this; cases this
    have n3 : some g ≠ (Value.slice ay ly.length capy).ownBlock := fun e => by have := hrow.2 _ e.symm; rw [hO.mr] at this; cases this
    obtain ⟨f1, f2⟩ := far (j := y) h1 h2 h3 hltV n1
    obtain ⟨f3, _⟩ := far (j := 2) h1 h2 h3 hck.lt n2
    obtain ⟨f4, _⟩ := far (j := 0) h1 h2 h3 hO.lt n3
    obtain ⟨f5, _⟩ := far (j := 1) h1 h2 h3 hck.lt n2
    exact ⟨f1.trans eV, f2.trans fV, f3.trans d2, f4.trans cg, f5.trans d1⟩
  obtain ⟨nc, hnc⟩ : ∃ nc, k.cs.length = nc := ⟨_, rfl⟩
  obtain ⟨nw, hnw⟩ : ∃ nw, k.ws.length = nw := ⟨_, rfl⟩
  rw [hnc] at d1 HFar
  rw [hnw] at d2 b2 HFar
  have eV2 : (w.alloc (.cells #[.int .i64 (nc : Int)] 3)).cell? ⟨gV, y, none⟩ = some (.slice ay ly.length capy) := (World.cell?_of_block (a := ⟨gV, y, none⟩) (Below.heap_alloc w _ gV hltV)).trans eV
  have d22 : (w.alloc (.cells #[.int .i64 (nc : Int)] 3)).cell? ⟨r, 2, none⟩ = some (.slice (some ⟨gV, 0, none⟩) nw capV) := (World.cell?_of_block (a := ⟨r, 2, none⟩) (Below.heap_alloc w _ r hck.lt)).trans d2
  have d12 : (w.alloc (.cells #[.int .i64 (nc : Int)] 3)).cell? ⟨r, 1, none⟩ = some (.slice aC nc capC) := (World.cell?_of_block (a := ⟨r, 1, none⟩) (Below.heap_alloc w _ r hck.lt)).trans d1
  have cg2 : (w.alloc (.cells #[.int .i64 (nc : Int)] 3)).cell? ⟨g, 0, none⟩ = some (.int .i64 y) := (World.cell?_of_block (a := ⟨g, 0, none⟩) (Below.heap_alloc w _ g hO.lt)).trans cg
  have HNC := hide hnc
  have HQ := hide hq
  have HNW := hide hnw
  clear hq hrow hrw hvy hly hvV hrV hlyb hwv hltV hck hO hz hyw haC hnc hnw hcs
  conv => arg 2; whnf
  refine wp_region_noPanic ?_
  refine wp_region_held_drew (S := fun w' => w'.cell? ⟨r, 2, none⟩ = some (.slice (some ⟨gV, 0, none⟩) nw capV) ∧ w'.cell? ⟨g, 0, none⟩ = some (.int .i64 y) ∧ w'.cell? ⟨r, 1, none⟩ = some (.slice aC nc capC)) (by kernel_rfl) ⟨d2, cg, d1⟩ (fun hHeld => ?_)
  refine wpAnyH_take (i := 0) (oi := _) (v := ?v0) rfl (by kernel_rfl) (by kernel_rfl) (by kernel_rfl) (fun _ _ _ h => h) (Or.inl ⟨by rfl, ?y0⟩) (by assumption) ?r0
  case y0 => (intro w hSw; (try dsimp only at hSw); go_simp; with_reducible rfl)
  try simp only [Act.put, List.setIfInBounds_toArray, List.set_cons_zero, List.set_cons_succ]
  refine wpAnyH_take (i := 1) (oi := _) (v := ?v1) rfl (by kernel_rfl) (by kernel_rfl) (by kernel_rfl) (fun _ _ _ h => h) (Or.inl ⟨by rfl, ?y1⟩) (by assumption) ?r1
  case y1 => (intro w hSw; (try dsimp only at hSw); go_simp; with_reducible rfl)
  try simp only [Act.put, List.setIfInBounds_toArray, List.set_cons_zero, List.set_cons_succ]
  refine wpAnyH_take (i := 2) (oi := _) (v := ?v2) rfl (by kernel_rfl) (by kernel_rfl) (by kernel_rfl) (fun _ _ _ h => h) (Or.inl ⟨by rfl, ?y2⟩) (by assumption) ?r2
  case y2 => (intro w hSw; (try dsimp only at hSw); go_simp; with_reducible rfl)
  try simp only [Act.put, List.setIfInBounds_toArray, List.set_cons_zero, List.set_cons_succ]
  refine wpAnyH_take (i := 3) (oi := _) (v := ?v3) rfl (by kernel_rfl) (by kernel_rfl) (by kernel_rfl) (fun _ _ _ h => h) (Or.inl ⟨by rfl, ?y3⟩) (by assumption) ?r3
  case y3 => (intro w hSw; (try dsimp only at hSw); go_simp; with_reducible rfl)
  try simp only [Act.put, List.setIfInBounds_toArray, List.set_cons_zero, List.set_cons_succ]
  refine wpAnyH_take (i := 4) (oi := _) (v := ?v4) rfl (by kernel_rfl) (by kernel_rfl) (by kernel_rfl) (fun _ _ _ h => h) (Or.inl ⟨by rfl, ?y4⟩) (by assumption) ?r4
  case y4 => (intro w hSw; (try dsimp only at hSw); go_simp; with_reducible rfl)
  try simp only [Act.put, List.setIfInBounds_toArray, List.set_cons_zero, List.set_cons_succ]
  refine wpAnyH_take (i := 5) (oi := _) (v := ?v5) rfl (by kernel_rfl) (by kernel_rfl) (by kernel_rfl) (fun _ _ _ h => h) (Or.inl ⟨by rfl, ?y5⟩) (by assumption) ?r5
  case y5 => (intro w hSw; (try dsimp only at hSw); go_simp; with_reducible rfl)
  try simp only [Act.put, List.setIfInBounds_toArray, List.set_cons_zero, List.set_cons_succ]
  refine wpAnyH_take (i := 6) (oi := _) (v := ?v6) rfl (by kernel_rfl) (by kernel_rfl) (by kernel_rfl) (fun _ _ _ h => h) (Or.inl ⟨by rfl, ?y6⟩) (by assumption) ?r6
  case y6 => (intro w hSw; (try dsimp only at hSw); go_simp; with_reducible rfl)
  try simp only [Act.put, List.setIfInBounds_toArray, List.set_cons_zero, List.set_cons_succ]
  refine wpAnyH_take (i := 7) (oi := _) (v := ?v7) rfl (by kernel_rfl) (by kernel_rfl) (by kernel_rfl) (fun _ _ _ h => h) (Or.inl ⟨by rfl, ?y7⟩) (by assumption) ?r7
  case y7 => (intro w hSw; (try dsimp only at hSw); go_simp; with_reducible rfl)
  try simp only [Act.put, List.setIfInBounds_toArray, List.set_cons_zero, List.set_cons_succ]
  refine wpAnyH_take (i := 8) (oi := _) (v := ?v8) rfl (by kernel_rfl) (by kernel_rfl) (by kernel_rfl) (fun _ _ _ h => h) (Or.inl ⟨by rfl, ?y8⟩) (by assumption) ?r8
  case y8 => (intro w hSw; (try dsimp only at hSw); go_simp; with_reducible rfl)
  try simp only [Act.put, List.setIfInBounds_toArray, List.set_cons_zero, List.set_cons_succ]
  refine wpAnyH_take (i := 9) (oi := _) (v := ?v9) rfl (by kernel_rfl) (by kernel_rfl) (by kernel_rfl) (fun _ _ _ h => h) (Or.inl ⟨by rfl, ?y9⟩) (by assumption) ?r9
  case y9 => (intro w hSw; (try dsimp only at hSw); go_simp; with_reducible rfl)
  try simp only [Act.put, List.setIfInBounds_toArray, List.set_cons_zero, List.set_cons_succ]
  refine wpAnyH_take (i := 10) (oi := _) (v := ?v10) rfl (by kernel_rfl) (by kernel_rfl) (by kernel_rfl) (fun _ _ _ h => h) (Or.inl ⟨by rfl, ?y10⟩) (by assumption) ?r10
  case y10 => (intro w hSw; (try dsimp only at hSw); go_simp; with_reducible rfl)
  try simp only [Act.put, List.setIfInBounds_toArray, List.set_cons_zero, List.set_cons_succ]
  refine wpAnyH_take (i := 11) (oi := _) (v := ?v11) rfl (by kernel_rfl) (by kernel_rfl) (by kernel_rfl) (fun _ _ _ h => h) (Or.inl ⟨by rfl, ?y11⟩) (by assumption) ?r11
  case y11 => (intro w hSw; (try dsimp only at hSw); go_simp; with_reducible rfl)
  try simp only [Act.put, List.setIfInBounds_toArray, List.set_cons_zero, List.set_cons_succ]
  refine wpAnyH_take (i := 12) (oi := _) (v := ?v12) rfl (by kernel_rfl) (by kernel_rfl) (by kernel_rfl) (fun _ _ _ h => h) (Or.inl ⟨by rfl, ?y12⟩) (by assumption) ?r12
  case y12 => (intro w hSw; (try dsimp only at hSw); go_simp; with_reducible rfl)
  try simp only [Act.put, List.setIfInBounds_toArray, List.set_cons_zero, List.set_cons_succ]
  refine wpAnyH_take (i := 13) (oi := _) (v := ?v13) rfl (by kernel_rfl) (by kernel_rfl) (by kernel_rfl) (fun _ _ _ h => h) (Or.inl ⟨by rfl, ?y13⟩) (by assumption) ?r13
  case y13 => (intro w hSw; (try dsimp only at hSw); go_simp; with_reducible rfl)
  try simp only [Act.put, List.setIfInBounds_toArray, List.set_cons_zero, List.set_cons_succ]
  refine wpAnyH_take (i := 14) (oi := _) (v := ?v14) rfl (by kernel_rfl) (by kernel_rfl) (by kernel_rfl) (fun _ _ _ h => h) (Or.inl ⟨by rfl, ?y14⟩) (by assumption) ?r14
  case y14 => (intro w hSw; (try dsimp only at hSw); go_simp; with_reducible rfl)
  try simp only [Act.put, List.setIfInBounds_toArray, List.set_cons_zero, List.set_cons_succ]
  refine wpAnyH_take (i := 16) (oi := _) (v := ?v16) rfl (by kernel_rfl) (by kernel_rfl) (by kernel_rfl) (fun _ _ _ h => h) (Or.inl ⟨by rfl, ?y16⟩) (by assumption) ?r16
  case y16 => (intro w hSw; (try dsimp only at hSw); go_simp; with_reducible rfl)
  try simp only [Act.put, List.setIfInBounds_toArray, List.set_cons_zero, List.set_cons_succ]
  refine wpAnyH_take (i := 17) (oi := _) (v := ?v17) rfl (by kernel_rfl) (by kernel_rfl) (by kernel_rfl) (fun _ _ _ h => h) (Or.inl ⟨by rfl, ?y17⟩) (by assumption) ?r17
  case y17 => (intro w hSw; (try dsimp only at hSw); go_simp; with_reducible rfl)
  try simp only [Act.put, List.setIfInBounds_toArray, List.set_cons_zero, List.set_cons_succ]
  refine wpAnyH_take (i := 18) (oi := _) (v := ?v18) rfl (by kernel_rfl) (by kernel_rfl) (by kernel_rfl) (fun _ _ _ h => h) (Or.inl ⟨by rfl, ?y18⟩) (by assumption) ?r18
  case y18 => (intro w hSw; (try dsimp only at hSw); go_simp; with_reducible rfl)
  try simp only [Act.put, List.setIfInBounds_toArray, List.set_cons_zero, List.set_cons_succ]
  refine wpAnyH_take (i := 19) (oi := _) (v := ?v19) rfl (by kernel_rfl) (by kernel_rfl) (by kernel_rfl) (fun _ _ _ h => h) (Or.inl ⟨by rfl, ?y19⟩) (by assumption) ?r19
  case y19 => (intro w hSw; (try dsimp only at hSw); go_simp; with_reducible rfl)
  try simp only [Act.put, List.setIfInBounds_toArray, List.set_cons_zero, List.set_cons_succ]
  refine wpAnyH_take (i := 20) (oi := _) (v := ?v20) rfl (by kernel_rfl) (by kernel_rfl) (by kernel_rfl) (fun _ _ _ h => h) (Or.inl ⟨by rfl, ?y20⟩) (by assumption) ?r20
  case y20 => (intro w hSw; (try dsimp only at hSw); go_simp; with_reducible rfl)
  try simp only [Act.put, List.setIfInBounds_toArray, List.set_cons_zero, List.set_cons_succ]
  refine wpAnyH_ready (rs := [15, 21]) (by kernel_rfl) (by simp) ?_
  refine AllReadyH.cons (o := _) rfl (fun K hK => ?_) (AllReadyH.cons (o := _) rfl (fun K hK => ?_) AllReadyH.nil)
  · go_simp
    refine hK.out _ _ (by first | exact ⟨by assumption, by assumption, by assumption⟩ | go_keep) (fun hHeld => ?_)
    clear hK K
    try simp only [Act.put, List.setIfInBounds_toArray, List.set_cons_zero, List.set_cons_succ]
    refine wpAnyH_ready (rs := [21]) (by kernel_rfl) (by simp) ?_
    refine AllReadyH.cons (o := _) rfl (fun K hK => ?_) AllReadyH.nil
    go_simp
    refine hK.out _ _ (by first | exact ⟨by assumption, by assumption, by assumption⟩ | go_keep) (fun hHeld => ?_)
    clear hK K
    try simp only [Act.put, List.setIfInBounds_toArray, List.set_cons_zero, List.set_cons_succ]
    refine wpAnyH_ready (rs := [22]) (by kernel_rfl) (by simp) ?_
    refine AllReadyH.cons (o := _) rfl (fun K hK => ?_) AllReadyH.nil
    refine step_app rfl _ _ (by rfl) B (.slice ay ly.length capy) ly.length (ly.map nv) (by rfl) (by first | exact (unhide HO).alloc _ | exact ((unhide HO).alloc _).drew) _ nc (by rfl) (alloc_at (by simp)) (unhide HLB) (by simp; have := unhide HSZ; omega) ?_
    intro g1 cap1 w4 ho hg hw hl
    obtain ⟨e6, e7, e8, e9, e10⟩ := (unhide HFar) _ w4 hg (fun g hg => Below.heap_alloc w _ g hg) (by simp)
    refine hK.out _ _ ⟨e8, e9, e10⟩ (fun hHeld => ?_)
    clear hK K
    try simp only [Act.put, List.setIfInBounds_toArray, List.set_cons_zero, List.set_cons_succ]
    refine wpAnyH_take (i := 23) (oi := _) (v := ?v23) rfl (by kernel_rfl) (by kernel_rfl) (by kernel_rfl) (fun _ _ _ h => h) (Or.inl ⟨by rfl, ?y23⟩) (by assumption) ?r23
    case y23 => (intro w hSw; (try dsimp only at hSw); go_simp; with_reducible rfl)
    try simp only [Act.put, List.setIfInBounds_toArray, List.set_cons_zero, List.set_cons_succ]
    refine wpAnyH_ready (rs := [24]) (by kernel_rfl) (by simp) ?_
    refine AllReadyH.cons (o := _) rfl (fun K hK => ?_) AllReadyH.nil
    have HO2 := hide ho
    have HG2 := hide hg
    have HW2 := hide hw
    clear ho hg hw hl
    go_simp
    refine hK.out _ _ (by go_keep) (fun hHeld => ?_)
    clear hK K
    try simp only [Act.put, List.setIfInBounds_toArray, List.set_cons_zero, List.set_cons_succ]
    refine wpAnyH_done (by kernel_rfl) ?_ _
    refine NoPanic.normal ?_
    rw [← unhide HNC] at HO2
    first
      | exact unhide HQ _ _ _ _ ⟨rfl, rfl, rfl, rfl⟩ (((unhide HOwn).alloc _).drew.pushWatch (unhide HLY) (unhide HVY) (unhide HVV) rfl (unhide HO2) (unhide HG2) (unhide HW2))
      | exact unhide HQ _ _ _ _ ⟨rfl, rfl, rfl, rfl⟩ (((unhide HOwn).alloc _).pushWatch (unhide HLY) (unhide HVY) (unhide HVV) rfl (unhide HO2) (unhide HG2) (unhide HW2))
  · go_simp
    refine hK.out _ _ (by first | exact ⟨by assumption, by assumption, by assumption⟩ | go_keep) (fun hHeld => ?_)
    clear hK K
    try simp only [Act.put, List.setIfInBounds_toArray, List.set_cons_zero, List.set_cons_succ]
    refine wpAnyH_ready (rs := [15]) (by kernel_rfl) (by simp) ?_
    refine AllReadyH.cons (o := _) rfl (fun K hK => ?_) AllReadyH.nil
    go_simp
    refine hK.out _ _ (by first | exact ⟨by assumption, by assumption, by assumption⟩ | go_keep) (fun hHeld => ?_)
    clear hK K
    try simp only [Act.put, List.setIfInBounds_toArray, List.set_cons_zero, List.set_cons_succ]
    refine wpAnyH_ready (rs := [22]) (by kernel_rfl) (by simp) ?_
    refine AllReadyH.cons (o := _) rfl (fun K hK => ?_) AllReadyH.nil
    refine step_app rfl _ _ (by rfl) B (.slice ay ly.length capy) ly.length (ly.map nv) (by rfl) (by first | exact (unhide HO).alloc _ | exact ((unhide HO).alloc _).drew) _ nc (by rfl) (alloc_at (by simp)) (unhide HLB) (by simp; have := unhide HSZ; omega) ?_
    intro g1 cap1 w4 ho hg hw hl
    obtain ⟨e6, e7, e8, e9, e10⟩ := (unhide HFar) _ w4 hg (fun g hg => Below.heap_alloc w _ g hg) (by simp)
    refine hK.out _ _ ⟨e8, e9, e10⟩ (fun hHeld => ?_)
    clear hK K
    try simp only [Act.put, List.setIfInBounds_toArray, List.set_cons_zero, List.set_cons_succ]
    refine wpAnyH_take (i := 23) (oi := _) (v := ?vb) rfl (by kernel_rfl) (by kernel_rfl) (by kernel_rfl) (fun _ _ _ h => h) (Or.inl ⟨by rfl, ?yb⟩) (by assumption) ?rb
    case yb => (intro w hSw; (try dsimp only at hSw); go_simp; with_reducible rfl)
    try simp only [Act.put, List.setIfInBounds_toArray, List.set_cons_zero, List.set_cons_succ]
    refine wpAnyH_ready (rs := [24]) (by kernel_rfl) (by simp) ?_
    refine AllReadyH.cons (o := _) rfl (fun K hK => ?_) AllReadyH.nil
    have HO2 := hide ho
    have HG2 := hide hg
    have HW2 := hide hw
    clear ho hg hw hl
    go_simp
    refine hK.out _ _ (by go_keep) (fun hHeld => ?_)
    clear hK K
    try simp only [Act.put, List.setIfInBounds_toArray, List.set_cons_zero, List.set_cons_succ]
    refine wpAnyH_done (by kernel_rfl) ?_ _
    refine NoPanic.normal ?_
    rw [← unhide HNC] at HO2
    first
      | exact unhide HQ _ _ _ _ ⟨rfl, rfl, rfl, rfl⟩ (((unhide HOwn).alloc _).drew.pushWatch (unhide HLY) (unhide HVY) (unhide HVV) rfl (unhide HO2) (unhide HG2) (unhide HW2))
      | exact unhide HQ _ _ _ _ ⟨rfl, rfl, rfl, rfl⟩ (((unhide HOwn).alloc _).pushWatch (unhide HLY) (unhide HVY) (unhide HVV) rfl (unhide HO2) (unhide HG2) (unhide HW2))
end Go.Proofs.Ytmkkhpoedlbafaa
