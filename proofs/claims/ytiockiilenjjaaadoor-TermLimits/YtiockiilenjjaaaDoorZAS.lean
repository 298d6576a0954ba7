/- num.Parse at digits. -/
import Derived.Test.YtiockiilenjjaaaDoorZAR
import Derived.Maps.AppendAt
import Derived.Test.YtiockiilenjjaaaDoorZAF
set_option linter.unusedVariables false
set_option linter.unusedSimpArgs false

/- The collector: terms. -/
namespace Go.Proofs.YtiockiilenjjaaaDoor
open Go Go.RowKit
section
variable {w w' : World} {B D rc m1 m2 m3 : Nat} {av : Value} {e1 : List ((Int × ByteArray × ByteArray × Int × Int) × Value)} {e2 : List ((Int × Int) × Value)} {e3 : List ((Nat × Nat × Int) × Value)} {ps : List (Nat × Nat)} {AA TT : List Tm} {LL : List (List Tm)}
/-- Another number for a term. -/
theorem CO.put1 (h : CO w B D rc m1 m2 m3 av e1 e2 e3 ps AA TT LL) (hp : PutAt m1 w w') {e1' : List ((Int × ByteArray × ByteArray × Int × Int) × Value)} {TT' : List Tm} (hg : GM kv1 w' m1 e1') (hc : CI TT' LL e1' e2) (hT : TT <+: TT') : CO w' B D rc m1 m2 m3 av e1' e2 e3 ps AA TT' LL := by
  have hb : Below B w w' := PutAt.bel hp h.b1
  exact ⟨(hp.block rc (h.g1.noCells h.cc)).trans h.cc, h.br, h.b1, h.b2, h.b3, h.n12, h.n13, h.n23, hg, h.g2.same (hp.block m2 (Ne.symm h.n12)), h.g3.same (hp.block m3 (Ne.symm h.n13)), hc, (h.kn.below hb).mono hT (List.prefix_refl _), own_kept h.ow (fun g cs e => hp.block g (h.g1.noCells e)), h.ar.below hb⟩
theorem own_ty {v : Value} {n g : Nat} {xs : List Value} {ty : TypeId} (h : w.ownsRow B ty 1 v n xs) (hg : v.ownBlock = some g) : B ≤ g ∧ ∃ cs, w.heap[g]? = some (.cells cs ty) := by
  rcases h.2 with ⟨rfl, _⟩ | ⟨g', cap, cur, rfl, h1, h2, _⟩
  · cases hg
  · simp only [Value.ownBlock, Option.some.injEq] at hg
    subst hg
    exact ⟨h1, cur, h2⟩
/-- One application more. -/
theorem CO.app (h : CO w B D rc m1 m2 m3 av e1 e2 e3 ps AA TT LL) {w3 : World} {v' : Value} {b o d : Nat} {t x : Tm} (hg : w.grownBy w3 av.ownBlock) (ho : w3.ownsRow B 61 1 v' (ps.length + 1) (ptrs ps ++ [.pointer (some ⟨b, o, none⟩)])) (hT : TmAt w B d b o t) (hd : d ≤ D) (hx : t.inst0 = x) (hw : t.wt ≤ 400000) :
    CO (w3.setCell ⟨rc, 3, none⟩ v') B D rc m1 m2 m3 v' e1 e2 e3 (ps ++ [(b, o)]) (AA ++ [x]) TT LL ∧ w3.heap[rc]? = some (.cells #[.map (some m1), .map (some m2), .map (some m3), av, .bool false] 156) ∧ Below B w (w3.setCell ⟨rc, 3, none⟩ v') := by
  have hne : ∀ k, k < w.heap.size → (∀ cs, w.heap[k]? ≠ some (.cells cs 61)) → w3.heap[k]? = w.heap[k]? := fun k hk hn => hg.block k hk (fun e => by
    obtain ⟨_, cs, hc⟩ := own_ty h.ow e.symm
    exact hn cs hc)
  have hcc : w3.heap[rc]? = some (.cells #[.map (some m1), .map (some m2), .map (some m3), av, .bool false] 156) := (hne rc h.lt (fun cs e => by
    rw [h.cc] at e
    injection e with e
    injection e with _ e
    revert e
    decide)).trans h.cc
  have hm : ∀ {κ : Type} [DecidableEq κ] {kv : κ → Value} {r : Nat} {es : List (κ × Value)}, GM kv w r es → GM kv (w3.setCell ⟨rc, 3, none⟩ v') r es := fun {κ _ kv r es} hr => by
    refine hr.same ?_
    rw [Below.heap_setCell w3 ⟨rc, 3, none⟩ _ r (Ne.symm (hr.noCells h.cc))]
    exact hne r hr.lt (fun cs e => absurd rfl (hr.noCells e))
  have hb3 : Below B w w3 := ⟨hg.os, hg.tape, hg.output, hg.size, fun k hk => hg.block k (by have := h.bw; omega) (fun e => by
    have := (own_ty h.ow e.symm).1
    omega)⟩
  have hb : Below B w (w3.setCell ⟨rc, 3, none⟩ v') := hb3.setCell (p := ⟨rc, 3, none⟩) h.br _
  refine ⟨⟨(set_block hcc _).trans rfl, h.br, h.b1, h.b2, h.b3, h.n12, h.n13, h.n23, hm h.g1, hm h.g2, hm h.g3, h.ci, h.kn.below hb, ?_, ?_⟩, hcc, hb⟩
  · have e : ptrs (ps ++ [(b, o)]) = ptrs ps ++ [.pointer (some ⟨b, o, none⟩)] := by simp [ptrs]
    rw [e, List.length_append]
    refine own_kept ho (fun g cs e => Below.heap_setCell w3 ⟨rc, 3, none⟩ _ g (fun e' => ?_))
    rw [e', hcc] at e
    injection e with e
    injection e with _ e
    revert e
    decide
  · refine ⟨by simp [h.ar.1], fun k p y hp hy => ?_⟩
    rcases get_snoc hp with g1 | ⟨g1, rfl⟩
    · rcases get_snoc hy with g2 | ⟨g2, _⟩
      · exact (h.ar.below hb).2 k p y g1 g2
      · have := (List.getElem?_eq_some_iff.1 g1).1
        have := h.ar.1
        omega
    · rcases get_snoc hy with g2 | ⟨_, rfl⟩
      · have := (List.getElem?_eq_some_iff.1 g2).1
        have := h.ar.1
        omega
      · exact ⟨t, hT.more hb (Nat.le_refl _) hd, hx, hw⟩
end
theorem kindOf_app {x : Int} (h : x ≠ 17) : kindOf x ≠ 160 := by
  unfold kindOf
  split
  · decide
  · split
    · decide
    · split
      · decide
      · split
        · decide
        · split <;> decide
theorem infPtr : (Tryd.prog.info? 61).map (fun i => (i.zero, i.size, i.bytes)) = some (some (.pointer none), 1, 8) := by kernel_rfl
theorem tPtrs : Tryd.prog.underlying 94 = some (.slice 61) := by kernel_rfl
theorem isApp_snoc (TT : List Tm) (x : Tm) : (TT ++ [x]).filter isApp = TT.filter isApp ++ if x.op = 17 then [x] else [] := by
  rw [List.filter_append]
  congr 1
  unfold isApp
  by_cases h : x.op = 17 <;> simp [h]
theorem gs_no {t : Tm} (h19 : t.op ≠ 19) (hg : t.ground = false) : t.gs = gsL t.l := by
  rw [Tm.gs_eq, if_neg h19, hg]
  simp
theorem gs_yes {t : Tm} (h19 : t.op ≠ 19) (hg : t.ground = true) : t.gs = gsL t.l ++ [t.inst0] := by
  rw [Tm.gs_eq, if_neg h19, hg]
  simp
set_option maxRecDepth 1000000 in
set_option maxHeartbeats 16000000 in
theorem gterm_of {D d : Nat} (hdD : d + 1 ≤ D) (hL : GListC D d) : GTermC D (d + 1) := by
  intro B rc w b o t u TT LL hT hC hu hL1 hT1 hwt
  have hT0 := hT
  obtain ⟨hb, _, _, aL, aV, aP, cL, cV, cP, hrg, hRL, _, _, _⟩ := hT
  have hBw : B ≤ w.heap.size := by
    obtain ⟨_, _, _, _, _, _, _, _, hc⟩ := hC
    exact hc.bw
  have hbw : b < w.heap.size := by omega
  have c0 : w.cell? ⟨b, o, none⟩ = some (.int .i64 t.op) := hrg 0 _ rfl
  have HV := hide (view_any b o t.op w c0 hbw)
  obtain ⟨n, hn⟩ : ∃ n, t.l.length = n := ⟨_, rfl⟩
  rw [hn] at hRL
  have HG := hide hrg
  have HN := hide hn
  have HI := hide (And.intro hT0 (And.intro hC (And.intro hL1 (And.intro hT1 (And.intro hRL hL)))))
  clear hT0 hC hL1 hT1 hRL hL hrg c0 hn
  by_cases h19 : t.op = 19
  · have hkk : kindOf t.op = 112 := by rw [h19]; rfl
    rw [hkk] at HV
    have ta0 := fun w => ta_yes (ty := 112) (v := .agg #[.pointer (some ⟨b, o, none⟩)]) (w := w) rfl rfl
    have HH := hide h19
    clear hkk h19
    go_enter Tryd.func79, Tryd.ntmps79
    go_wp2_with fail
    refine (unhide HV).mono ?_
    rintro e w1 ⟨rfl, hb1⟩
    have HB1 := hide hb1
    clear hb1
    go_wp2
    go_ret
    obtain ⟨hT0, hC, hL1, hT1, hRL, hL⟩ := unhide HI
    have h19 := unhide HH
    have hgs : t.gs = [] := by rw [Tm.gs_eq, if_pos h19]
    have hgr : t.ground = false := by rw [Tm.ground_eq, h19]; rfl
    have hbb : Below w.heap.size w (w1.alloc (.cells #[.pointer (some ⟨b, o, none⟩)] 112)) := (unhide HB1).alloc (unhide HB1).size _
    rw [hgs]
    obtain ⟨m1, m2, m3, av, e1, e2, e3, ps, hc⟩ := hC
    have hpos : 0 < t.size := by rw [t.size_eq]; omega
    exact ⟨LL, -1, rfl, ⟨m1, m2, m3, av, e1, e2, e3, ps, hc.grow hbb⟩, List.prefix_refl _, by omega, .inr ⟨hgr, rfl⟩, hbb.mono hBw⟩
  have hk19 : kindOf t.op ≠ 112 := kindOf_all h19
  have ta0 := fun w => ta_no (ty := 112) (v := .agg #[.pointer (some ⟨b, o, none⟩)]) (z := .agg #[.pointer none]) (w := w) hk19 rfl rfl (by go_simp)
  have HH := hide h19
  obtain ⟨kk, ekk⟩ : ∃ kk, kindOf t.op = kk := ⟨_, rfl⟩
  have HKK := hide ekk
  rw [ekk] at HV ta0
  clear hk19 h19 ekk
  go_enter Tryd.func79, Tryd.ntmps79
  go_wp2_with fail
  refine (unhide HV).mono ?_
  rintro e w1 ⟨rfl, hb1⟩
  obtain ⟨A, eA, hbA, hsA, hcA, hhA⟩ := box_new w1 #[.pointer none] 112
  have hbA0 : Below w.heap.size w A := hb1.trans (hbA.mono hb1.size)
  have a4 : ∀ x, (w1.alloc x).cell? ⟨b, o + 4, none⟩ = some (.slice aL n cL) := fun x => by
    rw [← unhide HN]
    exact ((hb1.alloc hb1.size x).cell (p := ⟨b, o + 4, none⟩) hbw).trans (unhide HG 4 _ rfl)
  have HLi : Hid (Calls Tryd.prog 99 #[.pointer (some ⟨rc, 0, none⟩), .slice aL n cL, .int .i64 ((u + 1 : Nat) : Int)] A fun e w' => ∃ LL' x, e = .returned (.int .i64 x) ∧ COx w' B D rc (insAll (gsL t.l) TT) LL' ∧ LL <+: LL' ∧ LL'.length ≤ LL.length + szs t.l ∧ NumL LL' t.l x ∧ Below B A w') := by
    obtain ⟨hT0, ⟨m1, m2, m3, av, e1, e2, e3, ps, hc⟩, hL1, hT1, hRL, hL⟩ := unhide HI
    have hsz : t.size = 1 + szs t.l := t.size_eq
    exact hL B rc A aL n cL t.l (u + 1) TT LL (hRL.below (hbA0.mono hBw)) (unhide HN).symm ⟨m1, m2, m3, av, e1, e2, e3, ps, hc.grow hbA0⟩ (by omega) (by omega) (by omega) (by rw [t.wt_eq] at hwt; unfold lwt; omega)
  have HA := hide hbA0
  have HEA := hide eA
  clear hb1 hbA hsA hcA hhA hbA0 HV eA
  go_wp2_with fail
  rw [unhide HEA]
  rw [show ((u : Int) + 1) = ((u + 1 : Nat) : Int) by omega]
  refine (unhide HLi).mono ?_
  rintro e w5 ⟨LL', x, rfl, hC5, hp5, hl5, hN5, hb5⟩
  have hb05 : Below B w w5 := ((unhide HA).mono hBw).trans hb5
  have H5 := hide (And.intro hC5 (And.intro hp5 (And.intro hl5 (And.intro hN5 hb05))))
  have hB5 : B ≤ w5.heap.size := by
    obtain ⟨_, _, _, _, _, _, _, _, hc⟩ := hC5
    exact hc.bw
  clear hC5 hp5 hl5 hN5 hb5 hb05 a4 HLi HA HEA ta0
  by_cases h18 : t.op = 18
  · have hkk : kk = 109 := by rw [← unhide HKK, h18]; rfl
    subst hkk
    have ta1 := fun w => ta_yes (ty := 109) (v := .agg #[.pointer (some ⟨b, o, none⟩)]) (w := w) rfl rfl
    have H18 := hide h18
    clear h18
    go_wp2
    go_ret
    obtain ⟨⟨m1, m2, m3, av, e1, e2, e3, ps, hc⟩, hp5, hl5, hN5, hb05⟩ := unhide H5
    have hgr : t.ground = false := by rw [Tm.ground_eq, unhide H18]; rfl
    have hbb := (Below.refl w5.heap.size w5).alloc (Nat.le_refl _) (.cells #[.pointer (some ⟨b, o, none⟩)] 109)
    have hsz : t.size = 1 + szs t.l := t.size_eq
    rw [gs_no (unhide HH) hgr]
    exact ⟨LL', -1, rfl, ⟨m1, m2, m3, av, e1, e2, e3, ps, hc.grow hbb⟩, hp5, by omega, .inr ⟨hgr, rfl⟩, hb05.trans (hbb.mono hB5)⟩
  have hk18 : kk ≠ 109 := by rw [← unhide HKK]; exact kindOf_var h18
  have ta1 := fun w => ta_no (ty := 109) (v := .agg #[.pointer (some ⟨b, o, none⟩)]) (z := .agg #[.pointer none]) (w := w) hk18 rfl rfl (by go_simp)
  have H18 := hide h18
  clear h18 hk18
  by_cases hx : x = -1
  · have hd1 : (x == -1) = true := by simp [hx]
    have HX := hide hx
    clear hx
    go_wp2
    go_ret
    obtain ⟨⟨m1, m2, m3, av, e1, e2, e3, ps, hc⟩, hp5, hl5, hN5, hb05⟩ := unhide H5
    have hgr : t.ground = false := by
      rw [Tm.ground_eq]
      rcases hN5 with ⟨_, j, h, _⟩ | ⟨h, _⟩
      · have := unhide HX
        omega
      · rw [h, Bool.and_false]
    have hbb := (Below.refl w5.heap.size w5).alloc (Nat.le_refl _) (.cells #[.pointer none] 109)
    have hsz : t.size = 1 + szs t.l := t.size_eq
    rw [gs_no (unhide HH) hgr]
    exact ⟨LL', -1, rfl, ⟨m1, m2, m3, av, e1, e2, e3, ps, hc.grow hbb⟩, hp5, by omega, .inr ⟨hgr, rfl⟩, hb05.trans (hbb.mono hB5)⟩
  have hd1 : (x == -1) = false := by simp [hx]
  obtain ⟨hC5, hp5, hl5, hN5, hb05⟩ := unhide H5
  obtain ⟨hall, j, rfl, hj⟩ : t.l.all Tm.ground = true ∧ ∃ j : Nat, x = j ∧ isL LL' (t.l.map Tm.inst0) j := by
    rcases hN5 with h | ⟨_, h⟩
    · exact h
    · exact absurd h hx
  have hgr : t.ground = true := by
    rw [Tm.ground_iff]
    exact ⟨unhide H18, unhide HH, fun v hv => List.all_eq_true.1 hall v hv⟩
  obtain ⟨C, eC, hbC, hsC, hcC, hhC⟩ := box_new w5 #[.pointer none] 109
  have hb0C : Below B w C := hb05.trans (hbC.mono hB5)
  have hbc := fun k v (hv : (tcells t aL aV aP cL cV cP)[k]? = some v) => (hb0C.cell (p := ⟨b, o + k, none⟩) hb).trans ((unhide HG) k v hv)
  have HLab := hide (labelOf_any (w := C) (b := b) (o := o) (t := t) (hbc 0 _ rfl) (hbc 1 _ rfl) (hbc 2 _ rfl) (hbc 3 _ rfl) (by have := hbC.size; omega))
  rw [unhide HKK] at HLab
  rw [show t.label = .agg #[.int .i64 t.op, .string t.nm, .string t.nu, .int .i64 t.so] from rfl] at HLab
  have hin : t.inst0 = ⟨t.op, t.nm, t.so, t.nu, t.l.map Tm.inst0, [], []⟩ := by rw [Tm.inst0_eq, if_neg (unhide HH), if_neg (unhide HH)]
  have hBG : BG t.inst0 := BG.of hgr
  have hgs := gs_yes (unhide HH) hgr
  rw [hin] at hBG hgs
  have hNT : ∀ (S : List Tm) (i : Nat), S[i]? = some ⟨t.op, t.nm, t.so, t.nu, t.l.map Tm.inst0, [], []⟩ → NumT S t (i : Int) := fun S i h => .inl ⟨hgr, i, rfl, by rw [hin]; exact h⟩
  obtain ⟨S1, eS1⟩ : ∃ S, insAll (gsL t.l) TT = S := ⟨_, rfl⟩
  rw [eS1] at hC5
  have hSl : S1.length ≤ 1000000 := by
    obtain ⟨_, _, _, hT1, _⟩ := unhide HI
    have h1 := insAll_len (gsL t.l) TT
    have h2 := gsL_len t.l
    have h3 : t.size = 1 + (t.l.map Tm.size).sum := t.size_eq
    rw [← eS1]
    omega
  generalize hnm : t.nm = nm at *
  generalize hnu : t.nu = nu at *
  generalize hso : t.so = so at *
  obtain ⟨X, eX⟩ : ∃ X : Tm, ⟨t.op, nm, so, nu, t.l.map Tm.inst0, [], []⟩ = X := ⟨_, rfl⟩
  have HXX := hide eX
  rw [eX] at hBG hNT hgs
  have HGS : Hid (insAll t.gs TT = insAll [X] S1) := by
    unfold Hid
    rw [hgs, insAll_app, eS1]
  have HX := hide (And.intro hBG (And.intro hNT (And.intro hj (And.intro hp5 (And.intro hl5 (And.intro hC5 (And.intro hbC (And.intro hb0C (And.intro hSl hin)))))))))
  have HEC := hide eC
  clear hBG hNT hj hp5 hl5 hC5 hbC hb0C hSl hin hgs hgr hall hN5 hb05 hsC hcC hhC hbc hx eS1 hnm hnu hso eX H5 eC
  go_wp2_with fail
  rw [unhide HEC]
  refine (unhide HLab).mono ?_
  rintro e w6 ⟨rfl, hb6⟩
  obtain ⟨hBG, hNT, hj, hp5, hl5, ⟨m1, m2, m3, av, e1, e2, e3, ps, hc⟩, hbC, hb0C, hSl, hin⟩ := unhide HX
  obtain ⟨V, eV, hbV, hsV, hcV, hhV⟩ := box_new w6 #[.int .i64 t.op, .string nm, .string nu, .int .i64 so, .int .i64 (j : Int)] 197
  have hb5V : Below w5.heap.size w5 V := (hbC.trans (hb6.mono hbC.size)).trans (hbV.mono (Nat.le_trans hbC.size hb6.size))
  have hV := hc.grow hb5V
  have hqlt : w6.heap.size < V.heap.size := by omega
  have hb0V : Below B w V := (hb0C.trans (hb6.mono (by have := hbC.size; omega))).trans (hbV.mono (by have := hbC.size; have := hb6.size; omega))
  obtain ⟨ds, K⟩ := kok1
  have hXl : X.l = t.l.map Tm.inst0 ∧ X.op = t.op ∧ X.name = nm ∧ X.num = nu ∧ X.sort = so := by rw [← unhide HXX]; exact ⟨rfl, rfl, rfl, rfl, rfl⟩
  have hlook := hV.ci.look1 hBG (j := j) (by rw [hXl.1]; exact hj)
  rw [hXl.2.1, hXl.2.2.1, hXl.2.2.2.1, hXl.2.2.2.2] at hlook
  have HSS : Hid (∀ w', Below V.heap.size V w' → (w'.cell? ⟨rc, 0, none⟩ = some (.map (some m1)) ∧ w'.cell? ⟨w6.heap.size, 0, none⟩ = some (.int .i64 t.op) ∧ w'.cell? ⟨w6.heap.size, 1, none⟩ = some (.string nm) ∧ w'.cell? ⟨w6.heap.size, 2, none⟩ = some (.string nu) ∧ w'.cell? ⟨w6.heap.size, 3, none⟩ = some (.int .i64 so) ∧ w'.cell? ⟨w6.heap.size, 4, none⟩ = some (.int .i64 (j : Int)) ∧ (Instr.lookup 152 (.map (some m1)) (.agg #[.int .i64 t.op, .string nm, .string nu, .int .i64 so, .int .i64 (j : Int)]) true).run Tryd.prog w' = .ok (.tuple #[(lookG (t.op, nm, nu, so, (j : Int)) e1).getD (.int .i64 0), .bool (lookG (t.op, nm, nu, so, (j : Int)) e1).isSome]) w')) := fun w' hb' => by
    have h' := hV.grow hb'
    have hq' := (hb'.block _ hqlt).trans hhV
    exact ⟨(blk h'.cc).2.1 0 _ rfl, (blk hq').2.1 0 _ rfl, (blk hq').2.1 1 _ rfl, (blk hq').2.1 2 _ rfl, (blk hq').2.1 3 _ rfl, (blk hq').2.1 4 _ rfl, gm_lookup K (k := (t.op, nm, nu, so, (j : Int))) um1 (zI w') h'.g1 (fun p _ => keq1 w' _ _)⟩
  obtain ⟨s0, s1, s2, s3, s4, s5, s6⟩ := unhide HSS V (Below.refl _ V)
  have hsz : t.size = 1 + szs t.l := t.size_eq
  rcases hlook with ⟨i, hi, hlk⟩ | ⟨hno, hlk⟩
  · rw [hlk] at HSS s6
    simp only [Option.getD_some, Option.isSome_some] at HSS s6
    have HF := hide (And.intro hV (And.intro hi (And.intro hb0V (And.intro hp5 (And.intro hl5 (And.intro (hNT S1 i hi) hsz))))))
    clear hBG hNT hj hp5 hl5 hc hbC hb0C hSl hin hb6 hbV hsV hcV hhV hb5V hV hqlt hb0V K hXl hlk hi hsz HLab
    go_wp2
    clear eV
    go_region_held3 (fun w' => w'.cell? ⟨rc, 0, none⟩ = some (.map (some m1)) ∧ w'.cell? ⟨w6.heap.size, 0, none⟩ = some (.int .i64 t.op) ∧ w'.cell? ⟨w6.heap.size, 1, none⟩ = some (.string nm) ∧ w'.cell? ⟨w6.heap.size, 2, none⟩ = some (.string nu) ∧ w'.cell? ⟨w6.heap.size, 3, none⟩ = some (.int .i64 so) ∧ w'.cell? ⟨w6.heap.size, 4, none⟩ = some (.int .i64 (j : Int)) ∧ (Instr.lookup 152 (.map (some m1)) (.agg #[.int .i64 t.op, .string nm, .string nu, .int .i64 so, .int .i64 (j : Int)]) true).run Tryd.prog w' = .ok (.tuple #[.int .i64 (i : Int), .bool true]) w') (first | assumption | exact unhide HSS _ (keep0 _)) (fail)
    go_wp2
    go_ret
    obtain ⟨hV, hi, hb0V, hp5, hl5, hnt, hsz⟩ := unhide HF
    have hins : insAll [X] S1 = S1 := insAll_in fun y hy => by
      rw [List.mem_singleton.1 hy]
      exact List.mem_of_getElem? hi
    rw [unhide HGS, hins]
    exact ⟨LL', i, rfl, ⟨m1, m2, m3, av, e1, e2, e3, ps, hV.grow (keep0 V)⟩, hp5, by omega, hnt, hb0V.trans ((keep0 V).mono hV.bw)⟩
  · rw [hlk] at HSS s6
    simp only [Option.getD_none, Option.isSome_none] at HSS s6
    have hlen : e1.length = S1.length := hV.ci.t1
    have hVd := hV.grow (keep0 V)
    have hVdd := hVd.grow (keep0 V.drew)
    have hqd : V.drew.heap[w6.heap.size]? = _ := hhV
    have hqdd : V.drew.drew.heap[w6.heap.size]? = _ := hhV
    obtain ⟨W9, hrun, hput, hg9⟩ := gm_update (P := Tryd.prog) K (k := (t.op, nm, nu, so, (j : Int))) (v := .int .i64 (S1.length : Int)) um1 hVdd.g1 (fun p _ => keq1 V.drew.drew _ _)
    rw [putG_new _ _ _ hlk] at hg9
    have hadd := hVdd.ci.add1 hBG (j := j) (by rw [hXl.1]; exact hj) hno
    rw [hXl.2.1, hXl.2.2.1, hXl.2.2.2.1, hXl.2.2.2.2] at hadd
    have h9 := hVdd.put1 hput hg9 hadd (List.prefix_append _ _)
    have hx9 := (hput.block w6.heap.size (hVdd.g1.noCells hqdd)).trans hqdd
    have hln : (Builtin.len_ #[152] 3 #[.map (some m1)]).run Tryd.prog V.drew = .ok (.int .i64 (S1.length : Int)) V.drew := by rw [← hlen]; exact gm_len um1 hVd.g1
    have HS9 : Hid (W9.cell? ⟨rc, 0, none⟩ = some (.map (some m1)) ∧ W9.cell? ⟨w6.heap.size, 0, none⟩ = some (.int .i64 t.op) ∧ W9.cell? ⟨w6.heap.size, 1, none⟩ = some (.string nm) ∧ W9.cell? ⟨w6.heap.size, 2, none⟩ = some (.string nu) ∧ W9.cell? ⟨w6.heap.size, 3, none⟩ = some (.int .i64 so) ∧ W9.cell? ⟨w6.heap.size, 4, none⟩ = some (.int .i64 (j : Int))) := ⟨(blk h9.cc).2.1 0 _ rfl, (blk hx9).2.1 0 _ rfl, (blk hx9).2.1 1 _ rfl, (blk hx9).2.1 2 _ rfl, (blk hx9).2.1 3 _ rfl, (blk hx9).2.1 4 _ rfl⟩
    have HSC : Hid (V.drew.drew.cell? ⟨rc, 0, none⟩ = some (.map (some m1)) ∧ V.drew.drew.cell? ⟨w6.heap.size, 0, none⟩ = some (.int .i64 t.op) ∧ V.drew.drew.cell? ⟨w6.heap.size, 1, none⟩ = some (.string nm) ∧ V.drew.drew.cell? ⟨w6.heap.size, 2, none⟩ = some (.string nu) ∧ V.drew.drew.cell? ⟨w6.heap.size, 3, none⟩ = some (.int .i64 so) ∧ V.drew.drew.cell? ⟨w6.heap.size, 4, none⟩ = some (.int .i64 (j : Int))) := ⟨(blk hVdd.cc).2.1 0 _ rfl, (blk hqdd).2.1 0 _ rfl, (blk hqdd).2.1 1 _ rfl, (blk hqdd).2.1 2 _ rfl, (blk hqdd).2.1 3 _ rfl, (blk hqdd).2.1 4 _ rfl⟩
    obtain ⟨g0, g1, g2, g3, g4, g5⟩ : V.drew.cell? ⟨rc, 0, none⟩ = some (.map (some m1)) ∧ V.drew.cell? ⟨w6.heap.size, 0, none⟩ = some (.int .i64 t.op) ∧ V.drew.cell? ⟨w6.heap.size, 1, none⟩ = some (.string nm) ∧ V.drew.cell? ⟨w6.heap.size, 2, none⟩ = some (.string nu) ∧ V.drew.cell? ⟨w6.heap.size, 3, none⟩ = some (.int .i64 so) ∧ V.drew.cell? ⟨w6.heap.size, 4, none⟩ = some (.int .i64 (j : Int)) := ⟨(blk hVd.cc).2.1 0 _ rfl, (blk hqd).2.1 0 _ rfl, (blk hqd).2.1 1 _ rfl, (blk hqd).2.1 2 _ rfl, (blk hqd).2.1 3 _ rfl, (blk hqd).2.1 4 _ rfl⟩
    have hins : insAll [X] S1 = S1 ++ [X] := insT_out hV.ci.bg hBG hno
    have hb09 : Below B w W9 := ((hb0V.trans ((keep0 V).mono hV.bw)).trans ((keep0 V.drew).mono hVd.bw)).trans (PutAt.bel hput hV.b1)
    have hnt : NumT (S1 ++ [X]) t (S1.length : Int) := hNT _ _ (get_last _ _)
    have hfil := isApp_snoc S1 X
    rw [hXl.2.1] at hfil
    have HGI : Hid (insAll t.gs TT = S1 ++ [X]) := (unhide HGS).trans hins
    obtain ⟨N, hN⟩ : ∃ N, S1.length = N := ⟨_, rfl⟩
    rw [hN] at hln hrun hnt
    simp only [kv1] at hrun
    have hT9 : TmAt W9 B (d + 1) b o t := (unhide HI).1.more hb09 (Nat.le_refl _) (Nat.le_refl _)
    have HF := hide (And.intro h9 (And.intro hb09 (And.intro hp5 (And.intro hl5 (And.intro hnt (And.intro hsz (And.intro hfil (And.intro hT9 hin))))))))
    have hNN : (N : Int) ≤ 1000000 := by omega
    clear hBG hNT hj hp5 hl5 hc hbC hb0C hSl hin hb6 hbV hsV hcV hhV hb5V hV hqlt hb0V K hXl hlk hsz HLab hlen hVd hVdd hqd hqdd hput hg9 hadd h9 hx9 hins hb09 hnt hfil hT9 hno hN
    go_wp2
    clear eV
    go_region_held3 (fun w' => w'.cell? ⟨rc, 0, none⟩ = some (.map (some m1)) ∧ w'.cell? ⟨w6.heap.size, 0, none⟩ = some (.int .i64 t.op) ∧ w'.cell? ⟨w6.heap.size, 1, none⟩ = some (.string nm) ∧ w'.cell? ⟨w6.heap.size, 2, none⟩ = some (.string nu) ∧ w'.cell? ⟨w6.heap.size, 3, none⟩ = some (.int .i64 so) ∧ w'.cell? ⟨w6.heap.size, 4, none⟩ = some (.int .i64 (j : Int)) ∧ (Instr.lookup 152 (.map (some m1)) (.agg #[.int .i64 t.op, .string nm, .string nu, .int .i64 so, .int .i64 (j : Int)]) true).run Tryd.prog w' = .ok (.tuple #[.int .i64 0, .bool false]) w') (first | assumption | exact unhide HSS _ (keep0 _)) (fail)
    clear s0 s1 s2 s3 s4 s5 s6
    go_wp2
    go_region_held3 (fun w' => w'.cell? ⟨rc, 0, none⟩ = some (.map (some m1)) ∧ w'.cell? ⟨w6.heap.size, 0, none⟩ = some (.int .i64 t.op) ∧ w'.cell? ⟨w6.heap.size, 1, none⟩ = some (.string nm) ∧ w'.cell? ⟨w6.heap.size, 2, none⟩ = some (.string nu) ∧ w'.cell? ⟨w6.heap.size, 3, none⟩ = some (.int .i64 so) ∧ w'.cell? ⟨w6.heap.size, 4, none⟩ = some (.int .i64 (j : Int))) (first | assumption | exact (unhide HS9) | exact (unhide HSC)) (fail)
    clear hrun hln g0 g1 g2 g3 g4 g5 HS9 HSC HSS
    by_cases h17 : t.op = 17
    · have hkk : kk = 160 := by rw [← unhide HKK, h17]; rfl
      subst hkk
      have ta2 := fun w => ta_yes (ty := 160) (v := .agg #[.pointer (some ⟨b, o, none⟩)]) (w := w) rfl rfl
      obtain ⟨A3, eA3, hbA3, hsA3, hcA3, hhA3⟩ := box_new W9 #[.pointer (some ⟨b, o, none⟩)] 160
      obtain ⟨A4, eA4, hbA4, hsA4, hcA4, hhA4⟩ := box_new A3 #[.pointer (some ⟨b, o, none⟩)] 61
      obtain ⟨h9, hb09, hp5, hl5, hnt, hsz, hfil, hT9, hin⟩ := unhide HF
      have hA3 := h9.grow hbA3
      have hA4 := hA3.grow hbA4
      have a3 : A3.cell? ⟨rc, 3, none⟩ = some av := (blk hA3.cc).2.1 3 _ rfl
      have hps : ps.length ≤ 1000000 := by
        have h1 := h9.ar.1
        have h2 : (List.filter isApp S1).length ≤ S1.length := List.length_filter_le _ _
        obtain ⟨_, _, _, _, _, _, _, _, hSl, _⟩ := unhide HX
        omega
      have hnews := cell_one_new A3 (.pointer (some ⟨b, o, none⟩)) 61
      rw [eA4] at hnews
      obtain ⟨i0, hi0, hz0, hz1, hz2⟩ := inf_of infPtr
      have HOW := hide hA4.ow
      have hBA4 : B ≤ A4.heap.size := hA4.bw
      have hsl : ∃ ga na ca, av = .slice ga na ca := by
        rcases h9.ow.2 with ⟨h, _⟩ | ⟨_, _, _, h, _⟩
        · exact ⟨_, _, _, h⟩
        · exact ⟨_, _, _, h⟩
      obtain ⟨ga, na, ca, rfl⟩ := hsl
      have HNW := hide hnews
      have H17 := hide h17
      clear h9 hb09 hp5 hl5 hnt hsz hfil hT9 hin hbA3 hsA3 hcA3 hhA3 hbA4 hsA4 hcA4 hhA4 hA3 hA4 hnews h17
      go_wp2_with (at_builtin; refine wpList_append_own _ rfl _ _ 94 rfl B 61 i0 (.pointer none) 1 8 tPtrs hi0 hz0 hz1 hz2 rfl (by decide) _ _ _ rfl (unhide HOW) ⟨A3.heap.size, 0, none⟩ 1 1 [.pointer (some ⟨b, o, none⟩)] rfl rfl (unhide HNW) ?qc3 ?qc4 ?qc5 hBA4 ?_)
      case qc3 => intro u hu; rw [List.mem_singleton.1 hu]; rfl
      case qc4 => unfold maxLen; omega
      case qc5 => omega
      intro v' w11 hown hgrow hnil
      obtain ⟨h9, hb09, hp5, hl5, hnt, hsz, hfil, hT9, hin⟩ := unhide HF
      have hbA3 : Below W9.heap.size W9 A3 := by rw [← eA3]; exact (Below.refl _ W9).alloc (Nat.le_refl _) _
      have hbA4 : Below A3.heap.size A3 A4 := by rw [← eA4]; exact (Below.refl _ A3).alloc (Nat.le_refl _) _
      have hA4 := (h9.grow hbA3).grow hbA4
      have hb9A : Below B W9 A4 := (hbA3.mono h9.bw).trans (hbA4.mono (h9.grow hbA3).bw)
      obtain ⟨hfin, hcc, hbf⟩ := hA4.app hgrow hown (hT9.more hb9A (Nat.le_refl _) (Nat.le_refl _)) hdD (show t.inst0 = X by rw [hin]; exact unhide HXX) hwt
      obtain ⟨gb, gc, rfl⟩ : ∃ gb gc, v' = .slice gb (ps.length + 1) gc := by
        rcases hown.2 with ⟨_, h⟩ | ⟨g, cap, _, h, _⟩
        · omega
        · exact ⟨_, _, h⟩
      have z3 : w11.cell? ⟨rc, 3, none⟩ = some (.slice ga na ca) := (blk hcc).2.1 3 _ rfl
      have zf3 := (blk hcc).2.2 3
      have HQ := hide (And.intro hfin (hb09.trans (hb9A.trans hbf)))
      clear h9 hb09 hp5 hl5 hnt hsz hfil hT9 hin hbA3 hbA4 hA4 hb9A hfin hcc hbf hown hgrow hnil a3
      go_wp2
      go_ret
      obtain ⟨h9, hb09, hp5, hl5, hnt, hsz, hfil, hT9, hin⟩ := unhide HF
      obtain ⟨hfin, hbf⟩ := unhide HQ
      rw [if_pos (unhide H17)] at hfil
      rw [← hfil] at hfin
      rw [unhide HGI]
      exact ⟨LL', N, rfl, ⟨m1, m2, m3, _, _, e2, e3, _, hfin⟩, hp5, by omega, hnt, hbf⟩
    · have hk17 : kk ≠ 160 := by rw [← unhide HKK]; exact kindOf_app h17
      have ta2 := fun w => ta_no (ty := 160) (v := .agg #[.pointer (some ⟨b, o, none⟩)]) (z := .agg #[.pointer none]) (w := w) hk17 rfl rfl (by go_simp)
      have H17 := hide h17
      clear h17 hk17
      go_wp2
      go_ret
      obtain ⟨h9, hb09, hp5, hl5, hnt, hsz, hfil, hT9, hin⟩ := unhide HF
      have hbb := (Below.refl W9.heap.size W9).alloc (Nat.le_refl _) (.cells #[.pointer none] 160)
      rw [if_neg (unhide H17), List.append_nil] at hfil
      rw [← hfil] at h9
      rw [unhide HGI]
      exact ⟨LL', N, rfl, ⟨m1, m2, m3, av, _, e2, e3, ps, h9.grow hbb⟩, hp5, by omega, hnt, hb09.trans (hbb.mono h9.bw)⟩
theorem gterm_any (D : Nat) : ∀ d, d ≤ D → GTermC D d
  | 0, _ => fun _ _ _ _ _ _ _ _ _ h => h.elim
  | d + 1, h => gterm_of h (glist_of (by omega) (gterm_any D d (by omega)))
end Go.Proofs.YtiockiilenjjaaaDoor

/- Ground applications in a term. -/
namespace Go.Proofs.YtiockiilenjjaaaDoor
open Go Go.RowKit
theorem GM.keepAlloc {κ : Type} [DecidableEq κ] {kv : κ → Value} {w : World} {r : Nat} {es : List (κ × Value)} (h : GM kv w r es) (o : Obj) : GM kv (w.alloc o) r es := h.same (Below.heap_alloc w o r h.lt)
set_option maxRecDepth 1000000 in
set_option maxHeartbeats 16000000 in
theorem groundApps_any {w : World} {B d b o : Nat} {t : Tm} (hT : TmAt w B d b o t) (hB : B ≤ w.heap.size) (hd : d ≤ 65536) (hs : t.size ≤ 1000000) (hwt : t.wt ≤ 400000) :
    Calls Tryd.prog 52 #[.pointer (some ⟨b, o, none⟩)] w fun e w' => ∃ av ps, e = .returned av ∧ w'.ownsRow w.heap.size 61 1 av ps.length (ptrs ps) ∧ AR w' w.heap.size d ps ((insAll t.gs []).filter isApp) ∧ Below w.heap.size w w' := by
  have k1 : ∀ w : World, (Instr.makeMap 152 none).run Tryd.prog w = .ok (.map (some w.heap.size)) (w.alloc (.map #[] 0)) := fun _ => rfl
  have k2 : ∀ w : World, (Instr.makeMap 153 none).run Tryd.prog w = .ok (.map (some w.heap.size)) (w.alloc (.map #[] 0)) := fun _ => rfl
  have k3 : ∀ w : World, (Instr.makeMap 154 none).run Tryd.prog w = .ok (.map (some w.heap.size)) (w.alloc (.map #[] 0)) := fun _ => rfl
  obtain ⟨M, eM⟩ : ∃ M, ((w.alloc (.map #[] 0)).alloc (.map #[] 0)).alloc (.map #[] 0) = M := ⟨_, rfl⟩
  obtain ⟨C, eC, hbC, hsC, hcC, hhC⟩ := box_new M #[.map (some w.heap.size), .map (some (w.heap.size + 1)), .map (some (w.heap.size + 1 + 1)), .slice none 0 0, .bool false] 156
  have hbM : Below w.heap.size w M := by
    rw [← eM]
    exact three (Below.refl _ w) (Nat.le_refl _) _ _ _
  have hsM : M.heap.size = w.heap.size + 1 + 1 + 1 := by rw [← eM]; simp
  have hb0 : Below w.heap.size w C := hbM.trans (hbC.mono hbM.size)
  have n1 : GM kv1 C w.heap.size [] := by rw [← eC, ← eM]; exact (((GM.new w).keepAlloc _).keepAlloc _).keepAlloc _
  have n2 : GM kv2 C (w.heap.size + 1) [] := by
    rw [← eC, ← eM]
    have := ((GM.new (kv := kv2) (w.alloc (.map #[] 0))).keepAlloc (.map #[] 0)).keepAlloc (.cells #[.map (some w.heap.size), .map (some (w.heap.size + 1)), .map (some (w.heap.size + 1 + 1)), .slice none 0 0, .bool false] 156)
    simpa using this
  have n3 : GM kv3 C (w.heap.size + 1 + 1) [] := by
    rw [← eC, ← eM]
    have := (GM.new (kv := kv3) ((w.alloc (.map #[] 0)).alloc (.map #[] 0))).keepAlloc (.cells #[.map (some w.heap.size), .map (some (w.heap.size + 1)), .map (some (w.heap.size + 1 + 1)), .slice none 0 0, .bool false] 156)
    simpa using this
  have hcc : C.heap[w.heap.size + 1 + 1 + 1]? = some (.cells #[.map (some w.heap.size), .map (some (w.heap.size + 1)), .map (some (w.heap.size + 1 + 1)), .slice none 0 0, .bool false] 156) := by rw [← hsM]; exact hhC
  have hCO : COx C w.heap.size d (w.heap.size + 1 + 1 + 1) [] [] := ⟨w.heap.size, w.heap.size + 1, w.heap.size + 1 + 1, .slice none 0 0, [], [], [], [], hcc, by omega, by omega, by omega, by omega, by omega, by omega, by omega, n1, n2, n3, CI.new, fun p hp => absurd hp List.not_mem_nil, ⟨rfl, .inl ⟨rfl, rfl⟩⟩, ⟨rfl, fun k p t hp => by simp at hp⟩⟩
  have HG := hide (gterm_any d d (Nat.le_refl _) w.heap.size (w.heap.size + 1 + 1 + 1) C b o t 0 [] [] (hT.more (hb0.mono hB) hB (Nat.le_refl _)) hCO (by omega) (by simpa using hs) (by simpa using hs) hwt)
  have HE := hide (And.intro eM eC)
  have HB := hide hb0
  clear hbM hsM hb0 n1 n2 n3 hcc hCO hbC hsC hcC hhC eM eC hT hs hd
  go_enter Tryd.func52, Tryd.ntmps52
  go_wp2_with fail
  obtain ⟨eM, eC⟩ := unhide HE
  rw [eM, eC]
  clear eM eC
  refine (unhide HG).mono ?_
  rintro e w1 ⟨LL', x, rfl, ⟨m1, m2, m3, av, e1, e2, e3, ps, hc⟩, _, _, _, hb1⟩
  have c4 : w1.cell? ⟨w.heap.size + 1 + 1 + 1, 4, none⟩ = some (.bool false) := (blk hc.cc).2.1 4 _ rfl
  have c3 : w1.cell? ⟨w.heap.size + 1 + 1 + 1, 3, none⟩ = some av := (blk hc.cc).2.1 3 _ rfl
  have HF := hide (And.intro hc.ow (And.intro hc.ar ((unhide HB).trans hb1)))
  obtain ⟨ga, na, ca, rfl⟩ : ∃ ga na ca, av = .slice ga na ca := by
    rcases hc.ow.2 with ⟨h, _⟩ | ⟨_, _, _, h, _⟩
    · exact ⟨_, _, _, h⟩
    · exact ⟨_, _, _, h⟩
  clear hc hb1 k1 k2 k3
  go_wp2
  go_ret
  exact ⟨_, ps, rfl, unhide HF⟩
end Go.Proofs.YtiockiilenjjaaaDoor

/- Apps: copies of ground applications. -/
namespace Go.Proofs.YtiockiilenjjaaaDoor
open Go Go.RowKit
theorem own_cell {w : World} {B n i : Nat} {ty : TypeId} {a : Option Addr} {m c : Nat} {ps : List (Nat × Nat)} {p : Nat × Nat} (h : w.ownsRow B ty 1 (.slice a m c) n (ptrs ps)) (hp : ps[i]? = some p) : ∃ g, a = some ⟨g, 0, none⟩ ∧ m = n ∧ B ≤ g ∧ (∃ cur, w.heap[g]? = some (.cells cur ty)) ∧ w.cell? ⟨g, i, none⟩ = some (.pointer (some ⟨p.1, p.2, none⟩)) := by
  obtain ⟨h1, ⟨_, h2⟩ | ⟨g, cap, cur, e, h2, h3, h4, h5, h6, h7⟩⟩ := h
  · have hi := (List.getElem?_eq_some_iff.1 hp).1
    simp only [ptrs, List.length_map] at h1
    omega
  · injection e with e1 e2 e3
    refine ⟨g, e1, e2, h2, ⟨cur, h3⟩, (blk h3).2.1 i _ ?_⟩
    have h8 : (cur.toList.take (n * 1))[i]? = some (.pointer (some ⟨p.1, p.2, none⟩)) := by
      rw [h7]
      simp [ptrs, hp]
    rw [List.getElem?_take] at h8
    split at h8
    · rw [← Array.getElem?_toList]
      exact h8
    · cases h8
def icps (l : List Tm) : Nat := (l.map Tm.icp0).sum
theorem icps_take {l : List Tm} {i : Nat} (h : i < l.length) : icps (l.take (i + 1)) = icps (l.take i) + l[i].icp0 := by
  unfold icps
  rw [take_more h, List.map_append, List.sum_append]
  simp
theorem icps_le (l : List Tm) (i : Nat) : icps (l.take i) ≤ icps l := by
  unfold icps
  rw [List.map_take]
  exact sum_take_le _ i
set_option maxRecDepth 1000000 in
set_option maxHeartbeats 16000000 in
theorem copies_any {w : World} {B D n c : Nat} {a : Option Addr} {ps : List (Nat × Nat)} {us : List Tm} (hO : w.ownsRow B 61 1 (.slice a n c) ps.length (ptrs ps)) (hlen : ps.length = us.length) (hn : n = ps.length) (hT : ∀ (k : Nat) p u, ps[k]? = some p → us[k]? = some u → TmAt w B D p.1 p.2 u) (hB : B ≤ w.heap.size) (hsz : szs us ≤ 65536) (hdp : ∀ u ∈ us, u.depth ≤ 65537 ∧ u.wt ≤ 400000) (hic : icps us ≤ 21474836) (hD : D ≤ 65536) :
    Calls Tryd.prog 51 #[.slice a n c] w fun e w' => ∃ a' c', e = .returned (.slice a' n c') ∧ RowP (FB w.heap.size w') a' n c' 7 (fun b o j => ∀ t, (us.map Tm.inst0)[j]? = some t → TmP w' (FB w.heap.size w') (D + 1) b o t) ∧ Below w.heap.size w w' := by
  have hlu : us.length ≤ szs us := by
    clear hsz hdp hic hT hlen
    induction us with
    | nil => exact Nat.le_refl _
    | cons u us ih =>
      have h1 : szs (u :: us) = u.size + szs us := rfl
      have h2 : 0 < u.size := by rw [u.size_eq]; omega
      simp only [List.length_cons]
      omega
  have hn0 : n ≤ 65536 := by omega
  obtain ⟨A, eA, hbA, hsA, hcA, hhA⟩ := box_new w #[.map none, .int .i64 0, .bool false] 122
  have H0 := hide (And.intro (show MS A w.heap.size 0 from hhA) (And.intro hbA hsA))
  have HI := hide (And.intro hO (And.intro hlen (And.intro hn (And.intro hT (And.intro hB (And.intro hsz (And.intro hdp hic)))))))
  clear hO hlen hn hT hB hsz hdp hic hlu hbA hsA hcA hhA
  go_enter Tryd.func51, Tryd.ntmps51
  go_wp2
  clear eA
  go_loopw [13, 4] (fun iv tv wr => ∃ (i s : Nat), i ≤ n ∧ iv = .int .i64 (i : Int) ∧ tv = .int .i64 ((szs (us.take i) : Nat) : Int) ∧ MS wr w.heap.size s ∧ s ≤ szs (us.take i) ∧ But w.heap.size A wr) (fun iv _ _ => (n - (intOf iv).toNat))
  case atStart => exact ⟨0, 0, Nat.zero_le _, rfl, rfl, (unhide H0).1, Nat.le_refl _, But.refl _ _⟩
  case round =>
    obtain ⟨i, s, hi, rfl, rfl, hMi, hsi, hbi⟩ := hrel
    obtain ⟨hO, hlen, hn, hT, hB, hsz, hdp, hic⟩ := unhide HI
    obtain ⟨_, hbA, hsA⟩ := unhide H0
    by_cases hlt : i < n
    · have hip : i < ps.length := by omega
      have hiu : i < us.length := by omega
      have hdi : decide ((i : Int) < (n : Int)) = true := by simp; omega
      have hIi : (i : Int) < (n : Int) := by omega
      have hcap : (i : Int) < 281474976710656 := by omega
      obtain ⟨g, rfl, -, hgB, ⟨cur, hgc⟩, hcell⟩ := own_cell hO (List.getElem?_eq_getElem hip)
      have hgw : g < w.heap.size := (Array.getElem?_eq_some_iff.1 hgc).1
      have hcr : wr.cell? ⟨g, i, none⟩ = some (.pointer (some ⟨ps[i].1, ps[i].2, none⟩)) := (hbi.cell (p := ⟨g, i, none⟩) (by show g < _; omega) (by show g ≠ _; omega)).trans ((hbA.cell (p := ⟨g, i, none⟩) hgw).trans hcell)
      have hTi := hT i _ _ (List.getElem?_eq_getElem hip) (List.getElem?_eq_getElem hiu)
      have hTr : TmAt wr B D ps[i].1 ps[i].2 us[i] := hTi.more ((hbA.mono hB).trans (hbi.below hB (by omega))) (Nat.le_refl _) (Nat.le_refl _)
      have hmore := szs_take hiu
      have hle := szs_le us (i + 1)
      have hdu := (hdp us[i] (List.getElem_mem hiu)).1
      have HM := hide (mterm_any D B w.heap.size s wr ps[i].1 ps[i].2 us[i] 0 hTr hMi hB (by omega) (by omega))
      have HC := hide (capped_eq (szs (us.take i)) us[i].size)
      have HP := hide (And.intro hbi (And.intro hmore (And.intro hsi hle)))
      generalize hpi : ps[i] = pi at *
      obtain ⟨pb, po⟩ := pi
      generalize hus : us[i] = ui at *
      obtain ⟨si, esi⟩ : ∃ x, szs (us.take i) = x := ⟨_, rfl⟩
      have HSI := hide esi
      rw [esi] at HC
      have hfd : ∀ w : World, (Instr.field 67 (.agg #[.int .i64 (ui.size : Int), .int .i64 (ui.depth : Int), .bool ui.ground]) 0).run Tryd.prog w = .ok (.int .i64 (ui.size : Int)) w := fun _ => rfl
      clear hO hlen hn hT hB hsz hdp hic hbA hsA hgB hgc hcell hTi hTr hmore hle hdu hMi hsi hbi hpi hus esi
      go_wp2_with fail
      refine (unhide HM).mono ?_
      rintro e w2 ⟨rfl, hM2, hb2⟩
      obtain ⟨hbi, hmore, hsi, hle⟩ := unhide HP
      have hsz65 : szs us ≤ 65536 := (unhide HI).2.2.2.2.2.1
      have HC2 := hide (unhide HC w2 (by have := unhide HSI; omega))
      have H2 := hide (And.intro hM2 (hbi.trans hb2))
      clear hbi hmore hsi hle hM2 hb2 hsz65
      rw [unhide HSI]
      go_wp2_with fail
      refine (unhide HC2).mono ?_
      rintro e w3 ⟨rfl, rfl⟩
      go_wp2
      obtain ⟨hbi, hmore, hsi, hle⟩ := unhide HP
      refine ⟨⟨i + 1, _, by omega, rfl, ?_, (unhide H2).1, by omega, (unhide H2).2⟩, by simp only [intOf]; omega⟩
      rw [hmore, unhide HSI]
      simp
    · rename World => wq
      obtain rfl : i = n := by omega
      have hdi : decide ((i : Int) < (i : Int)) = false := by simp
      have htk : us.take i = us := List.take_of_length_le (by omega)
      rw [htk]
      obtain ⟨tot, etot⟩ : ∃ x, szs us = x := ⟨_, rfl⟩
      have hd3 : decide ((21474836 : Int) < ((tot : Nat) : Int)) = false := by simp; omega
      rw [etot]
      obtain ⟨E, eE, hbE, hsE, hcE, hhE⟩ := box_new wq #[.map none, .int .i64 0, .bool false] 147
      obtain ⟨cur0, km, hc0⟩ := mkTerms i E (by omega)
      obtain ⟨G, eG, hbG, hsG, hcG, hhG⟩ := box_new E cur0 26
      have hbw : Below w.heap.size w wq := hbA.trans (hbi.below (Nat.le_refl _) (by omega))
      have hwr : w.heap.size < wq.heap.size := by have := hbi.size; omega
      have HG0 : Hid (TB G (wq.heap.size + 1) i cur0 ∧ G.heap[wq.heap.size]? = some (CV (.map none) 0) ∧ Below w.heap.size w G) := by
        refine ⟨⟨by rw [← hsE]; exact hhG, hc0⟩, (hbG.block _ (by omega)).trans hhE, (hbw.trans (hbE.mono (by omega))).trans (hbG.mono (by omega))⟩
      rw [hsE] at km
      have HE := hide (And.intro eE eG)
      have hi65 : i ≤ 65536 := by omega
      clear hO hlen hn hT hB hsz hdp hic hbA hsA hMi hsi hbi htk etot hbE hsE hcE hhE hbG hsG hcG hhG hbw hc0
      go_wp2
      clear eE eG km
      go_loopw [30] (fun iv wv => ∃ (k : Nat) (cur : Array Value), k ≤ i ∧ iv = .int .i64 (k : Int) ∧ TB wv (wq.heap.size + 1) i cur ∧ wv.heap[wq.heap.size]? = some (CV (.map none) (icps (us.take k))) ∧ Below w.heap.size w wv ∧ Made wv (wq.heap.size + 1) D k (us.map Tm.inst0)) (fun iv _ => (i - (intOf iv).toNat))
      case atStart =>
        obtain ⟨h1, h2, h3⟩ := unhide HG0
        exact ⟨0, cur0, Nat.zero_le _, rfl, h1, h2, h3, fun j t hj => absurd hj (by omega)⟩
      case round =>
        obtain ⟨k, cur, hk, rfl, hTB, hCV, hbk, hMk⟩ := hrel
        obtain ⟨hO, hlen, hn, hT, hB, hsz, hdp, hic⟩ := unhide HI
        by_cases hlk : k < i
        · have hip : k < ps.length := by omega
          have hiu : k < us.length := by omega
          have hdk : decide ((k : Int) < (i : Int)) = true := by simp; omega
          have hIk : (k : Int) < (i : Int) := by omega
          have hcapk : (k : Int) < 281474976710656 := by omega
          obtain ⟨g, rfl, -, hgB, ⟨curg, hgc⟩, hcell⟩ := own_cell hO (List.getElem?_eq_getElem hip)
          have hgw : g < w.heap.size := (Array.getElem?_eq_some_iff.1 hgc).1
          have hcr : wr.cell? ⟨g, k, none⟩ = some (.pointer (some ⟨ps[k].1, ps[k].2, none⟩)) := (hbk.cell (p := ⟨g, k, none⟩) hgw).trans hcell
          have hTk := (hT k _ _ (List.getElem?_eq_getElem hip) (List.getElem?_eq_getElem hiu)).more (hbk.mono hB) (Nat.le_refl _) (Nat.le_refl _)
          have hmore := icps_take hiu
          have hle := icps_le us (k + 1)
          have hwu := (hdp us[k] (List.getElem_mem hiu)).2
          have HY := hide (yterm_no D B wq.heap.size wr ps[k].1 ps[k].2 us[k] (fun _ => 0) (icps (us.take k)) 0 hTk (.inl ⟨rfl, fun _ => rfl⟩) hCV (by omega) (by rw [icp_no hTk]; omega) (by omega) (fun _ => ⟨Int.le_refl _, by show (0 : Int) + (us[k].wt : Int) ≤ 400000; omega⟩))
          rw [icp_no hTk, inst_no hTk] at HY
          have hgi : (us.map Tm.inst0)[k]? = some us[k].inst0 := by rw [List.getElem?_map, List.getElem?_eq_getElem hiu]; rfl
          have HP := hide (And.intro hTB (And.intro hbk (And.intro hMk (And.intro hmore hgi))))
          generalize hpk : ps[k] = pk at *
          obtain ⟨pb, po⟩ := pk
          generalize hus : us[k] = uk at *
          clear hO hlen hn hT hB hsz hdp hic hgB hgc hcell hTk hmore hle hwu hTB hCV hbk hMk hpk hus hgi
          go_wp2_with fail
          refine (unhide HY).mono ?_
          rintro e w7 ⟨v, rfl, hI7, hW7, hS7, hX7, hB7⟩
          obtain ⟨hTB, hbk, hMk, hmore, hgi⟩ := unhide HP
          have hbut := hB7 trivial
          have hT7 : TB w7 (wq.heap.size + 1) i cur := ⟨hX7.blk hTB.1 (by omega) (by decide), hTB.2⟩
          have hgl : wq.heap.size + 1 < wr.heap.size := (Array.getElem?_eq_some_iff.1 hTB.1).1
          have hV : IsP w7 (FB wr.heap.size w7) D v uk.inst0 := hI7
          obtain ⟨h1', h2', aL, aV, aP, cL, cV, cP, rfl, hL, hV', hP'⟩ := hI7
          generalize hti : uk.inst0 = ti at *
          simp only [tcells, List.toArray] at hV ⊢
          obtain ⟨cur', hT9, hM9⟩ := hMk.next (a := .int .i64 ti.op) (b := .string ti.name) (c := .int .i64 ti.sort) (e := .string ti.num) (f := .slice aL ti.l.length cL) (h := .slice aV ti.vars.length cV) (k := .slice aP ti.pat.length cP) hgl hT7 (fun q hq => by
            rcases hq with hq | rfl
            · exact hbut.block q hq.2.1 (by have := hq.1; omega)
            · exact hbut.block _ hgl (by omega)) hX7.size hlk (fun t ht => by
            rw [hgi] at ht
            injection ht with ht
            rw [← ht]
            exact hV)
          have hb9 : Below w.heap.size w7 _ := put7_below (m := k * 7) (a := .int .i64 ti.op) (b := .string ti.name) (c := .int .i64 ti.sort) (d := .string ti.num) (e := .slice aL ti.l.length cL) (f := .slice aV ti.vars.length cV) (h := .slice aP ti.pat.length cP) (show w.heap.size ≤ wq.heap.size + 1 by omega)
          have hb09 := (hbk.trans (hbut.below (by omega) (by omega))).trans hb9
          have hW9 := (put7_far (w := w7) (g := wq.heap.size + 1) (m := k * 7) (a := .int .i64 ti.op) (b := .string ti.name) (c := .int .i64 ti.sort) (d := .string ti.num) (e := .slice aL ti.l.length cL) (f := .slice aV ti.vars.length cV) (h := .slice aP ti.pat.length cP) (show wq.heap.size ≠ wq.heap.size + 1 by omega)).trans hW7
          rw [← hmore] at hW9
          obtain ⟨x0, z0, f0⟩ := hT7.cell (k := k * 7) (by omega)
          obtain ⟨x1, z1, f1⟩ := hT7.cell (k := k * 7 + 1) (by omega)
          obtain ⟨x2, z2, f2⟩ := hT7.cell (k := k * 7 + 2) (by omega)
          obtain ⟨x3, z3, f3⟩ := hT7.cell (k := k * 7 + 3) (by omega)
          obtain ⟨x4, z4, f4⟩ := hT7.cell (k := k * 7 + 4) (by omega)
          obtain ⟨x5, z5, f5⟩ := hT7.cell (k := k * 7 + 5) (by omega)
          obtain ⟨x6, z6, f6⟩ := hT7.cell (k := k * 7 + 6) (by omega)
          have H9 := hide (And.intro hT9 (And.intro hW9 (And.intro hb09 hM9)))
          unfold put7 at H9
          clear hTB hbk hMk hmore hgi hbut hT7 hgl hV h1' h2' hL hV' hP' hti hT9 hM9 hb9 hb09 hW9 hW7 hS7 hX7 hB7 hcr
          generalize ti.l.length = nL at *
          generalize ti.vars.length = nV at *
          generalize ti.pat.length = nP at *
          go_wp2

          exact ⟨⟨k + 1, cur', by omega, rfl, unhide H9⟩, by simp only [intOf]; omega⟩
        · obtain rfl : k = i := by omega
          have hdk : decide ((k : Int) < (k : Int)) = false := by simp
          have hrow := hMk.row hTB (m := w.heap.size) (by omega) (by omega)
          have HF := hide (And.intro hrow hbk)
          clear hO hlen hn hT hB hsz hdp hic hTB hCV hbk hMk hrow
          go_wp2
          go_ret
          exact ⟨_, _, rfl, (unhide HF).1, (unhide HF).2⟩
end Go.Proofs.YtiockiilenjjaaaDoor

/- Apps. -/
namespace Go.Proofs.YtiockiilenjjaaaDoor
open Go Go.RowKit
/-- The ground applications in a term, bare. -/
def Tm.apps (t : Tm) : List Tm := (insAll t.gs []).filter isApp
theorem maxOf_le {l : List Nat} {n : Nat} (h : ∀ x ∈ l, x ≤ n) : maxOf l ≤ n := by
  unfold maxOf
  have : ∀ (l : List Nat) (a : Nat), a ≤ n → (∀ x ∈ l, x ≤ n) → l.foldl max a ≤ n := fun l => by
    induction l with
    | nil => intro a ha _; exact ha
    | cons x l ih =>
      intro a ha hl
      exact ih (max a x) (by have := hl x List.mem_cons_self; omega) (fun y hy => hl y (List.mem_cons_of_mem _ hy))
  exact this l 0 (Nat.zero_le _) h
theorem TmAt.depth_le {w : World} {B : Nat} : ∀ {d b o : Nat} {t : Tm}, TmAt w B d b o t → t.depth ≤ d
  | 0, _, _, _, h => h.elim
  | d + 1, b, o, t, ⟨_, _, _, aL, aV, aP, cL, cV, cP, _, hL, _, _, _⟩ => by
    rw [t.depth_eq]
    have := maxOf_le (l := t.l.map Tm.depth) (n := d) (fun x hx => by
      obtain ⟨u, hu, rfl⟩ := List.mem_map.1 hx
      obtain ⟨j, hj, rfl⟩ := List.getElem_of_mem hu
      obtain ⟨b', off, _, _, hjj⟩ := hL.2.2 (by omega)
      exact TmAt.depth_le (hjj j hj _ (List.getElem?_eq_getElem hj)))
    omega
theorem sizeL0 {l : List Tm} (h : ∀ u ∈ l, u.inst0.size = u.size) : l.map (Tm.size ∘ Tm.inst0) = l.map Tm.size := List.map_congr_left fun u hu => h u hu
theorem Tm.size_inst0 (t : Tm) : t.inst0.size = t.size := Tm.ind (p := fun t => t.inst0.size = t.size) (fun t hl _ => by
  rw [Tm.inst0_eq, Tm.size_eq, Tm.size_eq]
  simp only [List.map_map, sizeL0 hl]) t
theorem sizeL_inst0 (l : List Tm) : l.map (Tm.size ∘ Tm.inst0) = l.map Tm.size := sizeL0 fun u _ => u.size_inst0
theorem icpL0 {l : List Tm} (hi : ∀ u ∈ l, u.ground = true → u.icp0 + 1 = u.size) (h : ∀ u ∈ l, u.ground = true) : l.length + (l.map fun u => Tm.icp0 u).sum = (l.map Tm.size).sum := by
  induction l with
  | nil => rfl
  | cons t l ih =>
    have h1 := hi t List.mem_cons_self (h t List.mem_cons_self)
    have h2 := ih (fun u hu => hi u (List.mem_cons_of_mem _ hu)) (fun u hu => h u (List.mem_cons_of_mem _ hu))
    simp only [List.map_cons, List.sum_cons, List.length_cons]
    omega
/-- A ground term is copied, and weighs, as much as it has operators. -/
theorem Tm.icp_ground (t : Tm) : t.ground = true → t.icp0 + 1 = t.size := Tm.ind (p := fun t => t.ground = true → t.icp0 + 1 = t.size) (fun t hl _ h => by
  obtain ⟨_, h19, hg⟩ := (Tm.ground_iff _).1 h
  have h3 := icpL0 hl hg
  obtain ⟨op, name, sort, num, l, vars, pat⟩ := t
  rw [Tm.icp0, Tm.size_eq]
  simp only at h19 h3 ⊢
  rw [if_neg h19]
  omega) t
theorem icpL_ground (l : List Tm) (h : ∀ u ∈ l, u.ground = true) : l.length + (l.map fun u => Tm.icp0 u).sum = (l.map Tm.size).sum := icpL0 (fun u _ => u.icp_ground) h
theorem same_of {us : List Tm} {ts : List Tm} (hlen : us.length = ts.length) (h : ∀ (k : Nat) u t, us[k]? = some u → ts[k]? = some t → u.inst0 = t) : us.map Tm.inst0 = ts := by
  refine List.ext_getElem (by simpa using hlen) fun k h1 h2 => ?_
  rw [List.getElem_map]
  have h3 : k < us.length := by simpa using h1
  exact h k _ _ (List.getElem?_eq_getElem h3) (List.getElem?_eq_getElem h2)
theorem apps_pick {α β : Type} {R : α → β → Prop} : ∀ (ps : List α) (ts : List β) {γ : Type} {Q : α → γ → Prop} {f : γ → β}, ps.length = ts.length → (∀ (k : Nat) p t, ps[k]? = some p → ts[k]? = some t → ∃ u, Q p u ∧ f u = t) → ∃ us : List γ, us.length = ps.length ∧ (∀ (k : Nat) p u, ps[k]? = some p → us[k]? = some u → Q p u) ∧ us.map f = ts
  | [], [], _, _, _, _, _ => ⟨[], rfl, fun k p u h => by simp at h, rfl⟩
  | [], _ :: _, _, _, _, h, _ => by simp at h
  | _ :: _, [], _, _, _, h, _ => by simp at h
  | p :: ps, t :: ts, γ, Q, f, hl, h => by
    obtain ⟨u, hu, e⟩ := h 0 p t rfl rfl
    obtain ⟨us, h1, h2, h3⟩ := apps_pick (R := R) ps ts (Q := Q) (f := f) (by simpa using hl) (fun k p t hp ht => h (k + 1) p t (by simpa using hp) (by simpa using ht))
    refine ⟨u :: us, by simp [h1], fun k p' u' hp hu' => ?_, by simp [e, h3]⟩
    cases k with
    | zero =>
      simp at hp hu'
      subst hp hu'
      exact hu
    | succ k => exact h2 k p' u' (by simpa using hp) (by simpa using hu')
set_option maxRecDepth 1000000 in
set_option maxHeartbeats 16000000 in
theorem Apps_any {w : World} {B d : Nat} {v : Value} {t : Tm} (hT : IsT w B d v t) (hB : B ≤ w.heap.size) (hd : d + 1 ≤ 65536) (hs : t.size ≤ 65537) (hsz : szs t.apps ≤ 65536) (hwt : t.wt ≤ 400000) :
    Calls Tryd.prog 28 #[v] w fun e w' => ∃ a' c', e = .returned (.slice a' t.apps.length c') ∧ RowP (FB w.heap.size w') a' t.apps.length c' 7 (fun b o j => ∀ x, t.apps[j]? = some x → TmP w' (FB w.heap.size w') (d + 2) b o x) ∧ Below w.heap.size w w' := by
  obtain ⟨x0, x1, x2, x3, x4, x5, x6, rfl⟩ := hT.form
  obtain ⟨A, eA, hbA, hsA, hcA, hhA⟩ := box_new w #[x0, x1, x2, x3, x4, x5, x6] 26
  have hTA := hT.boxed hB
  rw [eA] at hTA
  have HGr := hide (groundApps_any hTA (by omega) hd (by omega) hwt)
  have HI := hide (And.intro hbA (And.intro hsA hsz))
  clear hT hbA hsA hcA hhA hTA hsz hwt
  go_enter Tryd.func28, Tryd.ntmps28
  go_wp2_with fail
  refine (unhide HGr).mono ?_
  rintro e w1 ⟨av, ps, rfl, hO, hAR, hb1⟩
  obtain ⟨hbA, hsA, hsz⟩ := unhide HI
  obtain ⟨us, hul, huT, hum⟩ := apps_pick (R := fun (_ : Nat × Nat) (_ : Tm) => True) ps t.apps (Q := fun p u => TmAt w1 A.heap.size (d + 1) p.1 p.2 u ∧ u.wt ≤ 400000) (f := Tm.inst0) hAR.1 (fun k p t hp ht => by
    obtain ⟨u, h1, h2, h3⟩ := hAR.2 k p t hp ht
    exact ⟨u, ⟨h1, h3⟩, h2⟩)
  have hmem : ∀ u ∈ us, u.inst0 ∈ t.apps := fun u hu => by rw [← hum]; exact List.mem_map_of_mem hu
  have hss : szs us = szs t.apps := by
    unfold szs
    rw [← hum, List.map_map, sizeL_inst0]
  have hgr : ∀ u ∈ us, u.ground = true := fun u hu => by
    have h1 : u.inst0 ∈ insAll t.gs [] := (List.mem_filter.1 (hmem u hu)).1
    have h2 := (insAll_mem (xs := t.gs) (S := []) (fun y hy => absurd hy List.not_mem_nil) t.gs_bg).2 _ h1
    rw [← u.ground_inst0]
    exact h2.2
  have hic : icps us ≤ 65536 := by
    have h1 := icpL_ground us hgr
    unfold icps
    unfold szs at hss hsz
    have : (us.map Tm.icp0).sum = (us.map fun u => Tm.icp0 u).sum := rfl
    omega
  obtain ⟨a, m, c, rfl, hm⟩ : ∃ a m c, av = .slice a m c ∧ m = ps.length := by
    rcases hO.2 with ⟨h, h0⟩ | ⟨g, cap, cur, h, _⟩
    · exact ⟨_, _, _, h, by omega⟩
    · exact ⟨_, _, _, h, rfl⟩
  have hpl : ps.length = t.apps.length := hAR.1
  have HC := hide (copies_any (w := w1) (B := A.heap.size) (D := d + 1) hO hul.symm hm (fun k p u hp hu => (huT k p u hp hu).1) hb1.size (by omega) (fun u hu => by
    obtain ⟨k, hk, rfl⟩ := List.getElem_of_mem hu
    have h := huT k _ _ (List.getElem?_eq_getElem (by omega)) (List.getElem?_eq_getElem hk)
    exact ⟨by have := h.1.depth_le; omega, h.2⟩) (by omega) hd)
  rw [hum] at HC
  have H1 := hide (And.intro hb1 (And.intro hm hpl))
  clear hbA hsA hsz hul huT hum hmem hss hgr hic hm hpl hO hAR hb1
  go_wp2_with fail
  refine (unhide HC).mono ?_
  rintro e w2 ⟨a', c', rfl, hR, hb2⟩
  have H2 := hide (And.intro hR hb2)
  clear hR hb2
  go_wp2
  go_ret
  obtain ⟨hb1, hm, hpl⟩ := unhide H1
  obtain ⟨hbA, hsA, hsz⟩ := unhide HI
  obtain ⟨hR, hb2⟩ := unhide H2
  rw [hm, hpl] at hR ⊢
  have hbb : Below w.heap.size w w2 := (hbA.trans (hb1.mono hbA.size)).trans (hb2.mono (Nat.le_trans hbA.size hb1.size))
  have hk : ∀ k, FB w1.heap.size w2 k → FB w.heap.size w2 k ∧ w2.heap[k]? = w2.heap[k]? := fun k hk => hk.keep (Nat.le_trans hbA.size hb1.size) (Nat.le_refl _) rfl
  exact ⟨a', c', rfl, hR.imp (fun k h => (hk k h).1) (fun b o j hb h x hx => (h x hx).keep hk (Nat.le_refl _)), hbb⟩
end Go.Proofs.YtiockiilenjjaaaDoor

namespace Go.Proofs.YtiockiilenjjaaaDoor
open Go Go.RowKit
theorem pc_digit (d : UInt8) (h : 48 ≤ d.toNat ∧ d.toNat ≤ 57) : PC (fun _ => true) ⟨#[d]⟩ := fun w => by
  refine (Nm.parse_yes false [d] w (fun b hb => by rw [List.mem_singleton.1 hb]; exact h) (by simp) (fun e => by simp at e; simp [e]) (by simp)).mono ?_
  rintro e w' ⟨r, rfl, hb, hI⟩
  rcases hI with ⟨rfl, _⟩ | ⟨b, off, cap, xs, rfl, _⟩
  · exact ⟨_, _, _, _, rfl, hb⟩
  · exact ⟨_, _, _, _, rfl, hb⟩
end Go.Proofs.YtiockiilenjjaaaDoor
