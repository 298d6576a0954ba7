/- Inst. -/
import Derived.Test.YtegmckpcchhmdaaDoorZAM
set_option linter.unusedVariables false
set_option linter.unusedSimpArgs false

/- Copies: a TAll that stands. -/
namespace Go.Proofs.YtegmckpcchhmdaaDoor
open Go Go.RowKit
set_option maxRecDepth 1000000 in
set_option maxHeartbeats 16000000 in
theorem yterm_all {sub : ByteArray → Option Tm} {dl d : Nat} {sv : Value} (hL : YListC sub dl sv d) {B r : Nat} {w : World} {b o : Nat} {t : Tm} {hid : ByteArray → Int} {cp un : Nat} (hT : TmAt w B (d + 1) b o t) (hS : SLv w B sv dl sub hid) (hW : w.heap[r]? = some (CV sv cp)) (hBr : B ≤ r) (hcp : cp + t.icp sub hid ≤ 21474836) (hu : un + (d + 1) + dl ≤ 65536) (hh : ∀ k, 0 ≤ hid k ∧ hid k + t.wt ≤ 400000) (hr : rep sub hid t.op t.name = none) (h19 : t.op = 19) :
    Calls Tryd.prog 36 #[.pointer (some ⟨r, 0, none⟩), .pointer (some ⟨b, o, none⟩), .int .i64 un] w fun e w' => ∃ v, e = .returned v ∧ IsP w' (FB w.heap.size w') (d + 1 + dl) v (t.inst sub hid) ∧ w'.heap[r]? = some (CV sv (cp + t.icp sub hid)) ∧ SLv w' B sv dl sub hid ∧ XF B r w w' ∧ (sv = .map none → But r w w') := by
  obtain ⟨ei, ec⟩ := inst_all hr h19
  rw [ec] at hcp
  rw [ei, ec]
  have hlab : t.label = .agg #[.int .i64 t.op, .string (if t.op = 17 ∨ t.op = 18 then t.name else .empty), .string (if t.op = 1 then t.num else .empty), .int .i64 (if t.op = 18 then t.sort else 0)] := rfl
  have hfs : fits (if t.op = 18 then t.sort else 0) := by
    split
    · exact (show fits t.sort from hT.2.2.1)
    · unfold fits; omega
  generalize hnm : (if t.op = 17 ∨ t.op = 18 then t.name else ByteArray.empty) = nm at *
  generalize hnu : (if t.op = 1 then t.num else ByteArray.empty) = nu at *
  generalize hso : (if t.op = 18 then t.sort else (0 : Int)) = so at *
  have hrw := (Array.getElem?_eq_some_iff.1 hW).1
  have hBw : B ≤ w.heap.size := by omega
  obtain ⟨hid', ehid⟩ : ∃ h, hidV 1 t.vars hid = h := ⟨_, rfl⟩
  rw [ehid] at hcp ⊢
  have hww : ∀ k, 0 ≤ hid k ∧ hid k + (t.vars.length + lwt t.l + lwt t.pat) ≤ 400000 := fun k => (hh k).imp id (fun h => by
    rw [t.wt_eq] at h
    unfold lwt
    omega)
  have hcn : ∀ k, (cnt k t.vars : Int) ≤ t.vars.length := fun k => by have := cnt_le k t.vars; omega
  have hlw : ∀ k, 0 ≤ hid' k ∧ hid' k + (lwt t.l + lwt t.pat) ≤ 400000 := fun k => by
    have h1 := hww k
    have h2 := hcn k
    rw [← ehid]
    unfold hidV
    omega
  have hvl : t.vars.length ≤ 400000 := by have := hww t.name; omega
  have HB0 : Hid (∀ k, -500000 ≤ hid k ∧ hid k ≤ 500000) := fun k => by have := hww k; omega
  have HB9 : Hid (∀ k, -500000 ≤ hid' k ∧ hid' k ≤ 500000) := fun k => by have := hlw k; omega
  have HEB := hide (show hidV (-1) t.vars hid' = hid by rw [← ehid]; exact hidV_back t.vars hid)
  have HEH := hide ehid
  obtain ⟨hb, hfo, _, aL, aV, aP, cL, cV, cP, hrg, hRL, hV, hP, _⟩ := hT
  have hbw : b < w.heap.size := by omega
  obtain ⟨n, hn⟩ : ∃ n, t.l.length = n := ⟨_, rfl⟩
  obtain ⟨nv, hnv⟩ : ∃ n, t.vars.length = n := ⟨_, rfl⟩
  obtain ⟨np, hnp⟩ : ∃ n, t.pat.length = n := ⟨_, rfl⟩
  rw [hn] at hRL
  rw [hnp] at hP
  have hcv : cp + nv ≤ 21474836 := by rw [← hnv]; omega
  rw [hnv] at hvl
  have HNV := hide hnv
  have HNP := hide hnp
  obtain ⟨ml, eml⟩ : ∃ ml, (t.l.map fun u => u.inst sub hid') = ml := ⟨_, rfl⟩
  obtain ⟨mp, emp⟩ : ∃ ml, (t.pat.map fun u => u.inst sub hid') = ml := ⟨_, rfl⟩
  have hml : ml.length = n := by rw [← eml, List.length_map, hn]
  have hmp : mp.length = np := by rw [← emp, List.length_map, hnp]
  rw [eml, emp]
  obtain ⟨il, eil⟩ : ∃ x, icpL sub t.l hid' = x := ⟨_, rfl⟩
  obtain ⟨ip, eip⟩ : ∃ x, icpL sub t.pat hid' = x := ⟨_, rfl⟩
  rw [eil, eip, hnv] at hcp ⊢
  have HIC := hide (And.intro eil (And.intro eip (And.intro emp (And.intro hmp (And.intro hP hV)))))
  obtain ⟨A, eA, hbA, hsA, hcA, hhA⟩ := box_new w #[.int .i64 0, .string ⟨#[]⟩, .int .i64 0, .string ⟨#[]⟩, .slice none 0 0, .slice none 0 0, .slice none 0 0] 25
  have c0 : A.cell? ⟨b, o, none⟩ = some (.int .i64 t.op) := (hbA.cell (p := ⟨b, o, none⟩) hbw).trans (hrg 0 _ rfl)
  have hWA : A.heap[r]? = some (CV sv cp) := (hbA.block r hrw).trans hW
  have HG := hide hrg
  have HN := hide hn
  have HI := hide (And.intro hS (And.intro hW (And.intro hbA (And.intro hhA (And.intro hsA (And.intro eml (And.intro hr (And.intro hcp (And.intro hRL (And.intro hlw (And.intro hlab (And.intro hfo (And.intro hfs hml)))))))))))))
  have HL := hide hL
  have hbA1 : b < A.heap.size := by omega
  have HWA := hide hWA
  have hrA : r < A.heap.size := by omega
  have hkk := hide (show kindOf t.op = 82 by rw [h19]; rfl)
  have ta0 := fun w => ta_yes (ty := 82) (v := .agg #[.pointer (some ⟨b, o, none⟩)]) (w := w) rfl rfl
  clear hrg hRL hV hP hS hW hr ei ec hL eml hbA hhA hsA hcA hcp hWA hlw hlab hfo hfs hml hnm hnu hso hn hh h19 hww hcn ehid hnv hnp emp hmp eil eip
  go_enter Tryd.func36, Tryd.ntmps36
  go_wp2_with fail
  refine (view_any b o t.op A c0 hbA1).mono ?_
  rintro e w1 ⟨rfl, hb1⟩
  have r01 : w1.cell? ⟨r, 0, none⟩ = some sv := (blk ((hb1.block r hrA).trans (unhide HWA))).2.1 0 _ rfl
  have HB1 := hide hb1
  clear hb1 c0
  go_wp2_with fail
  obtain ⟨hS, hW, hbA, hhA, hsA, eml, hr, hcp, hRL, hlw, hlab, hfo, hfs, hml⟩ := unhide HI
  have hb01 : Below w.heap.size w w1 := hbA.trans ((unhide HB1).mono (by omega))
  refine (of_any (hS.below hb01 (Nat.le_refl _)) (by have := hb01.size; omega) (by have := hb01.size; omega) ((hb01.cell (p := ⟨b, o + 1, none⟩) hbw).trans ((unhide HG) 1 _ rfl))).mono ?_
  rintro e w2 ⟨hb2, h2⟩
  rw [hr] at h2
  have he : e = .returned (.pointer none) := by
    rcases h2 with ⟨_, h⟩ | ⟨_, _, _, _, h, _⟩
    · exact h
    · cases h
  subst he
  have hb02 : Below w.heap.size w w2 := hb01.trans (hb2.mono hb01.size)
  have hz2 : w2.heap[w.heap.size]? = some (.cells #[.int .i64 0, .string ⟨#[]⟩, .int .i64 0, .string ⟨#[]⟩, .slice none 0 0, .slice none 0 0, .slice none 0 0] 25) := by
    rw [hb2.block _ (by have := (unhide HB1).size; omega), (unhide HB1).block _ (by omega)]
    exact hhA
  have hbc := fun k (h : k < 7) v (hv : (tcells t aL aV aP cL cV cP)[k]? = some v) => (hb02.cell (p := ⟨b, o + k, none⟩) hbw).trans ((unhide HG) k v hv)
  have HLab := hide (labelOf_any (w := w2) (b := b) (o := o) (t := t) (hbc 0 (by omega) _ rfl) (hbc 1 (by omega) _ rfl) (hbc 2 (by omega) _ rfl) (hbc 3 (by omega) _ rfl) (Nat.lt_of_lt_of_le hbw hb02.size))
  rw [hlab] at HLab
  have H2 := hide (And.intro hb02 hz2)
  clear hS hW hbA hhA hsA eml hr hcp hRL hlw hlab hfo hfs hml hb01 hb2 h2 hb02 hz2 hbc HB1
  go_wp2_with fail
  refine (unhide HLab).mono ?_
  rintro e w3 ⟨rfl, hb3⟩
  have HB3 := hide hb3
  clear hb3 HLab
  go_wp2_with fail
  refine (bare_any t.op so nm nu w3).mono ?_
  rintro e w4 ⟨rfl, hb4⟩
  obtain ⟨hb02, hz2⟩ := unhide H2
  have hb04 : Below w.heap.size w w4 := (hb02.trans ((unhide HB3).mono hb02.size)).trans (hb4.mono (Nat.le_trans hb02.size (unhide HB3).size))
  have hz4 : w4.heap[w.heap.size]? = some (.cells #[.int .i64 0, .string ⟨#[]⟩, .int .i64 0, .string ⟨#[]⟩, .slice none 0 0, .slice none 0 0, .slice none 0 0] 25) := by
    rw [hb4.block _ (Nat.lt_of_lt_of_le (Array.getElem?_eq_some_iff.1 hz2).1 (unhide HB3).size), (unhide HB3).block _ (Array.getElem?_eq_some_iff.1 hz2).1]
    exact hz2
  have hlt4 : w.heap.size < w4.heap.size := (Array.getElem?_eq_some_iff.1 hz4).1
  have hqr : w4.heap.size ≠ r := by omega
  have hrq : r ≠ w4.heap.size := by omega
  have hzr : w.heap.size ≠ r := by omega
  have hur : w4.heap.size + 1 ≠ r := by omega
  have hru : r ≠ w4.heap.size + 1 := by omega
  have hzq : w.heap.size ≠ w4.heap.size := by omega
  have hqz : w4.heap.size ≠ w.heap.size := by omega
  have huq : w4.heap.size + 1 ≠ w4.heap.size := by omega
  have hqu : w4.heap.size ≠ w4.heap.size + 1 := by omega
  have hbq : b ≠ w4.heap.size := by omega
  have hqb : w4.heap.size ≠ b := by omega
  have hbr : b ≠ r := by omega
  have hrb : r ≠ b := by omega
  have HQ := hide (show w.heap.size ≤ w4.heap.size ∧ B ≤ w4.heap.size by omega)
  obtain ⟨E, eE, hbE, hsE, hcE, hhE⟩ := box_new w4 #[.int .i64 t.op, .string nm, .int .i64 so, .string nu, .slice none 0 0, .slice none 0 0, .slice none 0 0] 25
  obtain ⟨F, eF, hbF, hsF, hcF, hhF⟩ := box_new E #[.pointer (some ⟨b, o, none⟩)] 82
  have hb0F : Below w.heap.size w F := (hb04.trans (hbE.mono hb04.size)).trans (hbF.mono (by have := hb04.size; omega))
  obtain ⟨hS, hW, hbA, hhA, hsA, eml, hr, hcp, hRL, hlw, hlab, hfo, hfs, hml⟩ := unhide HI
  have hI0 : YI B r w.heap.size w4.heap.size (w4.heap.size + 1) dl sv sub b o w F hid cp #[.int .i64 t.op, .string nm, .int .i64 so, .string nu, .slice none 0 0, .slice none 0 0, .slice none 0 0] := by
    refine ⟨(hb0F.block r hrw).trans hW, hS.below hb0F (Nat.le_refl _), XF.of hb0F (Nat.le_refl _), fun _ => But.of hb0F (Nat.le_refl _), (hbF.block _ (by omega)).trans hhE, ?_, ?_⟩
    · rw [hbF.block _ (by omega), hbE.block _ hlt4]
      exact hz4
    · rw [← hsE]
      exact hhF
  have hFs : w4.heap.size + 2 = F.heap.size := by omega
  have HFS := hide hFs
  have HEF := hide (And.intro eE eF)
  have H0 := hide hI0
  obtain ⟨m0, m1, mk⟩ := hI0.cells (unhide HG) hBw hb
  have m5 : F.cell? ⟨b, o + 5, none⟩ = some (.slice aV nv cV) := by rw [← unhide HNV]; exact mk 5 _ rfl
  have n1 : F.cell? ⟨r, 1, none⟩ = some (.int .i64 (cp : Int)) := (blk hI0.cv).2.1 1 _ rfl
  have nf1 := (blk hI0.cv).2.2 1
  have hvI : (nv : Int) ≤ 400000 := by omega
  have hcI : (cp : Int) + (nv : Int) ≤ 21474836 := by omega
  clear hS hW hbA hhA hsA eml hr hcp hRL hlw hlab hfo hfs hml hb02 hz2 hb04 hz4 hb4 hbE hsE hcE hhE hbF hsF hcF hhF hb0F HB3 H2 r01 eE eF hI0 mk hFs hlt4
  rw [unhide hkk]
  go_wp2_with fail
  obtain ⟨eE, eF⟩ := unhide HEF
  rw [eE, eF]
  clear eE eF HEF
  go_region
  obtain ⟨V, eV⟩ : ∃ V, (F.setCell ⟨r, 1, none⟩ (.int .i64 ((cp : Int) + (nv : Int)))).drew = V := ⟨_, rfl⟩
  rw [eV]
  have hIV : YI B r w.heap.size w4.heap.size (w4.heap.size + 1) dl sv sub b o w V hid (cp + nv) #[.int .i64 t.op, .string nm, .int .i64 so, .string nu, .slice none 0 0, .slice none 0 0, .slice none 0 0] := by
    rw [← eV, show ((cp : Int) + (nv : Int)) = ((cp + nv : Nat) : Int) by omega]
    exact ((unhide H0).copied hBr hqr hzr hur (cp + nv)).grow (keep0 _)
  have hVs : F.heap.size ≤ V.heap.size := by
    rw [← eV]
    exact Nat.le_trans (by simp) (keep0 _).size
  have HVS := hide (show w4.heap.size + 2 ≤ V.heap.size by have := unhide HFS; omega)
  clear m0 m1 m5 n1 nf1 eV hVs
  obtain ⟨m0, m1, mk⟩ := hIV.cells (unhide HG) hBw hb
  have m5 : V.cell? ⟨b, o + 5, none⟩ = some (.slice aV nv cV) := by rw [← unhide HNV]; exact mk 5 _ rfl
  have HIV := hide hIV
  have HCl := hide (clone_any (w := V) (B := B) (n := nv) (c := cV) (a := aV) (x := t.vars) (by
    have hV := (unhide HIC).2.2.2.2.2
    rw [unhide HNV] at hV
    exact hV.mono (Nat.le_refl _) fun b o j hb2 h u hu => ⟨rangeAt_below (h u hu).1 hb2 (hIV.xf.below hBw), (h u hu).2⟩) (unhide HNV).symm (by have := hIV.xf.size; omega) hvl)
  clear mk hIV
  go_wp2_with fail
  refine (unhide HCl).mono ?_
  rintro e w5 ⟨aC, cC, rfl, hcC, hclo, hb5⟩
  have hI5 := (unhide HIV).grow hb5
  have HCL := hide (And.intro hcC (And.intro hclo hb5))
  have y5 : w5.cell? ⟨w4.heap.size, 5, none⟩ = some (.slice none 0 0) := (blk hI5.out).2.1 5 _ rfl
  have yf5 := (blk hI5.out).2.2 5
  obtain ⟨G1, eG1⟩ : ∃ G, w5.setCell ⟨w4.heap.size, 5, none⟩ (.slice aC nv cC) = G := ⟨_, rfl⟩
  have H1' : Hid (YI B r w.heap.size w4.heap.size (w4.heap.size + 1) dl sv sub b o w G1 hid (cp + nv) #[.int .i64 t.op, .string nm, .int .i64 so, .string nu, .slice none 0 0, .slice aC nv cC, .slice none 0 0]) := by
    rw [← eG1]
    exact hI5.put hqr hzq huq (unhide HQ).1 (unhide HQ).2 5 _
  have HE1 := hide eG1
  clear hcC hclo hb5 hI5 m0 m1 m5 HCl eG1
  go_wp2_with fail
  rw [unhide HE1]
  clear y5 yf5
  have HC1 : Hid (∀ W', Below G1.heap.size G1 W' → Calls Tryd.prog 51 #[sv, .slice aV nv cV, .int .i64 1] W' fun e w' => e = .returned (.tuple #[]) ∧ YI B r w.heap.size w4.heap.size (w4.heap.size + 1) dl sv sub b o w w' hid' (cp + nv) #[.int .i64 t.op, .string nm, .int .i64 so, .string nu, .slice none 0 0, .slice aC nv cC, .slice none 0 0] ∧ KF (w4.heap.size + 2) G1 w') := fun W' h => by
    have k := unhide H1'
    have hV := (unhide HIC).2.2.2.2.2
    rw [← unhide HEH, ← unhide HNV]
    rw [← unhide HNV] at k
    exact hide_c k hV hBw (.inl rfl) (unhide HB0) (by rw [unhide HNV]; exact hvl) W' h
  have HSC : Hid (∀ w', Below G1.heap.size G1 w' → (w'.cell? ⟨r, 0, none⟩ = some sv ∧ w'.cell? ⟨w4.heap.size + 1, 0, none⟩ = some (.pointer (some ⟨b, o, none⟩)) ∧ w'.cell? ⟨b, o + 5, none⟩ = some (.slice aV nv cV))) := fun w' h => by
    obtain ⟨k1, k2, k3⟩ := ((unhide H1').grow h).cells (unhide HG) hBw hb
    exact ⟨k1, k2, by rw [← unhide HNV]; exact k3 5 _ rfl⟩
  have HSD : Hid (∀ w', YI B r w.heap.size w4.heap.size (w4.heap.size + 1) dl sv sub b o w w' hid' (cp + nv) #[.int .i64 t.op, .string nm, .int .i64 so, .string nu, .slice none 0 0, .slice aC nv cC, .slice none 0 0] → (w'.cell? ⟨r, 0, none⟩ = some sv ∧ w'.cell? ⟨w4.heap.size + 1, 0, none⟩ = some (.pointer (some ⟨b, o, none⟩)) ∧ w'.cell? ⟨b, o + 5, none⟩ = some (.slice aV nv cV))) := fun w' h => by
    obtain ⟨k1, k2, k3⟩ := h.cells (unhide HG) hBw hb
    exact ⟨k1, k2, by rw [← unhide HNV]; exact k3 5 _ rfl⟩
  obtain ⟨m0, m1, m2⟩ := unhide HSC _ (Below.refl _ _)
  go_region_held3 (fun w' => w'.cell? ⟨r, 0, none⟩ = some sv ∧ w'.cell? ⟨w4.heap.size + 1, 0, none⟩ = some (.pointer (some ⟨b, o, none⟩)) ∧ w'.cell? ⟨b, o + 5, none⟩ = some (.slice aV nv cV)) (first | assumption | exact (unhide HS9) | exact unhide HSC _ (keep0 _)) ((go_at_call 51; refine (unhide HC1 _ (keep0 _)).mono ?_; rintro e v1 ⟨rfl, h1⟩; have HS9 := hide (unhide HSD v1 h1.1); have H1 := hide h1; clear h1))
  clear m0 m1 m2 HSC HSD HS9 HC1

  obtain ⟨m0, m1, mk⟩ := (unhide H1).1.cells (unhide HG) hBw hb
  have m6 : v1.cell? ⟨b, o + 6, none⟩ = some (.slice aP np cP) := by rw [← unhide HNP]; exact mk 6 _ rfl
  have HLp := hide (unhide HL B r v1 aP np cP t.pat hid' (cp + nv) (un + 1) (by
    have hP := (unhide HIC).2.2.2.2.1
    exact hP.below ((unhide H1).1.xf.below hBw)) (unhide HNP).symm (unhide H1).1.sl (unhide H1).1.cv hBr (by
    obtain ⟨_, _, _, _, _, _, _, hcp, _⟩ := unhide HI
    rw [(unhide HIC).2.1]
    omega) (by omega) (fun k => by
    obtain ⟨_, _, _, _, _, _, _, _, _, hlw, _⟩ := unhide HI
    have := hlw k
    omega))
  rw [(unhide HIC).2.1, (unhide HIC).2.2.1] at HLp
  clear mk
  go_wp2_with fail
  rw [show ((un : Int) + 1) = ((un + 1 : Nat) : Int) by omega]
  refine (unhide HLp).mono ?_
  rintro e w7 ⟨a2, c2, rfl, hR7, hW7, hS7, hX7, hB7⟩
  have hI7 : YI B r w.heap.size w4.heap.size (w4.heap.size + 1) dl sv sub b o w w7 hid' (cp + nv + ip) #[.int .i64 t.op, .string nm, .int .i64 so, .string nu, .slice none 0 0, .slice aC nv cC, .slice none 0 0] := (unhide H1).1.list hqr hzr hur hW7 hS7 hX7 hB7
  have y6 : w7.cell? ⟨w4.heap.size, 6, none⟩ = some (.slice none 0 0) := (blk hI7.out).2.1 6 _ rfl
  have yf6 := (blk hI7.out).2.2 6
  obtain ⟨_, _, mk⟩ := hI7.cells (unhide HG) hBw hb
  have m4 : w7.cell? ⟨b, o + 4, none⟩ = some (.slice aL n cL) := by rw [← unhide HN]; exact mk 4 _ rfl
  obtain ⟨G2, eG2⟩ : ∃ G, w7.setCell ⟨w4.heap.size, 6, none⟩ (.slice a2 np c2) = G := ⟨_, rfl⟩
  have hI2 : YI B r w.heap.size w4.heap.size (w4.heap.size + 1) dl sv sub b o w G2 hid' (cp + nv + ip) #[.int .i64 t.op, .string nm, .int .i64 so, .string nu, .slice none 0 0, .slice aC nv cC, .slice a2 np c2] := by
    rw [← eG2]
    exact hI7.put hqr hzq huq (unhide HQ).1 (unhide HQ).2 6 _
  have hK7 : KF (w4.heap.size + 2) w7 G2 := by
    rw [← eG2]
    exact KF.set (by omega)
  have HI2 := hide hI2
  have HR7 := hide (And.intro hR7 (And.intro hX7.size hK7))
  have HX7 : Hid (KF (w4.heap.size + 2) v1 w7) := KF.ofX hX7 (by have := (unhide HQ).1; omega)
  have HE2 := hide eG2
  have HLl := hide (unhide HL B r G2 aL n cL t.l hid' (cp + nv + ip) (un + 1) (by
    obtain ⟨_, _, _, _, _, _, _, _, hRL, _⟩ := unhide HI
    exact hRL.below (hI2.xf.below hBw)) (unhide HN).symm hI2.sl hI2.cv hBr (by
    obtain ⟨_, _, _, _, _, _, _, hcp, _⟩ := unhide HI
    rw [(unhide HIC).1]
    omega) (by omega) (fun k => by
    obtain ⟨_, _, _, _, _, _, _, _, _, hlw, _⟩ := unhide HI
    have := hlw k
    omega))
  rw [(unhide HIC).1] at HLl
  clear mk hR7 hW7 hS7 hX7 hB7 hI7 hI2 hK7 m0 m1 m6 HLp eG2
  go_wp2_with fail
  rw [unhide HE2]
  rw [show ((un : Int) + 1) = ((un + 1 : Nat) : Int) by omega]
  refine (unhide HLl).mono ?_
  rintro e w8 ⟨a3, c3, rfl, hR8, hW8, hS8, hX8, hB8⟩
  have hI8 : YI B r w.heap.size w4.heap.size (w4.heap.size + 1) dl sv sub b o w w8 hid' (cp + nv + ip + il) #[.int .i64 t.op, .string nm, .int .i64 so, .string nu, .slice none 0 0, .slice aC nv cC, .slice a2 np c2] := (unhide HI2).list hqr hzr hur hW8 hS8 hX8 hB8
  have y4 : w8.cell? ⟨w4.heap.size, 4, none⟩ = some (.slice none 0 0) := (blk hI8.out).2.1 4 _ rfl
  have yf4 := (blk hI8.out).2.2 4
  obtain ⟨G3, eG3⟩ : ∃ G, w8.setCell ⟨w4.heap.size, 4, none⟩ (.slice a3 n c3) = G := ⟨_, rfl⟩
  have H3' : Hid (YI B r w.heap.size w4.heap.size (w4.heap.size + 1) dl sv sub b o w G3 hid' (cp + nv + ip + il) #[.int .i64 t.op, .string nm, .int .i64 so, .string nu, .slice a3 n c3, .slice aC nv cC, .slice a2 np c2]) := by
    rw [← eG3]
    exact hI8.put hqr hzq huq (unhide HQ).1 (unhide HQ).2 4 _
  have hK8 : KF (w4.heap.size + 2) w8 G3 := by
    rw [← eG3]
    exact KF.set (by omega)
  have HR8 : Hid (RowP (FB G2.heap.size w8) a3 n c3 7 (fun b o j => ∀ x, ml[j]? = some x → TmP w8 (FB G2.heap.size w8) (d + dl + 1) b o x) ∧ XF B r G2 w8 ∧ KF (w4.heap.size + 2) w8 G3) := by
    obtain ⟨_, _, _, _, _, eml, _⟩ := unhide HI
    rw [eml] at hR8
    exact ⟨hR8, hX8, hK8⟩
  have HE3 := hide eG3
  have HH1 := H1
  clear hR8 hW8 hS8 hX8 hB8 hI8 hK8 HLl eG3 m4 y6 yf6 H1
  go_wp2_with fail
  rw [unhide HE3]
  clear y4 yf4
  have HC2 : Hid (∀ W', Below G3.heap.size G3 W' → Calls Tryd.prog 51 #[sv, .slice aV nv cV, .int .i64 (-1)] W' fun e w' => e = .returned (.tuple #[]) ∧ YI B r w.heap.size w4.heap.size (w4.heap.size + 1) dl sv sub b o w w' hid (cp + nv + ip + il) #[.int .i64 t.op, .string nm, .int .i64 so, .string nu, .slice a3 n c3, .slice aC nv cC, .slice a2 np c2] ∧ KF (w4.heap.size + 2) G3 w') := fun W' h => by
    have k := unhide H3'
    have hV := (unhide HIC).2.2.2.2.2
    rw [← unhide HEB, ← unhide HNV]
    rw [← unhide HNV] at k
    exact hide_c k hV hBw (.inr rfl) (unhide HB9) (by rw [unhide HNV]; exact hvl) W' h
  have HSC : Hid (∀ w', Below G3.heap.size G3 w' → (w'.cell? ⟨r, 0, none⟩ = some sv ∧ w'.cell? ⟨w4.heap.size + 1, 0, none⟩ = some (.pointer (some ⟨b, o, none⟩)) ∧ w'.cell? ⟨b, o + 5, none⟩ = some (.slice aV nv cV))) := fun w' h => by
    obtain ⟨k1, k2, k3⟩ := ((unhide H3').grow h).cells (unhide HG) hBw hb
    exact ⟨k1, k2, by rw [← unhide HNV]; exact k3 5 _ rfl⟩
  have HSD : Hid (∀ w', YI B r w.heap.size w4.heap.size (w4.heap.size + 1) dl sv sub b o w w' hid (cp + nv + ip + il) #[.int .i64 t.op, .string nm, .int .i64 so, .string nu, .slice a3 n c3, .slice aC nv cC, .slice a2 np c2] → (w'.cell? ⟨r, 0, none⟩ = some sv ∧ w'.cell? ⟨w4.heap.size + 1, 0, none⟩ = some (.pointer (some ⟨b, o, none⟩)) ∧ w'.cell? ⟨b, o + 5, none⟩ = some (.slice aV nv cV))) := fun w' h => by
    obtain ⟨k1, k2, k3⟩ := h.cells (unhide HG) hBw hb
    exact ⟨k1, k2, by rw [← unhide HNV]; exact k3 5 _ rfl⟩
  obtain ⟨m0, m1, m2⟩ := unhide HSC _ (Below.refl _ _)
  go_region_held3 (fun w' => w'.cell? ⟨r, 0, none⟩ = some sv ∧ w'.cell? ⟨w4.heap.size + 1, 0, none⟩ = some (.pointer (some ⟨b, o, none⟩)) ∧ w'.cell? ⟨b, o + 5, none⟩ = some (.slice aV nv cV)) (first | assumption | exact (unhide HS9) | exact unhide HSC _ (keep0 _)) ((go_at_call 51; refine (unhide HC2 _ (keep0 _)).mono ?_; rintro e v9 ⟨rfl, h1⟩; have HS9 := hide (unhide HSD v9 h1.1); have H1 := hide h1; clear h1))
  clear m0 m1 m2 HSC HSD HS9 HC2

  have q0 : v9.cell? ⟨w.heap.size, 0, none⟩ = some (.int .i64 0) := (blk (unhide H1).1.zero).2.1 0 _ rfl
  have qf0 := (blk (unhide H1).1.zero).2.2 0
  have p0 : v9.cell? ⟨w4.heap.size, 0, none⟩ = some (.int .i64 t.op) := (blk (unhide H1).1.out).2.1 0 _ rfl
  have q1 : v9.cell? ⟨w.heap.size, 1, none⟩ = some (.string ⟨#[]⟩) := (blk (unhide H1).1.zero).2.1 1 _ rfl
  have qf1 := (blk (unhide H1).1.zero).2.2 1
  have p1 : v9.cell? ⟨w4.heap.size, 1, none⟩ = some (.string nm) := (blk (unhide H1).1.out).2.1 1 _ rfl
  have q2 : v9.cell? ⟨w.heap.size, 2, none⟩ = some (.int .i64 0) := (blk (unhide H1).1.zero).2.1 2 _ rfl
  have qf2 := (blk (unhide H1).1.zero).2.2 2
  have p2 : v9.cell? ⟨w4.heap.size, 2, none⟩ = some (.int .i64 so) := (blk (unhide H1).1.out).2.1 2 _ rfl
  have q3 : v9.cell? ⟨w.heap.size, 3, none⟩ = some (.string ⟨#[]⟩) := (blk (unhide H1).1.zero).2.1 3 _ rfl
  have qf3 := (blk (unhide H1).1.zero).2.2 3
  have p3 : v9.cell? ⟨w4.heap.size, 3, none⟩ = some (.string nu) := (blk (unhide H1).1.out).2.1 3 _ rfl
  have q4 : v9.cell? ⟨w.heap.size, 4, none⟩ = some (.slice none 0 0) := (blk (unhide H1).1.zero).2.1 4 _ rfl
  have qf4 := (blk (unhide H1).1.zero).2.2 4
  have p4 : v9.cell? ⟨w4.heap.size, 4, none⟩ = some (.slice a3 n c3) := (blk (unhide H1).1.out).2.1 4 _ rfl
  have q5 : v9.cell? ⟨w.heap.size, 5, none⟩ = some (.slice none 0 0) := (blk (unhide H1).1.zero).2.1 5 _ rfl
  have qf5 := (blk (unhide H1).1.zero).2.2 5
  have p5 : v9.cell? ⟨w4.heap.size, 5, none⟩ = some (.slice aC nv cC) := (blk (unhide H1).1.out).2.1 5 _ rfl
  have q6 : v9.cell? ⟨w.heap.size, 6, none⟩ = some (.slice none 0 0) := (blk (unhide H1).1.zero).2.1 6 _ rfl
  have qf6 := (blk (unhide H1).1.zero).2.2 6
  have p6 : v9.cell? ⟨w4.heap.size, 6, none⟩ = some (.slice a2 np c2) := (blk (unhide H1).1.out).2.1 6 _ rfl
  go_wp2
  obtain ⟨hI9, hK9⟩ := unhide H1
  obtain ⟨hR8, hX8, hK8⟩ := unhide HR8
  obtain ⟨hR7, hz7, hK7⟩ := unhide HR7
  obtain ⟨hcC, hclo, hb5⟩ := unhide HCL
  obtain ⟨hIv, hKv⟩ := unhide HH1
  obtain ⟨_, _, _, _, _, eml, _, _, _, _, _, hfo, hfs, hml⟩ := unhide HI
  obtain ⟨_, _, emp, hmp, _, hV⟩ := unhide HIC
  have hVS := unhide HVS
  have hlim : w.heap.size < w4.heap.size + 2 := by have := (unhide HQ).1; omega
  have hH : (put7 v9 w.heap.size 0 (.int .i64 t.op) (.string nm) (.int .i64 so) (.string nu) (.slice a3 n c3) (.slice aC nv cC) (.slice a2 np c2)).heap[w.heap.size]? = some (.cells [.int .i64 t.op, .string nm, .int .i64 so, .string nu, .slice a3 n c3, .slice aC nv cC, .slice a2 np c2].toArray 25) := fill7 hI9.zero
  have hbX : Below B v9 (put7 v9 w.heap.size 0 (.int .i64 t.op) (.string nm) (.int .i64 so) (.string nu) (.slice a3 n c3) (.slice aC nv cC) (.slice a2 np c2)) := put7_below hBw
  have hKX : KF (w4.heap.size + 2) v9 (put7 v9 w.heap.size 0 (.int .i64 t.op) (.string nm) (.int .i64 so) (.string nu) (.slice a3 n c3) (.slice aC nv cC) (.slice a2 np c2)) := KF.put7 hlim
  have hKG : KF (w4.heap.size + 2) G2 (put7 v9 w.heap.size 0 (.int .i64 t.op) (.string nm) (.int .i64 so) (.string nu) (.slice a3 n c3) (.slice aC nv cC) (.slice a2 np c2)) := (KF.ofX hX8 (by have := (unhide HQ).1; omega)).trans (hK8.trans (hK9.trans hKX))
  have hK5 : KF (w4.heap.size + 2) w5 G1 := by
    rw [← unhide HE1]
    exact KF.set (by omega)
  have hs1 : w4.heap.size + 2 ≤ v1.heap.size := by
    have := hb5.size
    have := hK5.size
    have := hKv.size
    omega
  have hs2 : w4.heap.size + 2 ≤ G2.heap.size := by
    have := hK7.size
    omega
  have hk7 : KF (w4.heap.size + 2) w7 (put7 v9 w.heap.size 0 (.int .i64 t.op) (.string nm) (.int .i64 so) (.string nu) (.slice a3 n c3) (.slice aC nv cC) (.slice a2 np c2)) := hK7.trans hKG
  have hk8 : KF (w4.heap.size + 2) w8 (put7 v9 w.heap.size 0 (.int .i64 t.op) (.string nm) (.int .i64 so) (.string nu) (.slice a3 n c3) (.slice aC nv cC) (.slice a2 np c2)) := hK8.trans (hK9.trans hKX)
  have hk5 : KF (w4.heap.size + 2) w5 (put7 v9 w.heap.size 0 (.int .i64 t.op) (.string nm) (.int .i64 so) (.string nu) (.slice a3 n c3) (.slice aC nv cC) (.slice a2 np c2)) := hK5.trans (hKv.trans ((show KF (w4.heap.size + 2) v1 w7 from (unhide HX7)).trans hk7))
  have hWX := (put7_far (w := v9) (g := w.heap.size) (m := 0) (a := .int .i64 t.op) (b := .string nm) (c := .int .i64 so) (d := .string nu) (e := .slice a3 n c3) (f := .slice aC nv cC) (h := .slice a2 np c2) (show r ≠ w.heap.size by omega)).trans hI9.cv
  have hSX := hI9.sl.but hbX (fun q hq => put7_far hq) hI9.zero (by decide)
  have hXX : XF B r w (put7 v9 w.heap.size 0 (.int .i64 t.op) (.string nm) (.int .i64 so) (.string nu) (.slice a3 n c3) (.slice aC nv cC) (.slice a2 np c2)) := ⟨hbX.os.trans hI9.xf.os, hbX.tape.trans hI9.xf.tape, hbX.output.trans hI9.xf.output, Nat.le_trans hI9.xf.size hbX.size, fun k hk hj => (put7_far (by omega)).trans (hI9.xf.block k hk hj)⟩
  have hBX : sv = .map none → But r w (put7 v9 w.heap.size 0 (.int .i64 t.op) (.string nm) (.int .i64 so) (.string nu) (.slice a3 n c3) (.slice aC nv cC) (.slice a2 np c2)) := fun e => put7_but (hI9.but e) (Nat.le_refl _)
  have hw2 : w.heap.size ≤ w4.heap.size + 2 := by omega
  have hIX : IsP (put7 v9 w.heap.size 0 (.int .i64 t.op) (.string nm) (.int .i64 so) (.string nu) (.slice a3 n c3) (.slice aC nv cC) (.slice a2 np c2)) (FB w.heap.size (put7 v9 w.heap.size 0 (.int .i64 t.op) (.string nm) (.int .i64 so) (.string nu) (.slice a3 n c3) (.slice aC nv cC) (.slice a2 np c2))) (d + 1 + dl) (.agg [.int .i64 t.op, .string nm, .int .i64 so, .string nu, .slice a3 n c3, .slice aC nv cC, .slice a2 np c2].toArray) ⟨t.op, nm, so, nu, ml, t.vars, mp⟩ := by
    refine ⟨hfo, hfs, a3, aC, a2, c3, cC, c2, by simp [tcells, hml, hmp, unhide HNV], ?_, ?_, ?_⟩
    · show RowP _ a3 ml.length c3 7 _
      rw [hml]
      exact hR8.imp (fun k hk => (hk8.fb hs2 (by omega) k hk).1) fun b' o' j hb' h x hx => (h x hx).keep (hk8.fb hs2 (by omega)) (by omega)
    · show RowP _ aC t.vars.length cC 2 _
      rw [unhide HNV]
      refine ⟨hcC, by omega, fun h0 => ?_⟩
      obtain ⟨g, rfl, hg1, hg2, ⟨cur, hgb⟩, hrng⟩ := hclo h0
      have hns : NS w5 g := fun cs fr e => by
        rw [hgb] at e
        injection e with e
        injection e with _ e
        revert e
        decide
      have hfb : FB V.heap.size w5 g := ⟨hg1, hg2, hns⟩
      obtain ⟨k1, k2⟩ := hk5.fb hVS (m' := w.heap.size) (by omega) g hfb
      refine ⟨g, 0, rfl, k1, fun j hj x hx => ⟨?_, ?_⟩⟩
      · rw [Nat.zero_add]
        exact range_same (hrng j x hx) k2
      · have hj2 : j < t.vars.length := (List.getElem?_eq_some_iff.1 hx).1
        obtain ⟨_, _, _, _, hjj⟩ := hV.2.2 (by omega)
        exact (hjj j hj2 x hx).2
    · show RowP _ a2 mp.length c2 7 _
      rw [hmp]
      exact hR7.imp (fun k hk => (hk7.fb hs1 (by omega) k hk).1) fun b' o' j hb' h x hx => (h x hx).keep (hk7.fb hs1 (by omega)) (by omega)
  rw [show cp + (nv + ip + il) = cp + nv + ip + il by omega]
  exact ⟨rfl, _, res_row (cs := [.int .i64 t.op, .string nm, .int .i64 so, .string nu, .slice a3 n c3, .slice aC nv cC, .slice a2 np c2]) rfl rfl (range_block hH) rfl rfl rfl, _, rfl, hIX, hWX, hSX, hXX, hBX⟩
end Go.Proofs.YtegmckpcchhmdaaDoor

/- Copies: all terms; what Inst's fill answers. -/
namespace Go.Proofs.YtegmckpcchhmdaaDoor
open Go Go.RowKit
theorem yterm_no : ∀ d, YTermC (fun _ => none) 0 (.map none) d
  | 0 => fun _ _ _ _ _ _ _ _ _ h => h.elim
  | d + 1 => fun B r w b o t hid cp u hT hS hW hBr hcp hu hh => by
    have hr := rep_no hid t.op t.name
    by_cases h19 : t.op = 19
    · exact yterm_all (ylist_of (yterm_no d)) hT hS hW hBr hcp hu hh hr h19
    · exact yterm_plain (ylist_of (yterm_no d)) hT hS hW hBr hcp hu hh hr h19
theorem yterm_any {sub : ByteArray → Option Tm} (dl : Nat) (sv : Value) (hSub : ∀ k u, sub k = some u → u.wt ≤ 400000) : ∀ d, YTermC sub dl sv d
  | 0 => fun _ _ _ _ _ _ _ _ _ h => h.elim
  | d + 1 => fun B r w b o t hid cp u hT hS hW hBr hcp hu hh => by
    cases hr : rep sub hid t.op t.name with
    | some x => exact yterm_some (yterm_no dl) hSub hT hS hW hBr hcp hu hr
    | none =>
      by_cases h19 : t.op = 19
      · exact yterm_all (ylist_of (yterm_any dl sv hSub d)) hT hS hW hBr hcp hu hh hr h19
      · exact yterm_plain (ylist_of (yterm_any dl sv hSub d)) hT hS hW hBr hcp hu hh hr h19
/-- Two results, the first of which lies in memory. -/
theorem res_row2 {P : Program} {W : World} {fn : Func} {tmps : Array Value} {t b o t2 : Nat} {ty : TypeId} {cs : List Value} {d : TypeDesc} {v : Value} (hf : fn.results = #[.cell t ty, .tmp t2]) (ht : tmps[t]? = some (.pointer (some ⟨b, o, none⟩))) (h2 : tmps[t2]? = some v) (hr : W.rangeAt b o cs)
    (hu : P.underlying ty = some d) (hd : d.isRow = true) (hi : (P.info? ty).map (·.size) = some cs.length) : (results fn tmps).run P W = .ok (.tuple #[.agg cs.toArray, v]) W := by
  have h := run_loadVar_mid (P := P) W b o ty cs d hr hu hd hi
  simp [results, hf, ht, h2, asAddr, h]
/-- A term with nothing in it. -/
def zeroT : Value := .agg #[.int .i64 0, .string ⟨#[]⟩, .int .i64 0, .string ⟨#[]⟩, .slice none 0 0, .slice none 0 0, .slice none 0 0]
def FillR (T D : Nat) (t : Tm) (k : Nat) (w w' : World) (v : Value) (er : Int) : Prop := (50000 < T ∧ er = 34 ∧ v = zeroT) ∨ (T ≤ 50000 ∧ 200 < D ∧ er = 33 ∧ v = zeroT) ∨ (T ≤ 50000 ∧ D ≤ 200 ∧ er = 0 ∧ IsP w' (FB w.heap.size w') k v t)
set_option maxRecDepth 1000000 in
set_option maxHeartbeats 16000000 in
theorem fill_any {sub : ByteArray → Option Tm} {dl d : Nat} {sv : Value} (hSub : SubOk sub) (hSw : ∀ k u, sub k = some u → u.wt ≤ 400000) {B : Nat} {w : World} {b o : Nat} {t : Tm} (hT : TmAt w B d b o t) (hS : SLv w B sv dl sub (fun _ => 0)) (hB : B ≤ w.heap.size) (hwt : t.wt ≤ 400000) (hd : d + dl ≤ 65536) (hic : t.isz sub (fun _ => 0) ≤ 50000 → t.icp sub (fun _ => 0) ≤ 21474836) :
    Calls Tryd.prog 19 #[.pointer (some ⟨b, o, none⟩), sv] w fun e w' => ∃ v er, e = .returned (.tuple #[v, .int .i64 er]) ∧ Below B w w' ∧ FillR (t.isz sub (fun _ => 0)) (t.idp sub (fun _ => 0)) (t.inst sub (fun _ => 0)) (d + dl) w w' v er := by
  obtain ⟨mx, rfl⟩ : ∃ mx, sv = .map mx := by rcases hS with ⟨rfl, _⟩ | ⟨rs, rfl, _⟩ <;> exact ⟨_, rfl⟩
  obtain ⟨T, eT⟩ : ∃ T, t.isz sub (fun _ => 0) = T := ⟨_, rfl⟩
  obtain ⟨D, eD⟩ : ∃ T, t.idp sub (fun _ => 0) = T := ⟨_, rfl⟩
  obtain ⟨ti, eti⟩ : ∃ T, t.inst sub (fun _ => 0) = T := ⟨_, rfl⟩
  have HTI := hide eti
  have hh : ∀ k : ByteArray, (0 : Int) ≤ (fun _ => (0 : Int)) k ∧ ((fun _ => (0 : Int)) k) + (t.wt : Int) ≤ 400000 := fun k => ⟨Int.le_refl _, by simp only; omega⟩
  obtain ⟨A, eA, hbA, hsA, hcA, hhA⟩ := box_new w #[.int .i64 0, .string ⟨#[]⟩, .int .i64 0, .string ⟨#[]⟩, .slice none 0 0, .slice none 0 0, .slice none 0 0] 25
  obtain ⟨C, eC, hbC, hsC, hcC, hhC⟩ := box_new A #[.map mx, .int .i64 0, .int .i64 0] 88
  have hb0C : Below w.heap.size w C := hbA.trans (hbC.mono (by omega))
  have HW := hide (weigh_any dl (.map mx) hSub d B A.heap.size C b o t (fun _ => 0) 0 0 1 (hT.more (hb0C.mono hB) (Nat.le_refl _) (Nat.le_refl _)) (hS.below hb0C (Nat.le_refl _)) hhC (by omega) (by omega) (by omega) (by omega) (by omega) hh)
  rw [eT, eD] at HW
  rw [hsA] at HW
  have hzC : C.heap[w.heap.size]? = some (.cells #[.int .i64 0, .string ⟨#[]⟩, .int .i64 0, .string ⟨#[]⟩, .slice none 0 0, .slice none 0 0, .slice none 0 0] 25) := (hbC.block _ (by omega)).trans hhA
  have HI := hide (And.intro hT (And.intro hS (And.intro hb0C (And.intro hzC (And.intro hsA (And.intro hsC (And.intro eT (And.intro eD (And.intro hic (And.intro hh hSw))))))))))
  have HE := hide (And.intro eA eC)
  rw [eT, eD, eti]
  clear hbA hsA hcA hhA hbC hsC hcC hhC hb0C hzC hT hS hic hh hSw hSub eT eD eA eC eti
  go_enter Tryd.func19, Tryd.ntmps19
  go_wp2_with fail
  obtain ⟨eA, eC⟩ := unhide HE
  rw [eA, eC]
  clear eA eC
  refine (unhide HW).mono ?_
  rintro e w1 ⟨rfl, s1, d1, hW1, hR1, hS1, hX1⟩
  obtain ⟨hT, hS, hb0C, hzC, hsA, hsC, eT, eD, hic, hh, hSw⟩ := unhide HI
  have x1 : w1.cell? ⟨w.heap.size + 1, 1, none⟩ = some (.int .i64 (s1 : Int)) := (blk hW1).2.1 1 _ rfl
  have x2 : w1.cell? ⟨w.heap.size + 1, 2, none⟩ = some (.int .i64 (d1 : Int)) := (blk hW1).2.1 2 _ rfl
  have hz1 := hX1.blk hzC (by omega) (by decide)
  have hbel1 : Below B w w1 := (hb0C.mono hB).trans (hX1.below (by have := hb0C.size; omega))
  have hw1 : w.heap.size + 2 ≤ w1.heap.size := by have := hX1.size; omega
  have hs2 : s1 ≤ 200000 := by obtain ⟨_, h | h⟩ := hR1 <;> omega
  have hd2 : d1 ≤ 2000000 := hR1.1
  by_cases hT5 : 50000 < T
  · have hg : 50000 < s1 := by obtain ⟨_, h | h⟩ := hR1 <;> omega
    have hd1 : decide ((50000 : Int) < (s1 : Int)) = true := by simp; omega
    have z0 : w1.cell? ⟨w.heap.size, 0, none⟩ = some (.int .i64 0) := (blk hz1).2.1 0 _ rfl
    have zf0 := (blk hz1).2.2 0
    have z1 : w1.cell? ⟨w.heap.size, 1, none⟩ = some (.string ⟨#[]⟩) := (blk hz1).2.1 1 _ rfl
    have zf1 := (blk hz1).2.2 1
    have z2 : w1.cell? ⟨w.heap.size, 2, none⟩ = some (.int .i64 0) := (blk hz1).2.1 2 _ rfl
    have zf2 := (blk hz1).2.2 2
    have z3 : w1.cell? ⟨w.heap.size, 3, none⟩ = some (.string ⟨#[]⟩) := (blk hz1).2.1 3 _ rfl
    have zf3 := (blk hz1).2.2 3
    have z4 : w1.cell? ⟨w.heap.size, 4, none⟩ = some (.slice none 0 0) := (blk hz1).2.1 4 _ rfl
    have zf4 := (blk hz1).2.2 4
    have z5 : w1.cell? ⟨w.heap.size, 5, none⟩ = some (.slice none 0 0) := (blk hz1).2.1 5 _ rfl
    have zf5 := (blk hz1).2.2 5
    have z6 : w1.cell? ⟨w.heap.size, 6, none⟩ = some (.slice none 0 0) := (blk hz1).2.1 6 _ rfl
    have zf6 := (blk hz1).2.2 6
    have HF := hide (And.intro hz1 (And.intro hbel1 hT5))
    clear hT hS hb0C hzC hsA hsC eT eD hic hh hSw hW1 hR1 hS1 hX1 hz1 hbel1 hw1 hs2 hd2 hT5 hg
    go_wp2
    obtain ⟨hz1, hbel1, hT5⟩ := unhide HF
    refine ⟨rfl, _, res_row2 (cs := [.int .i64 0, .string ⟨#[]⟩, .int .i64 0, .string ⟨#[]⟩, .slice none 0 0, .slice none 0 0, .slice none 0 0]) rfl rfl rfl (range_block (fill7 hz1)) rfl rfl rfl, zeroT, 34, rfl, ?_, .inl ⟨hT5, rfl, rfl⟩⟩
    exact hbel1.trans (put7_below hB)
  have hT6 : T ≤ 50000 := by omega
  obtain ⟨rfl, rfl⟩ : s1 = T ∧ d1 = D := by obtain ⟨_, h | h⟩ := hR1 <;> omega
  have hd1 : decide ((50000 : Int) < (s1 : Int)) = false := by simp; omega
  by_cases hD2 : 200 < d1
  · have hd3 : decide ((200 : Int) < (d1 : Int)) = true := by simp; omega
    have z0 : w1.cell? ⟨w.heap.size, 0, none⟩ = some (.int .i64 0) := (blk hz1).2.1 0 _ rfl
    have zf0 := (blk hz1).2.2 0
    have z1 : w1.cell? ⟨w.heap.size, 1, none⟩ = some (.string ⟨#[]⟩) := (blk hz1).2.1 1 _ rfl
    have zf1 := (blk hz1).2.2 1
    have z2 : w1.cell? ⟨w.heap.size, 2, none⟩ = some (.int .i64 0) := (blk hz1).2.1 2 _ rfl
    have zf2 := (blk hz1).2.2 2
    have z3 : w1.cell? ⟨w.heap.size, 3, none⟩ = some (.string ⟨#[]⟩) := (blk hz1).2.1 3 _ rfl
    have zf3 := (blk hz1).2.2 3
    have z4 : w1.cell? ⟨w.heap.size, 4, none⟩ = some (.slice none 0 0) := (blk hz1).2.1 4 _ rfl
    have zf4 := (blk hz1).2.2 4
    have z5 : w1.cell? ⟨w.heap.size, 5, none⟩ = some (.slice none 0 0) := (blk hz1).2.1 5 _ rfl
    have zf5 := (blk hz1).2.2 5
    have z6 : w1.cell? ⟨w.heap.size, 6, none⟩ = some (.slice none 0 0) := (blk hz1).2.1 6 _ rfl
    have zf6 := (blk hz1).2.2 6
    have HF := hide (And.intro hz1 (And.intro hbel1 (And.intro hT6 hD2)))
    clear hT hS hb0C hzC hsA hsC eT eD hic hh hSw hW1 hR1 hS1 hX1 hz1 hbel1 hw1 hs2 hd2 hT5 hT6 hD2
    go_wp2
    obtain ⟨hz1, hbel1, hT6, hD2⟩ := unhide HF
    refine ⟨rfl, _, res_row2 (cs := [.int .i64 0, .string ⟨#[]⟩, .int .i64 0, .string ⟨#[]⟩, .slice none 0 0, .slice none 0 0, .slice none 0 0]) rfl rfl rfl (range_block (fill7 hz1)) rfl rfl rfl, zeroT, 33, rfl, ?_, .inr (.inl ⟨hT6, hD2, rfl, rfl⟩)⟩
    exact hbel1.trans (put7_below hB)
  have hd3 : decide ((200 : Int) < (d1 : Int)) = false := by simp; omega
  have hD3 : d1 ≤ 200 := by omega
  obtain ⟨G, eG, hbG, hsG, hcG, hhG⟩ := box_new w1 #[.map mx, .int .i64 0, .bool false] 90
  have HC := hide (yterm_any dl (.map mx) hSw d B w1.heap.size G b o t (fun _ => 0) 0 0 (hT.more (hbel1.trans (hbG.mono (by omega))) (Nat.le_refl _) (Nat.le_refl _)) (hS1.below hbG (Nat.le_refl _)) hhG (by omega) (by have := hic (by omega); omega) (by omega) hh)
  rw [unhide HTI] at HC
  have hzG := (hbG.block w.heap.size (by omega)).trans hz1
  have HF := hide (And.intro hzG (And.intro (hbel1.trans (hbG.mono (by omega))) (And.intro hT6 (And.intro hD3 (And.intro hsG hw1)))))
  have HEG := hide eG
  clear hT hS hb0C hzC hsA hsC eT eD hic hh hSw hW1 hR1 hS1 hX1 hz1 hbel1 hw1 hs2 hd2 hT5 hT6 hD2 hD3 hbG hsG hcG hhG hzG eG
  go_wp2_with fail
  rw [unhide HEG]
  clear x1 x2
  refine (unhide HC).mono ?_
  rintro e w2 ⟨v, rfl, hI2, hW2, hS2, hX2, hB2⟩
  obtain ⟨hzG, hbelG, hT6, hD3, hsG, hw1⟩ := unhide HF
  have hz2 := hX2.blk hzG (by omega) (by decide)
  have y2 : w2.cell? ⟨w1.heap.size, 2, none⟩ = some (.bool false) := (blk hW2).2.1 2 _ rfl
  have hbel2 : Below B w w2 := hbelG.trans (hX2.below (by omega))
  have hI3 := hI2
  obtain ⟨g1, g2, aL, aV, aP, cL, cV, cP, rfl, _, _, _⟩ := hI2
  obtain ⟨nL, enL⟩ : ∃ n, ti.l.length = n := ⟨_, rfl⟩
  obtain ⟨nV, enV⟩ : ∃ n, ti.vars.length = n := ⟨_, rfl⟩
  obtain ⟨nP, enP⟩ : ∃ n, ti.pat.length = n := ⟨_, rfl⟩
  simp only [tcells, List.toArray] at hI3 ⊢
  rw [enL, enV, enP] at hI3 ⊢
  have hw2 : w.heap.size < w2.heap.size := (blk hz2).1
  have hne1 : w.heap.size ≠ w1.heap.size := by omega
  have hne2 : w.heap.size ≠ w2.heap.size := by omega
  have hne3 : w2.heap.size ≠ w.heap.size := by omega
  have hne4 : w1.heap.size < w2.heap.size := (blk hW2).1
  have hne5 : w1.heap.size ≠ w2.heap.size := by omega
  obtain ⟨H, eH, hbH, hsH, hcH, hhH⟩ := box_new w2 #[.int .i64 ti.op, .string ti.name, .int .i64 ti.sort, .string ti.num, .slice aL nL cL, .slice aV nV cV, .slice aP nP cP] 25
  have yH : H.cell? ⟨w1.heap.size, 2, none⟩ = some (.bool false) := (hbH.cell (p := ⟨w1.heap.size, 2, none⟩) hne4).trans y2
  have hzH := (hbH.block w.heap.size hw2).trans hz2
  have z0 : H.cell? ⟨w.heap.size, 0, none⟩ = some (.int .i64 0) := (blk hzH).2.1 0 _ rfl
  have zf0 := (blk hzH).2.2 0
  have z1 : H.cell? ⟨w.heap.size, 1, none⟩ = some (.string ⟨#[]⟩) := (blk hzH).2.1 1 _ rfl
  have zf1 := (blk hzH).2.2 1
  have z2 : H.cell? ⟨w.heap.size, 2, none⟩ = some (.int .i64 0) := (blk hzH).2.1 2 _ rfl
  have zf2 := (blk hzH).2.2 2
  have z3 : H.cell? ⟨w.heap.size, 3, none⟩ = some (.string ⟨#[]⟩) := (blk hzH).2.1 3 _ rfl
  have zf3 := (blk hzH).2.2 3
  have z4 : H.cell? ⟨w.heap.size, 4, none⟩ = some (.slice none 0 0) := (blk hzH).2.1 4 _ rfl
  have zf4 := (blk hzH).2.2 4
  have z5 : H.cell? ⟨w.heap.size, 5, none⟩ = some (.slice none 0 0) := (blk hzH).2.1 5 _ rfl
  have zf5 := (blk hzH).2.2 5
  have z6 : H.cell? ⟨w.heap.size, 6, none⟩ = some (.slice none 0 0) := (blk hzH).2.1 6 _ rfl
  have zf6 := (blk hzH).2.2 6
  have h0 : H.cell? ⟨w2.heap.size, 0, none⟩ = some (.int .i64 ti.op) := (blk hhH).2.1 0 _ rfl
  have h1 : H.cell? ⟨w2.heap.size, 1, none⟩ = some (.string ti.name) := (blk hhH).2.1 1 _ rfl
  have h2 : H.cell? ⟨w2.heap.size, 2, none⟩ = some (.int .i64 ti.sort) := (blk hhH).2.1 2 _ rfl
  have h3 : H.cell? ⟨w2.heap.size, 3, none⟩ = some (.string ti.num) := (blk hhH).2.1 3 _ rfl
  have h4 : H.cell? ⟨w2.heap.size, 4, none⟩ = some (.slice aL nL cL) := (blk hhH).2.1 4 _ rfl
  have h5 : H.cell? ⟨w2.heap.size, 5, none⟩ = some (.slice aV nV cV) := (blk hhH).2.1 5 _ rfl
  have h6 : H.cell? ⟨w2.heap.size, 6, none⟩ = some (.slice aP nP cP) := (blk hhH).2.1 6 _ rfl
  have HZ := hide (And.intro hzH (And.intro hbel2 (And.intro hbH (And.intro hI3 (And.intro hsG (And.intro hw1 hhH))))))
  clear hI3 hW2 hS2 hX2 hB2 hzG hbelG hT6 hD3 hsG hw1 hz2 hbel2 g1 g2 enL enV enP hbH hsH hcH hhH hzH y2
  go_wp2
  obtain ⟨hzH, hbel2, hbH, hI3, hsG, hw1, hhH⟩ := unhide HZ
  obtain ⟨_, _, hT6, hD3, _, _⟩ := unhide HF
  refine ⟨rfl, _, res_row2 (cs := [.int .i64 ti.op, .string ti.name, .int .i64 ti.sort, .string ti.num, .slice aL nL cL, .slice aV nV cV, .slice aP nP cP]) rfl rfl rfl (range_block (fill7 hzH)) rfl rfl rfl, _, 0, rfl, ?_, .inr (.inr ⟨hT6, hD3, rfl, ?_⟩)⟩
  · exact (hbel2.trans (hbH.mono (by have := hbel2.size; omega))).trans (put7_below hB)
  · refine hI3.keep (fun k hk => ?_) (Nat.le_refl _)
    have h1 := hk.1
    have h2 := hk.2.1
    refine hk.keep (by omega) (Nat.le_trans hbH.size (put7_below (B := B) hB).size) ?_
    exact (put7_far (w := H) (g := w.heap.size) (m := 0) (a := .int .i64 ti.op) (b := .string ti.name) (c := .int .i64 ti.sort) (d := .string ti.num) (e := .slice aL nL cL) (f := .slice aV nV cV) (h := .slice aP nP cP) (by omega)).trans (hbH.block k h2)
end Go.Proofs.YtegmckpcchhmdaaDoor

namespace Go.Proofs.YtegmckpcchhmdaaDoor
open Go Go.RowKit
/-- What Inst answers. -/
def InstR (t : Tm) (lm : List Tm) (k : Nat) (w w' : World) (v : Value) (er : Int) : Prop := (¬ (t.op = 19 ∧ t.l.length = 1 ∧ t.vars.length = lm.length) ∧ er = 30 ∧ v = zeroT) ∨ (t.op = 19 ∧ t.vars.length = lm.length ∧ ∃ x, t.l = [x] ∧ FillR (x.isz (subV t.vars lm) (fun _ => 0)) (x.idp (subV t.vars lm) (fun _ => 0)) (x.inst (subV t.vars lm) (fun _ => 0)) k w w' v er)
theorem FillR.form {T D k : Nat} {t : Tm} {w w' : World} {v : Value} {er : Int} (h : FillR T D t k w w' v er) : ∃ (x0 : Int) (x1 : ByteArray) (x2 : Int) (x3 : ByteArray) (y4 : Option Addr) (n4 c4 : Nat) (y5 : Option Addr) (n5 c5 : Nat) (y6 : Option Addr) (n6 c6 : Nat), v = .agg #[.int .i64 x0, .string x1, .int .i64 x2, .string x3, .slice y4 n4 c4, .slice y5 n5 c5, .slice y6 n6 c6] ∧ 0 ≤ er ∧ er ≤ 34 := by
  rcases h with ⟨_, rfl, rfl⟩ | ⟨_, _, rfl, rfl⟩ | ⟨_, _, rfl, _, _, aL, aV, aP, cL, cV, cP, rfl, _⟩
  · exact ⟨_, _, _, _, _, _, _, _, _, _, _, _, _, rfl, by omega, by omega⟩
  · exact ⟨_, _, _, _, _, _, _, _, _, _, _, _, _, rfl, by omega, by omega⟩
  · exact ⟨_, _, _, _, _, _, _, _, _, _, _, _, _, rfl, by omega, by omega⟩
theorem FillR.keep {T D k : Nat} {t : Tm} {w0 w w' w2 : World} {v : Value} {er : Int} (h : FillR T D t k w0 w' v er) (hs : w.heap.size ≤ w0.heap.size) (hs2 : w'.heap.size ≤ w2.heap.size) (hk : ∀ j, w0.heap.size ≤ j → j < w'.heap.size → w2.heap[j]? = w'.heap[j]?) : FillR T D t k w w2 v er := by
  rcases h with h | h | ⟨h1, h2, h3, h4⟩
  · exact .inl h
  · exact .inr (.inl h)
  · exact .inr (.inr ⟨h1, h2, h3, h4.keep (fun j hj => hj.keep hs hs2 (hk j hj.1 hj.2.1)) (Nat.le_refl _)⟩)
theorem subV_mem : ∀ (vs : List (ByteArray × Int)) (ts : List Tm) (k : ByteArray) (u : Tm), subV vs ts k = some u → u ∈ ts
  | [], _, k, u, h => by simp [subV] at h
  | _ :: _, [], k, u, h => by simp [subV] at h
  | v :: vs, t :: ts, k, u, h => by
    simp only [subV] at h
    split at h
    · injection h with h
      exact h ▸ List.mem_cons_self
    · exact List.mem_cons_of_mem _ (subV_mem vs ts k u h)
set_option maxRecDepth 1000000 in
set_option maxHeartbeats 16000000 in
theorem Inst_any {w : World} {B d m cm : Nat} {am : Option Addr} {v : Value} {t : Tm} {lm : List Tm} (hT : IsT w B d v t) (hl : Row B am m cm 7 (fun b o j => ∀ u, lm[j]? = some u → TmAt w B d b o u)) (hm : m = lm.length) (hB : B ≤ w.heap.size) (hd : d + d ≤ 65535) (hwt : t.wt ≤ 400000) (hlm : ∀ u ∈ lm, u.size ≤ 65536 ∧ u.depth ≤ 65537 ∧ u.wt ≤ 400000) (hic : ∀ x, t.l = [x] → x.isz (subV t.vars lm) (fun _ => 0) ≤ 50000 → x.icp (subV t.vars lm) (fun _ => 0) ≤ 21474836) :
    Calls Tryd.prog 6 #[v, .slice am m cm] w fun e w' => ∃ v' er, e = .returned (.tuple #[v', .int .i64 er]) ∧ Below w.heap.size w w' ∧ InstR t lm (d + d) w w' v' er := by
  have hT2 := hT
  obtain ⟨_, _, aL, aV, aP, cL, cV, cP, rfl, _, hV, _⟩ := hT
  have hTb := hT2.boxed hB
  clear hT2
  simp only [tcells, List.toArray] at hTb ⊢
  obtain ⟨nL, hnL⟩ : ∃ n, t.l.length = n := ⟨_, rfl⟩
  obtain ⟨nV, hnV⟩ : ∃ n, t.vars.length = n := ⟨_, rfl⟩
  obtain ⟨nP, hnP⟩ : ∃ n, t.pat.length = n := ⟨_, rfl⟩
  rw [hnL, hnV, hnP] at hTb ⊢
  obtain ⟨A, eA, hbA, hsA, hcA, hhA⟩ := box_new w #[.int .i64 t.op, .string t.name, .int .i64 t.sort, .string t.num, .slice aL nL cL, .slice aV nV cV, .slice aP nP cP] 25
  rw [eA] at hTb
  obtain ⟨C, eC, hbC, hsC, hcC, hhC⟩ := box_new A #[.int .i64 0, .string ⟨#[]⟩, .int .i64 0, .string ⟨#[]⟩, .slice none 0 0, .slice none 0 0, .slice none 0 0] 25
  have hTC : TmAt C (w.heap.size + 2) (d + 1) w.heap.size 0 t := hTb.more (hbC.mono (by omega)) (by omega) (Nat.le_refl _)
  have hb0C : Below w.heap.size w C := hbA.trans (hbC.mono (by omega))
  have HBo := hide (bodyOf_any hTC (by omega))
  have hhC' : C.heap[w.heap.size + 1]? = some (.cells #[.int .i64 0, .string ⟨#[]⟩, .int .i64 0, .string ⟨#[]⟩, .slice none 0 0, .slice none 0 0, .slice none 0 0] 25) := by rw [← hsA]; exact hhC
  have hhAC := (hbC.block w.heap.size (by omega)).trans hhA
  have hnVm : nV ≤ 281474976710656 := by rw [← hnV]; exact hV.2.1
  have hmm : m ≤ 281474976710656 := hl.2.1
  have HI := hide (And.intro hV (And.intro hl (And.intro hTC (And.intro hb0C (And.intro hhC' (And.intro hhAC (And.intro hm (And.intro hnV (And.intro hwt (And.intro hlm hic))))))))))
  have HS := hide (And.intro hsA hsC)
  have HE := hide (And.intro eA eC)
  clear hTb hV hl hbA hsA hcA hhA hbC hsC hcC hhC hTC hb0C hhC' hhAC hm hnV hnL hnP hwt hlm hic eA eC
  go_enter Tryd.func6, Tryd.ntmps6
  go_wp2_with fail
  obtain ⟨eA, eC⟩ := unhide HE
  rw [eA, eC]
  clear eA eC
  refine (unhide HBo).mono ?_
  rintro e w1 ⟨hb1, h1⟩
  obtain ⟨hV, hl, hTC, hb0C, hzC, haC, hm, hnV, hwt, hlm, hic⟩ := unhide HI
  obtain ⟨hsA, hsC⟩ := unhide HS
  have hz1 := (hb1.block (w.heap.size + 1) (by omega)).trans hzC
  have ha1 := (hb1.block w.heap.size (by omega)).trans haC
  have a5 : w1.cell? ⟨w.heap.size, 5, none⟩ = some (.slice aV nV cV) := (blk ha1).2.1 5 _ rfl
  have hb01 : Below w.heap.size w w1 := hb0C.trans (hb1.mono (by omega))
  have hw1 : w.heap.size + 2 ≤ w1.heap.size := by have := hb1.size; omega
  rcases h1 with ⟨hno, rfl⟩ | ⟨h19, x, b', o', ex, rfl, d', hd', hTx⟩
  ·
    have z0 : w1.cell? ⟨w.heap.size + 1, 0, none⟩ = some (.int .i64 0) := (blk hz1).2.1 0 _ rfl
    have zf0 := (blk hz1).2.2 0
    have z1 : w1.cell? ⟨w.heap.size + 1, 1, none⟩ = some (.string ⟨#[]⟩) := (blk hz1).2.1 1 _ rfl
    have zf1 := (blk hz1).2.2 1
    have z2 : w1.cell? ⟨w.heap.size + 1, 2, none⟩ = some (.int .i64 0) := (blk hz1).2.1 2 _ rfl
    have zf2 := (blk hz1).2.2 2
    have z3 : w1.cell? ⟨w.heap.size + 1, 3, none⟩ = some (.string ⟨#[]⟩) := (blk hz1).2.1 3 _ rfl
    have zf3 := (blk hz1).2.2 3
    have z4 : w1.cell? ⟨w.heap.size + 1, 4, none⟩ = some (.slice none 0 0) := (blk hz1).2.1 4 _ rfl
    have zf4 := (blk hz1).2.2 4
    have z5 : w1.cell? ⟨w.heap.size + 1, 5, none⟩ = some (.slice none 0 0) := (blk hz1).2.1 5 _ rfl
    have zf5 := (blk hz1).2.2 5
    have z6 : w1.cell? ⟨w.heap.size + 1, 6, none⟩ = some (.slice none 0 0) := (blk hz1).2.1 6 _ rfl
    have zf6 := (blk hz1).2.2 6
    have HF := hide (And.intro hz1 (And.intro hb01 hno))
    clear hV hl hTC hb0C hzC haC hm hnV hwt hlm hic hsA hsC hz1 ha1 hb01 hno hb1
    go_wp2
    obtain ⟨hz1, hb01, hno⟩ := unhide HF
    refine ⟨rfl, _, res_row2 (cs := [.int .i64 0, .string ⟨#[]⟩, .int .i64 0, .string ⟨#[]⟩, .slice none 0 0, .slice none 0 0, .slice none 0 0]) rfl rfl rfl (range_block (fill7 hz1)) rfl rfl rfl, zeroT, 30, rfl, ?_, .inl ⟨fun h => hno ⟨h.1, h.2.1⟩, rfl, rfl⟩⟩
    exact hb01.trans (put7_below (by omega))
  by_cases hlen : m = nV
  · have hd1 : decide ((m : Int) = (nV : Int)) = true := by simp; omega
    have hd2 : ((m : Int) == (nV : Int)) = true := by simp; omega
    have hd3 : ((m : Int) != (nV : Int)) = false := by simp; omega
    obtain rfl : d' = d := by omega
    have hbB : Below B w w1 := hb01.mono hB
    have HNs := hide (newSlots_any (w := w1) (B := w.heap.size + 2) (dl := d') (n := nV) (c := cV) (a := aV) (x := t.vars) (m := m) (cm := cm) (am := am) (l := lm) (by
      rw [hnV] at hV
      exact hV.mono (by omega) fun b o j hb2 h u hu => ⟨rangeAt_below (h u hu).1 hb2 hbB, (h u hu).2⟩) hnV.symm (hl.mono (by omega) fun b o j hb2 h u hu => (h u hu).more hbB (by omega) (Nat.le_refl _)) hm (by omega) hw1 (fun u hu => ⟨(hlm u hu).1, (hlm u hu).2.1⟩))
    have hTx1 : TmAt w1 (w.heap.size + 2) d' b' o' x := hTx.more (hb1.mono (by omega)) (Nat.le_refl _) (Nat.le_refl _)
    have HF := hide (And.intro hz1 (And.intro hb01 (And.intro hTx1 (And.intro h19 (And.intro ex (And.intro hlen (And.intro hw1 hd')))))))
    clear hV hl hTC hb0C hzC haC hm hnV hwt hlm hic hsA hsC hz1 ha1 hb01 hb1 h19 ex hTx hlen hbB hTx1 hd' hw1
    go_wp2_with fail
    refine (unhide HNs).mono ?_
    rintro e w2 ⟨rs, rfl, hrs, hS2, hb2⟩
    obtain ⟨hz1, hb01, hTx1, h19, ex, hlen, hw1, hd'⟩ := unhide HF
    obtain ⟨hV, hl, hTC, hb0C, hzC, haC, hm, hnV, hwt, hlm, hic⟩ := unhide HI
    have hw2 : w.heap.size + 2 ≤ w2.heap.size := by have := hb2.size; omega
    have hz2 := (hb2.block (w.heap.size + 1) (by omega)).trans hz1
    have hb02 : Below w.heap.size w w2 := hb01.trans (hb2.mono (by omega))
    have hxw : x.wt ≤ 400000 := by
      rw [t.wt_eq, ex] at hwt
      simp at hwt
      omega
    have HFi := hide (fill_any (sub := subV t.vars lm) (dl := d') (d := d') (sv := .map (some rs)) (fun k u hu => ⟨(hlm u (subV_mem _ _ _ _ hu)).1, (hlm u (subV_mem _ _ _ _ hu)).2.1⟩) (fun k u hu => (hlm u (subV_mem _ _ _ _ hu)).2.2) (B := w.heap.size + 2) (w := w2) (b := b') (o := o') (t := x) (hTx1.more (hb2.mono hw1) (Nat.le_refl _) (Nat.le_refl _)) (.inr ⟨rs, rfl, hS2⟩) hw2 hxw (by omega) (hic x ex))
    have HG := hide (And.intro hz2 (And.intro hb02 hw2))
    clear hV hl hTC hb0C hzC haC hm hnV hwt hlm hic hz1 hb01 hTx1 h19 ex hlen hw1 hz2 hb02 hw2 hxw hrs hS2 hb2 hd'
    go_wp2_with fail
    refine (unhide HFi).mono ?_
    rintro e w3 ⟨v', er, rfl, hb3, hR3⟩
    obtain ⟨hz2, hb02, hw2⟩ := unhide HG
    have hz3 := (hb3.block (w.heap.size + 1) (by omega)).trans hz2
    have hb03 : Below w.heap.size w w3 := hb02.trans (hb3.mono (by omega))
    obtain ⟨x0, x1, x2, x3, y4, n4, c4, y5, n5, c5, y6, n6, c6, rfl, he0, he1⟩ := hR3.form
    have z0 : w3.cell? ⟨w.heap.size + 1, 0, none⟩ = some (.int .i64 0) := (blk hz3).2.1 0 _ rfl
    have zf0 := (blk hz3).2.2 0
    have z1 : w3.cell? ⟨w.heap.size + 1, 1, none⟩ = some (.string ⟨#[]⟩) := (blk hz3).2.1 1 _ rfl
    have zf1 := (blk hz3).2.2 1
    have z2 : w3.cell? ⟨w.heap.size + 1, 2, none⟩ = some (.int .i64 0) := (blk hz3).2.1 2 _ rfl
    have zf2 := (blk hz3).2.2 2
    have z3 : w3.cell? ⟨w.heap.size + 1, 3, none⟩ = some (.string ⟨#[]⟩) := (blk hz3).2.1 3 _ rfl
    have zf3 := (blk hz3).2.2 3
    have z4 : w3.cell? ⟨w.heap.size + 1, 4, none⟩ = some (.slice none 0 0) := (blk hz3).2.1 4 _ rfl
    have zf4 := (blk hz3).2.2 4
    have z5 : w3.cell? ⟨w.heap.size + 1, 5, none⟩ = some (.slice none 0 0) := (blk hz3).2.1 5 _ rfl
    have zf5 := (blk hz3).2.2 5
    have z6 : w3.cell? ⟨w.heap.size + 1, 6, none⟩ = some (.slice none 0 0) := (blk hz3).2.1 6 _ rfl
    have zf6 := (blk hz3).2.2 6
    have HH := hide (And.intro hz3 (And.intro hb03 (And.intro hR3 hw2)))
    clear hz2 hb02 hw2 hz3 hb03 hR3 hb3
    go_wp2
    obtain ⟨hz3, hb03, hR3, hw2⟩ := unhide HH
    obtain ⟨hz1, hb01, hTx1, h19, ex, hlen, hw1, hd'⟩ := unhide HF
    obtain ⟨hV, hl, hTC, hb0C, hzC, haC, hm, hnV, hwt, hlm, hic⟩ := unhide HI
    refine ⟨rfl, _, res_row2 (cs := [.int .i64 x0, .string x1, .int .i64 x2, .string x3, .slice y4 n4 c4, .slice y5 n5 c5, .slice y6 n6 c6]) rfl rfl rfl (range_block (fill7 hz3)) rfl rfl rfl, _, er, rfl, ?_, .inr ⟨h19, by omega, x, ex, hR3.keep (by omega) (put7_below (B := w.heap.size) (w := w3) (g := w.heap.size + 1) (m := 0) (a := .int .i64 x0) (b := .string x1) (c := .int .i64 x2) (d := .string x3) (e := .slice y4 n4 c4) (f := .slice y5 n5 c5) (h := .slice y6 n6 c6) (by omega)).size fun j h1 h2 => put7_far (w := w3) (g := w.heap.size + 1) (m := 0) (a := .int .i64 x0) (b := .string x1) (c := .int .i64 x2) (d := .string x3) (e := .slice y4 n4 c4) (f := .slice y5 n5 c5) (h := .slice y6 n6 c6) (by omega)⟩⟩
    exact hb03.trans (put7_below (by omega))
  · have hd1 : decide ((m : Int) = (nV : Int)) = false := by simp; omega
    have hd2 : ((m : Int) == (nV : Int)) = false := by simp; omega
    have hd3 : ((m : Int) != (nV : Int)) = true := by simp; omega
    have z0 : w1.cell? ⟨w.heap.size + 1, 0, none⟩ = some (.int .i64 0) := (blk hz1).2.1 0 _ rfl
    have zf0 := (blk hz1).2.2 0
    have z1 : w1.cell? ⟨w.heap.size + 1, 1, none⟩ = some (.string ⟨#[]⟩) := (blk hz1).2.1 1 _ rfl
    have zf1 := (blk hz1).2.2 1
    have z2 : w1.cell? ⟨w.heap.size + 1, 2, none⟩ = some (.int .i64 0) := (blk hz1).2.1 2 _ rfl
    have zf2 := (blk hz1).2.2 2
    have z3 : w1.cell? ⟨w.heap.size + 1, 3, none⟩ = some (.string ⟨#[]⟩) := (blk hz1).2.1 3 _ rfl
    have zf3 := (blk hz1).2.2 3
    have z4 : w1.cell? ⟨w.heap.size + 1, 4, none⟩ = some (.slice none 0 0) := (blk hz1).2.1 4 _ rfl
    have zf4 := (blk hz1).2.2 4
    have z5 : w1.cell? ⟨w.heap.size + 1, 5, none⟩ = some (.slice none 0 0) := (blk hz1).2.1 5 _ rfl
    have zf5 := (blk hz1).2.2 5
    have z6 : w1.cell? ⟨w.heap.size + 1, 6, none⟩ = some (.slice none 0 0) := (blk hz1).2.1 6 _ rfl
    have zf6 := (blk hz1).2.2 6
    have HF := hide (And.intro hz1 (And.intro hb01 (And.intro hlen (And.intro hm hnV))))
    clear hV hl hTC hb0C hzC haC hm hnV hwt hlm hic hsA hsC hz1 ha1 hb01 hb1 hlen h19 ex hTx hd'
    go_wp2
    obtain ⟨hz1, hb01, hlen, hm, hnV⟩ := unhide HF
    refine ⟨rfl, _, res_row2 (cs := [.int .i64 0, .string ⟨#[]⟩, .int .i64 0, .string ⟨#[]⟩, .slice none 0 0, .slice none 0 0, .slice none 0 0]) rfl rfl rfl (range_block (fill7 hz1)) rfl rfl rfl, zeroT, 30, rfl, ?_, .inl ⟨fun h => hlen (by omega), rfl, rfl⟩⟩
    exact hb01.trans (put7_below (by omega))
end Go.Proofs.YtegmckpcchhmdaaDoor
