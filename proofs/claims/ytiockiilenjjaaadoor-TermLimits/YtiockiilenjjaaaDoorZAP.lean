/- Copies: a TAll that stands. -/
import Derived.Test.YtiockiilenjjaaaDoorZAO
set_option linter.unusedVariables false
set_option linter.unusedSimpArgs false

/- Copies: a node that stands, no TAll. -/
namespace Go.Proofs.YtiockiilenjjaaaDoor
open Go Go.RowKit
theorem inst_none {sub : ByteArray → Option Tm} {t : Tm} {hid : ByteArray → Int} (h : rep sub hid t.op t.name = none) (h19 : t.op ≠ 19) : t.inst sub hid = ⟨t.op, if t.op = 17 ∨ t.op = 18 then t.name else .empty, if t.op = 18 then t.sort else 0, if t.op = 1 then t.num else .empty, t.l.map fun u => u.inst sub hid, [], []⟩ ∧ t.icp sub hid = icpL sub t.l hid := by
  cases t
  rw [Tm.inst, Tm.icp]
  simp only at h h19
  rw [h]
  simp only [within, if_neg h19]
  exact ⟨trivial, rfl⟩
set_option maxRecDepth 1000000 in
set_option maxHeartbeats 16000000 in
theorem yterm_plain {sub : ByteArray → Option Tm} {dl d : Nat} {sv : Value} (hL : YListC sub dl sv d) {B r : Nat} {w : World} {b o : Nat} {t : Tm} {hid : ByteArray → Int} {cp un : Nat} (hT : TmAt w B (d + 1) b o t) (hS : SLv w B sv dl sub hid) (hW : w.heap[r]? = some (CV sv cp)) (hBr : B ≤ r) (hcp : cp + t.icp sub hid ≤ 21474836) (hu : un + (d + 1) + dl ≤ 65536) (hh : ∀ k, 0 ≤ hid k ∧ hid k + t.wt ≤ 400000) (hr : rep sub hid t.op t.name = none) (h19 : t.op ≠ 19) :
    Calls Tryd.prog 77 #[.pointer (some ⟨r, 0, none⟩), .pointer (some ⟨b, o, none⟩), .int .i64 un] w fun e w' => ∃ v, e = .returned v ∧ IsP w' (FB w.heap.size w') (d + 1 + dl) v (t.inst sub hid) ∧ w'.heap[r]? = some (CV sv (cp + t.icp sub hid)) ∧ SLv w' B sv dl sub hid ∧ XF B r w w' ∧ (sv = .map none → But r w w') := by
  obtain ⟨ei, ec⟩ := inst_none hr h19
  rw [ec] at hcp
  rw [ei, ec]
  have hlab : t.label = .agg #[.int .i64 t.op, .string (if t.op = 17 ∨ t.op = 18 then t.name else .empty), .string (if t.op = 1 then t.num else .empty), .int .i64 (if t.op = 18 then t.sort else 0)] := rfl
  have hfs : fits (if t.op = 18 then t.sort else 0) := by
    split
    · exact (show fits t.sort from hT.2.2.1)
    · unfold fits; omega
  generalize hnm : (if t.op = 17 ∨ t.op = 18 then t.name else ByteArray.empty) = nm at *
  generalize hnu : (if t.op = 1 then t.num else ByteArray.empty) = nu at *
  generalize hso : (if t.op = 18 then t.sort else (0 : Int)) = so at *
  have hrw := (Array.getElem?_eq_some_iff.1 hW).1
  have hBw : B ≤ w.heap.size := by omega
  have hlw : ∀ k, 0 ≤ hid k ∧ hid k + lwt t.l ≤ 400000 := fun k => (hh k).imp id (fun h => by
    rw [t.wt_eq] at h
    unfold lwt
    omega)
  obtain ⟨hb, hfo, _, aL, aV, aP, cL, cV, cP, hrg, hRL, hV, hP, _⟩ := hT
  have hbw : b < w.heap.size := by omega
  obtain ⟨n, hn⟩ : ∃ n, t.l.length = n := ⟨_, rfl⟩
  rw [hn] at hRL
  obtain ⟨ml, eml⟩ : ∃ ml, (t.l.map fun u => u.inst sub hid) = ml := ⟨_, rfl⟩
  have hml : ml.length = n := by rw [← eml, List.length_map, hn]
  rw [eml]
  obtain ⟨A, eA, hbA, hsA, hcA, hhA⟩ := box_new w #[.int .i64 0, .string ⟨#[]⟩, .int .i64 0, .string ⟨#[]⟩, .slice none 0 0, .slice none 0 0, .slice none 0 0] 26
  have c0 : A.cell? ⟨b, o, none⟩ = some (.int .i64 t.op) := (hbA.cell (p := ⟨b, o, none⟩) hbw).trans (hrg 0 _ rfl)
  have hWA : A.heap[r]? = some (CV sv cp) := (hbA.block r hrw).trans hW
  have HG := hide hrg
  have HN := hide hn
  have HI := hide (And.intro hS (And.intro hW (And.intro hbA (And.intro hhA (And.intro hsA (And.intro eml (And.intro hr (And.intro hcp (And.intro hRL (And.intro hlw (And.intro hlab (And.intro hfo (And.intro hfs hml)))))))))))))
  have HL := hide hL
  have hbA1 : b < A.heap.size := by omega
  have HWA := hide hWA
  have hrA : r < A.heap.size := by omega
  have hk2 : kindOf t.op ≠ 112 := kindOf_all h19
  have ta0 := fun w => ta_no (ty := 112) (v := .agg #[.pointer (some ⟨b, o, none⟩)]) (z := .agg #[.pointer none]) (w := w) hk2 rfl rfl (by go_simp)
  clear hrg hRL hV hP hS hW hr ei ec hL eml hbA hhA hsA hcA hcp hWA hlw hlab hfo hfs hml hnm hnu hso hn hh h19 hk2
  go_enter Tryd.func77, Tryd.ntmps77
  go_wp2_with fail
  refine (view_any b o t.op A c0 hbA1).mono ?_
  rintro e w1 ⟨rfl, hb1⟩
  have r01 : w1.cell? ⟨r, 0, none⟩ = some sv := (blk ((hb1.block r hrA).trans (unhide HWA))).2.1 0 _ rfl
  have HB1 := hide hb1
  clear hb1 c0
  go_wp2_with fail
  obtain ⟨hS, hW, hbA, hhA, hsA, eml, hr, hcp, hRL, hlw, hlab, hfo, hfs, hml⟩ := unhide HI
  have hb01 : Below w.heap.size w w1 := hbA.trans ((unhide HB1).mono (by omega))
  refine (of_any (hS.below hb01 (Nat.le_refl _)) (by have := hb01.size; omega) (by have := hb01.size; omega) ((hb01.cell (p := ⟨b, o + 1, none⟩) hbw).trans ((unhide HG) 1 _ rfl))).mono ?_
  rintro e w2 ⟨hb2, h2⟩
  rw [hr] at h2
  have he : e = .returned (.pointer none) := by
    rcases h2 with ⟨_, h⟩ | ⟨_, _, _, _, h, _⟩
    · exact h
    · cases h
  subst he
  have hb02 : Below w.heap.size w w2 := hb01.trans (hb2.mono hb01.size)
  have hz2 : w2.heap[w.heap.size]? = some (.cells #[.int .i64 0, .string ⟨#[]⟩, .int .i64 0, .string ⟨#[]⟩, .slice none 0 0, .slice none 0 0, .slice none 0 0] 26) := by
    rw [hb2.block _ (by have := (unhide HB1).size; omega), (unhide HB1).block _ (by omega)]
    exact hhA
  have hbc := fun k (h : k < 7) v (hv : (tcells t aL aV aP cL cV cP)[k]? = some v) => (hb02.cell (p := ⟨b, o + k, none⟩) hbw).trans ((unhide HG) k v hv)
  have HLab := hide (labelOf_any (w := w2) (b := b) (o := o) (t := t) (hbc 0 (by omega) _ rfl) (hbc 1 (by omega) _ rfl) (hbc 2 (by omega) _ rfl) (hbc 3 (by omega) _ rfl) (Nat.lt_of_lt_of_le hbw hb02.size))
  rw [hlab] at HLab
  have H2 := hide (And.intro hb02 hz2)
  clear hS hW hbA hhA hsA eml hr hcp hRL hlw hlab hfo hfs hml hb01 hb2 h2 hb02 hz2 hbc HB1
  go_wp2_with fail
  refine (unhide HLab).mono ?_
  rintro e w3 ⟨rfl, hb3⟩
  have HB3 := hide hb3
  clear hb3 HLab
  go_wp2_with fail
  refine (bare_any t.op so nm nu w3).mono ?_
  rintro e w4 ⟨rfl, hb4⟩
  obtain ⟨hb02, hz2⟩ := unhide H2
  have hb04 : Below w.heap.size w w4 := (hb02.trans ((unhide HB3).mono hb02.size)).trans (hb4.mono (Nat.le_trans hb02.size (unhide HB3).size))
  have hz4 : w4.heap[w.heap.size]? = some (.cells #[.int .i64 0, .string ⟨#[]⟩, .int .i64 0, .string ⟨#[]⟩, .slice none 0 0, .slice none 0 0, .slice none 0 0] 26) := by
    rw [hb4.block _ (Nat.lt_of_lt_of_le (Array.getElem?_eq_some_iff.1 hz2).1 (unhide HB3).size), (unhide HB3).block _ (Array.getElem?_eq_some_iff.1 hz2).1]
    exact hz2
  obtain ⟨E, eE, hbE, hsE, hcE, hhE⟩ := box_new w4 #[.int .i64 t.op, .string nm, .int .i64 so, .string nu, .slice none 0 0, .slice none 0 0, .slice none 0 0] 26
  obtain ⟨F, eF, hbF, hsF, hcF, hhF⟩ := box_new E #[.pointer none] 112
  have hb0F : Below w.heap.size w F := (hb04.trans (hbE.mono hb04.size)).trans (hbF.mono (by have := hb04.size; omega))
  have hp : F.heap[w4.heap.size]? = some (.cells #[.int .i64 t.op, .string nm, .int .i64 so, .string nu, .slice none 0 0, .slice none 0 0, .slice none 0 0] 26) := (hbF.block _ (by omega)).trans hhE
  have hzF : F.heap[w.heap.size]? = some (.cells #[.int .i64 0, .string ⟨#[]⟩, .int .i64 0, .string ⟨#[]⟩, .slice none 0 0, .slice none 0 0, .slice none 0 0] 26) := by
    have h := (Array.getElem?_eq_some_iff.1 hz4).1
    rw [hbF.block _ (by omega), hbE.block _ h]
    exact hz4
  have f4 : ∀ x y, ((w4.alloc x).alloc y).cell? ⟨b, o + 4, none⟩ = some (.slice aL n cL) := fun x y => by
    rw [← unhide HN]
    exact (((hb04.alloc hb04.size x).alloc (by have := hb04.size; simp; omega) y).cell (p := ⟨b, o + 4, none⟩) hbw).trans ((unhide HG) 4 _ rfl)
  have HEF := hide (And.intro eE eF)
  obtain ⟨hS, hW, hbA, hhA, hsA, eml, hr, hcp, hRL, hlw, hlab, hfo, hfs, hml⟩ := unhide HI
  have HLi := hide (unhide HL B r F aL n cL t.l hid cp (un + 1) (hRL.below (hb0F.mono hBw)) (unhide HN).symm (hS.below hb0F (Nat.le_refl _)) ((hb0F.block r hrw).trans hW) hBr hcp (by omega) hlw)
  have HE := hide (And.intro hb0F (And.intro hp (And.intro hzF (And.intro hsE (And.intro hsF (And.intro eml (And.intro hfo (And.intro hfs (And.intro hml (And.intro (Array.getElem?_eq_some_iff.1 hz4).1 hb04.size))))))))))
  clear hS hW hbA hhA hsA eml hr hcp hRL hlw hlab hfo hfs hml hb02 hz2 hb04 hz4 hb4 hbE hsE hcE hhE hbF hsF hcF hhF hb0F hp hzF HB3 H2 r01 eE eF
  go_wp2_with fail
  obtain ⟨eE, eF⟩ := unhide HEF
  rw [eE, eF]
  clear eE eF
  rw [show ((un : Int) + 1) = ((un + 1 : Nat) : Int) by omega]
  refine (unhide HLi).mono ?_
  rintro e w5 ⟨a2, c2, rfl, hR5, hW5, hS5, hX5, hB5⟩
  obtain ⟨hb0F, hp, hzF, hsE, hsF, eml, hfo, hfs, hml, hlt4, hle4⟩ := unhide HE
  rw [eml] at hR5
  have hp5 := hX5.blk hp (by omega) (by decide)
  have hz5 := hX5.blk hzF (by omega) (by decide)
  have hne : w4.heap.size ≠ w.heap.size := by omega
  have hne2 : w.heap.size ≠ w4.heap.size := by omega
  obtain ⟨G, eG⟩ : ∃ G, w5.setCell ⟨w4.heap.size, 4, none⟩ (.slice a2 n c2) = G := ⟨_, rfl⟩
  have hpG : G.heap[w4.heap.size]? = some (.cells #[.int .i64 t.op, .string nm, .int .i64 so, .string nu, .slice a2 n c2, .slice none 0 0, .slice none 0 0] 26) := by
    rw [← eG]
    exact set_block hp5 _
  have hzG : G.heap[w.heap.size]? = some (.cells #[.int .i64 0, .string ⟨#[]⟩, .int .i64 0, .string ⟨#[]⟩, .slice none 0 0, .slice none 0 0, .slice none 0 0] 26) := by
    rw [← eG]
    exact keep_set hz5 hne2 _
  have y4 : w5.cell? ⟨w4.heap.size, 4, none⟩ = some (.slice none 0 0) := (blk hp5).2.1 4 _ rfl
  have yf4 := (blk hp5).2.2 4
  have q0 : G.cell? ⟨w.heap.size, 0, none⟩ = some (.int .i64 0) := (blk hzG).2.1 0 _ rfl
  have qf0 := (blk hzG).2.2 0
  have p0 : G.cell? ⟨w4.heap.size, 0, none⟩ = some (.int .i64 t.op) := (blk hpG).2.1 0 _ rfl
  have q1 : G.cell? ⟨w.heap.size, 1, none⟩ = some (.string ⟨#[]⟩) := (blk hzG).2.1 1 _ rfl
  have qf1 := (blk hzG).2.2 1
  have p1 : G.cell? ⟨w4.heap.size, 1, none⟩ = some (.string nm) := (blk hpG).2.1 1 _ rfl
  have q2 : G.cell? ⟨w.heap.size, 2, none⟩ = some (.int .i64 0) := (blk hzG).2.1 2 _ rfl
  have qf2 := (blk hzG).2.2 2
  have p2 : G.cell? ⟨w4.heap.size, 2, none⟩ = some (.int .i64 so) := (blk hpG).2.1 2 _ rfl
  have q3 : G.cell? ⟨w.heap.size, 3, none⟩ = some (.string ⟨#[]⟩) := (blk hzG).2.1 3 _ rfl
  have qf3 := (blk hzG).2.2 3
  have p3 : G.cell? ⟨w4.heap.size, 3, none⟩ = some (.string nu) := (blk hpG).2.1 3 _ rfl
  have q4 : G.cell? ⟨w.heap.size, 4, none⟩ = some (.slice none 0 0) := (blk hzG).2.1 4 _ rfl
  have qf4 := (blk hzG).2.2 4
  have p4 : G.cell? ⟨w4.heap.size, 4, none⟩ = some (.slice a2 n c2) := (blk hpG).2.1 4 _ rfl
  have q5 : G.cell? ⟨w.heap.size, 5, none⟩ = some (.slice none 0 0) := (blk hzG).2.1 5 _ rfl
  have qf5 := (blk hzG).2.2 5
  have p5 : G.cell? ⟨w4.heap.size, 5, none⟩ = some (.slice none 0 0) := (blk hpG).2.1 5 _ rfl
  have q6 : G.cell? ⟨w.heap.size, 6, none⟩ = some (.slice none 0 0) := (blk hzG).2.1 6 _ rfl
  have qf6 := (blk hzG).2.2 6
  have p6 : G.cell? ⟨w4.heap.size, 6, none⟩ = some (.slice none 0 0) := (blk hpG).2.1 6 _ rfl
  have HF := hide (And.intro hpG (And.intro hzG (And.intro hR5 (And.intro hW5 (And.intro hS5 (And.intro hX5 (And.intro hB5 (And.intro hp5 eG))))))))
  clear hpG hzG hR5 hW5 hS5 hX5 hB5 hp5 hz5 hb0F hp hzF hsE hsF eml hfo hfs hml f4 hlt4 hle4
  go_wp2
  obtain ⟨hpG, hzG, hR5, hW5, hS5, hX5, hB5, hp5, eG⟩ := unhide HF
  obtain ⟨hb0F, hp, hzF, hsE, hsF, eml, hfo, hfs, hml, hlt4, hle4⟩ := unhide HE
  have hbG : Below B w5 G := by
    rw [← eG]
    exact (Below.refl B w5).setCell (p := ⟨w4.heap.size, 4, none⟩) (show B ≤ w4.heap.size by omega) _
  have hbX : Below B G (put7 G w.heap.size 0 (.int .i64 t.op) (.string nm) (.int .i64 so) (.string nu) (.slice a2 n c2) (.slice none 0 0) (.slice none 0 0)) := put7_below hBw
  have hH : (put7 G w.heap.size 0 (.int .i64 t.op) (.string nm) (.int .i64 so) (.string nu) (.slice a2 n c2) (.slice none 0 0) (.slice none 0 0)).heap[w.heap.size]? = some (.cells [.int .i64 t.op, .string nm, .int .i64 so, .string nu, .slice a2 n c2, .slice none 0 0, .slice none 0 0].toArray 26) := fill7 hzG
  have hfar : ∀ k, k ≠ w.heap.size → k ≠ w4.heap.size → (put7 G w.heap.size 0 (.int .i64 t.op) (.string nm) (.int .i64 so) (.string nu) (.slice a2 n c2) (.slice none 0 0) (.slice none 0 0)).heap[k]? = w5.heap[k]? := fun k h1 h2 => by
    rw [put7_far h1, ← eG]
    exact Below.heap_setCell w5 ⟨w4.heap.size, 4, none⟩ _ k h2
  have hsX : w5.heap.size ≤ (put7 G w.heap.size 0 (.int .i64 t.op) (.string nm) (.int .i64 so) (.string nu) (.slice a2 n c2) (.slice none 0 0) (.slice none 0 0)).heap.size := Nat.le_trans hbG.size hbX.size
  have hWX := (hfar r (by omega) (by omega)).trans hW5
  have hSX := (hS5.but hbG (g := w4.heap.size) (fun q hq => by rw [← eG]; exact Below.heap_setCell w5 ⟨w4.heap.size, 4, none⟩ _ q hq) hp5 (by decide)).but hbX (fun q hq => put7_far hq) hzG (by decide)
  have hX := (XF.of (B := B) (r := r) hb0F (Nat.le_refl _)).trans hX5
  have hXX : XF B r w (put7 G w.heap.size 0 (.int .i64 t.op) (.string nm) (.int .i64 so) (.string nu) (.slice a2 n c2) (.slice none 0 0) (.slice none 0 0)) := ⟨hbX.os.trans (hbG.os.trans hX.os), hbX.tape.trans (hbG.tape.trans hX.tape), hbX.output.trans (hbG.output.trans hX.output), Nat.le_trans hX.size hsX, fun k hk hj => (hfar k (by omega) (by omega)).trans (hX.block k hk hj)⟩
  have hBX : sv = .map none → But r w (put7 G w.heap.size 0 (.int .i64 t.op) (.string nm) (.int .i64 so) (.string nu) (.slice a2 n c2) (.slice none 0 0) (.slice none 0 0)) := fun e => put7_but (by
    rw [← eG]
    exact ((But.of hb0F (Nat.le_refl _)).trans (hB5 e)).setCell (p := ⟨w4.heap.size, 4, none⟩) (.inr hle4) _) (Nat.le_refl _)
  have hkk : ∀ k, FB F.heap.size w5 k → FB w.heap.size (put7 G w.heap.size 0 (.int .i64 t.op) (.string nm) (.int .i64 so) (.string nu) (.slice a2 n c2) (.slice none 0 0) (.slice none 0 0)) k ∧ (put7 G w.heap.size 0 (.int .i64 t.op) (.string nm) (.int .i64 so) (.string nu) (.slice a2 n c2) (.slice none 0 0) (.slice none 0 0)).heap[k]? = w5.heap[k]? := fun k hk => hk.keep (by omega) hsX (hfar k (by have := hk.1; omega) (by have := hk.1; omega))
  have hIX : IsP (put7 G w.heap.size 0 (.int .i64 t.op) (.string nm) (.int .i64 so) (.string nu) (.slice a2 n c2) (.slice none 0 0) (.slice none 0 0)) (FB w.heap.size (put7 G w.heap.size 0 (.int .i64 t.op) (.string nm) (.int .i64 so) (.string nu) (.slice a2 n c2) (.slice none 0 0) (.slice none 0 0))) (d + 1 + dl) (.agg [.int .i64 t.op, .string nm, .int .i64 so, .string nu, .slice a2 n c2, .slice none 0 0, .slice none 0 0].toArray) ⟨t.op, nm, so, nu, ml, [], []⟩ := by
    refine ⟨hfo, hfs, a2, none, none, c2, 0, 0, by simp [tcells, hml], ?_, ⟨Nat.le_refl _, by simp, fun h => absurd rfl h⟩, ⟨Nat.le_refl _, by simp, fun h => absurd rfl h⟩⟩
    show RowP _ a2 ml.length c2 7 _
    rw [hml]
    exact hR5.imp (fun k hk => (hkk k hk).1) fun b' o' j hb' h x hx => (h x hx).keep hkk (by omega)
  exact ⟨rfl, _, res_row (cs := [.int .i64 t.op, .string nm, .int .i64 so, .string nu, .slice a2 n c2, .slice none 0 0, .slice none 0 0]) rfl rfl (range_block hH) rfl rfl rfl, _, rfl, hIX, hWX, hSX, hXX, hBX⟩
end Go.Proofs.YtiockiilenjjaaaDoor

/- Copies: a TAll that stands: what the walk carries. -/
namespace Go.Proofs.YtiockiilenjjaaaDoor
open Go Go.RowKit
/-- New blocks from lim on, no slots, stand. -/
structure KF (lim : Nat) (w w' : World) : Prop where
  size : w.heap.size ≤ w'.heap.size
  block : ∀ k, lim ≤ k → k < w.heap.size → NS w k → w'.heap[k]? = w.heap[k]?
theorem KF.refl (lim : Nat) (w : World) : KF lim w w := ⟨Nat.le_refl _, fun _ _ _ _ => rfl⟩
theorem KF.trans {lim : Nat} {a b c : World} (h : KF lim a b) (k : KF lim b c) : KF lim a c := ⟨Nat.le_trans h.size k.size, fun j h1 h2 h3 => by
  have e := h.block j h1 h2 h3
  exact (k.block j h1 (Nat.lt_of_lt_of_le h2 h.size) (fun cs fr hc => h3 cs fr (e.symm.trans hc))).trans e⟩
theorem KF.of {lim : Nat} {w w' : World} (h : Below w.heap.size w w') : KF lim w w' := ⟨h.size, fun k _ hk _ => h.block k hk⟩
theorem KF.set {lim q o : Nat} {w : World} {v : Value} (hq : q < lim) : KF lim w (w.setCell ⟨q, o, none⟩ v) := ⟨by simp, fun k h1 _ _ => Below.heap_setCell w ⟨q, o, none⟩ v k (by show k ≠ q; omega)⟩
theorem KF.ofX {lim B r : Nat} {w w' : World} (h : XF B r w w') (hr : r < lim) : KF lim w w' := ⟨h.size, fun k h1 h2 h3 => h.block k h2 (.inr ⟨by omega, h3⟩)⟩
theorem KF.put7 {lim q m : Nat} {w : World} {a b c d e f h : Value} (hq : q < lim) : KF lim w (put7 w q m a b c d e f h) := ⟨by unfold Go.Proofs.YtiockiilenjjaaaDoor.put7; simp, fun k h1 _ _ => put7_far (by omega)⟩
theorem KF.fb {lim m m' : Nat} {w w' : World} (h : KF lim w w') (hl : lim ≤ m) (hm : m' ≤ m) (k : Nat) (hk : FB m w k) : FB m' w' k ∧ w'.heap[k]? = w.heap[k]? := hk.keep hm h.size (h.block k (Nat.le_trans hl hk.1) hk.2.1 hk.2.2)
theorem XF.setNew {B r q o : Nat} {w w4 : World} {v : Value} (h : XF B r w w4) (hq : w.heap.size ≤ q) : XF B r w (w4.setCell ⟨q, o, none⟩ v) := by
  refine ⟨h.os, h.tape, h.output, by simpa using h.size, fun k hk hj => ?_⟩
  rw [Below.heap_setCell w4 ⟨q, o, none⟩ v k (by show k ≠ q; omega)]
  exact h.block k hk hj
/-- A copier at work on a TAll: its own block, slots, the answer's box, the box of what is made, the node's. -/
structure YI (B r z q u dl : Nat) (sv : Value) (sub : ByteArray → Option Tm) (b o : Nat) (w W : World) (hid : ByteArray → Int) (cp : Nat) (oc : Array Value) : Prop where
  cv : W.heap[r]? = some (CV sv cp)
  sl : SLv W B sv dl sub hid
  xf : XF B r w W
  but : sv = .map none → But r w W
  out : W.heap[q]? = some (.cells oc 26)
  zero : W.heap[z]? = some (.cells #[.int .i64 0, .string ⟨#[]⟩, .int .i64 0, .string ⟨#[]⟩, .slice none 0 0, .slice none 0 0, .slice none 0 0] 26)
  uni : W.heap[u]? = some (.cells #[.pointer (some ⟨b, o, none⟩)] 112)
section
variable {B r z q u dl lim : Nat} {sv : Value} {sub : ByteArray → Option Tm} {b o : Nat} {w W : World} {hid : ByteArray → Int} {cp : Nat} {oc : Array Value}
theorem YI.grow {W' : World} (h : YI B r z q u dl sv sub b o w W hid cp oc) (hb : Below W.heap.size W W') : YI B r z q u dl sv sub b o w W' hid cp oc := by
  have k : ∀ {j : Nat} {x : Obj}, W.heap[j]? = some x → W'.heap[j]? = some x := fun hx => (hb.block _ (Array.getElem?_eq_some_iff.1 hx).1).trans hx
  exact ⟨k h.cv, h.sl.below hb (Nat.le_refl _), h.xf.trans (XF.of hb (Nat.le_refl _)), fun e => (h.but e).trans (But.of hb (Nat.le_refl _)), k h.out, k h.zero, k h.uni⟩
theorem YI.copied (h : YI B r z q u dl sv sub b o w W hid cp oc) (hBr : B ≤ r) (hq : q ≠ r) (hz : z ≠ r) (hu : u ≠ r) (c : Nat) : YI B r z q u dl sv sub b o w (W.setCell ⟨r, 1, none⟩ (.int .i64 (c : Int))) hid c oc := by
  refine ⟨?_, h.sl.set hBr h.cv (by decide), h.xf.set hBr, fun e => (h.but e).setCell (p := ⟨r, 1, none⟩) (.inl rfl) _, keep_set h.out hq _, keep_set h.zero hz _, keep_set h.uni hu _⟩
  rw [set_block h.cv]
  rfl
theorem YI.put (h : YI B r z q u dl sv sub b o w W hid cp oc) (hq : q ≠ r) (hzq : z ≠ q) (huq : u ≠ q) (hwq : w.heap.size ≤ q) (hBq : B ≤ q) (j : Nat) (v : Value) : YI B r z q u dl sv sub b o w (W.setCell ⟨q, j, none⟩ v) hid cp (oc.setIfInBounds j v) :=
  ⟨keep_set h.cv (fun e => hq e.symm) _, h.sl.set hBq h.out (by decide), h.xf.setNew hwq, fun e => (h.but e).setCell (p := ⟨q, j, none⟩) (.inr hwq) _, set_block h.out _, keep_set h.zero hzq _, keep_set h.uni huq _⟩
theorem YI.list {W' : World} {cp' : Nat} (h : YI B r z q u dl sv sub b o w W hid cp oc) (hq : q ≠ r) (hz : z ≠ r) (hu : u ≠ r) (h1 : W'.heap[r]? = some (CV sv cp')) (h2 : SLv W' B sv dl sub hid) (h3 : XF B r W W') (h4 : sv = .map none → But r W W') : YI B r z q u dl sv sub b o w W' hid cp' oc :=
  ⟨h1, h2, h.xf.trans h3, fun e => (h.but e).trans (h4 e), h3.blk h.out hq (by decide), h3.blk h.zero hz (by decide), h3.blk h.uni hu (by decide)⟩
theorem hide_c {aV : Option Addr} {cV : Nat} {x : List (ByteArray × Int)} {s : Int} (h : YI B r z q u dl sv sub b o w W hid cp oc) (hx : Row B aV x.length cV 2 (BR w x)) (hBw : B ≤ w.heap.size) (hs : s = 1 ∨ s = -1) (hh : ∀ k, -500000 ≤ hid k ∧ hid k ≤ 500000) (hl : x.length ≤ 400000) (W0 : World) (hb : Below W.heap.size W W0) :
    Calls Tryd.prog 94 #[sv, .slice aV x.length cV, .int .i64 s] W0 fun e w' => e = .returned (.tuple #[]) ∧ YI B r z q u dl sv sub b o w w' (hidV s x hid) cp oc ∧ KF lim W w' := by
  have h0 := h.grow hb
  have hbel := h0.xf.below hBw
  refine (hide_any h0.sl (hx.mono (Nat.le_refl _) fun b o j hb2 h u hu => ⟨rangeAt_below (h u hu).1 hb2 hbel, (h u hu).2⟩) rfl (by have := h0.xf.size; omega) hs hh hl).mono ?_
  rintro e w' ⟨rfl, h1, h2, h3⟩
  refine ⟨rfl, ⟨(h2 (r + 1)).blk h0.cv (by omega) (by decide), h1, h0.xf.trans (h2 r), fun e => (h0.but e).trans (But.of (h3 e) (Nat.le_refl _)), (h2 (q + 1)).blk h0.out (by omega) (by decide), (h2 (z + 1)).blk h0.zero (by omega) (by decide), (h2 (u + 1)).blk h0.uni (by omega) (by decide)⟩, (KF.of hb).trans ⟨(h2 0).size, fun k _ hk hn => (h2 (k + 1)).block k hk (.inr ⟨by omega, hn⟩)⟩⟩
end
theorem inst_all {sub : ByteArray → Option Tm} {t : Tm} {hid : ByteArray → Int} (h : rep sub hid t.op t.name = none) (h19 : t.op = 19) : t.inst sub hid = ⟨t.op, if t.op = 17 ∨ t.op = 18 then t.name else .empty, if t.op = 18 then t.sort else 0, if t.op = 1 then t.num else .empty, t.l.map fun u => u.inst sub (hidV 1 t.vars hid), t.vars, t.pat.map fun u => u.inst sub (hidV 1 t.vars hid)⟩ ∧ t.icp sub hid = t.vars.length + icpL sub t.pat (hidV 1 t.vars hid) + icpL sub t.l (hidV 1 t.vars hid) := by
  cases t
  rw [Tm.inst, Tm.icp]
  simp only at h h19
  rw [h]
  subst h19
  simp only [within, if_true]
  refine ⟨trivial, ?_⟩
  unfold icpL
  omega
theorem YI.cells {B r z q u dl : Nat} {sv : Value} {sub : ByteArray → Option Tm} {b o : Nat} {w W : World} {hid : ByteArray → Int} {cp : Nat} {oc : Array Value} {cs : List Value} (h : YI B r z q u dl sv sub b o w W hid cp oc) (hrg : w.rangeAt b o cs) (hBw : B ≤ w.heap.size) (hb : b < B) : W.cell? ⟨r, 0, none⟩ = some sv ∧ W.cell? ⟨u, 0, none⟩ = some (.pointer (some ⟨b, o, none⟩)) ∧ ∀ (k : Nat) v, cs[k]? = some v → W.cell? ⟨b, o + k, none⟩ = some v :=
  ⟨(blk h.cv).2.1 0 _ rfl, (blk h.uni).2.1 0 _ rfl, fun k v hv => ((h.xf.below hBw).cell (p := ⟨b, o + k, none⟩) hb).trans (hrg k v hv)⟩
end Go.Proofs.YtiockiilenjjaaaDoor

namespace Go.Proofs.YtiockiilenjjaaaDoor
open Go Go.RowKit
set_option maxRecDepth 1000000 in
set_option maxHeartbeats 16000000 in
theorem yterm_all {sub : ByteArray → Option Tm} {dl d : Nat} {sv : Value} (hL : YListC sub dl sv d) {B r : Nat} {w : World} {b o : Nat} {t : Tm} {hid : ByteArray → Int} {cp un : Nat} (hT : TmAt w B (d + 1) b o t) (hS : SLv w B sv dl sub hid) (hW : w.heap[r]? = some (CV sv cp)) (hBr : B ≤ r) (hcp : cp + t.icp sub hid ≤ 21474836) (hu : un + (d + 1) + dl ≤ 65536) (hh : ∀ k, 0 ≤ hid k ∧ hid k + t.wt ≤ 400000) (hr : rep sub hid t.op t.name = none) (h19 : t.op = 19) :
    Calls Tryd.prog 77 #[.pointer (some ⟨r, 0, none⟩), .pointer (some ⟨b, o, none⟩), .int .i64 un] w fun e w' => ∃ v, e = .returned v ∧ IsP w' (FB w.heap.size w') (d + 1 + dl) v (t.inst sub hid) ∧ w'.heap[r]? = some (CV sv (cp + t.icp sub hid)) ∧ SLv w' B sv dl sub hid ∧ XF B r w w' ∧ (sv = .map none → But r w w') := by
  obtain ⟨ei, ec⟩ := inst_all hr h19
  rw [ec] at hcp
  rw [ei, ec]
  have hlab : t.label = .agg #[.int .i64 t.op, .string (if t.op = 17 ∨ t.op = 18 then t.name else .empty), .string (if t.op = 1 then t.num else .empty), .int .i64 (if t.op = 18 then t.sort else 0)] := rfl
  have hfs : fits (if t.op = 18 then t.sort else 0) := by
    split
    · exact (show fits t.sort from hT.2.2.1)
    · unfold fits; omega
  generalize hnm : (if t.op = 17 ∨ t.op = 18 then t.name else ByteArray.empty) = nm at *
  generalize hnu : (if t.op = 1 then t.num else ByteArray.empty) = nu at *
  generalize hso : (if t.op = 18 then t.sort else (0 : Int)) = so at *
  have hrw := (Array.getElem?_eq_some_iff.1 hW).1
  have hBw : B ≤ w.heap.size := by omega
  obtain ⟨hid', ehid⟩ : ∃ h, hidV 1 t.vars hid = h := ⟨_, rfl⟩
  rw [ehid] at hcp ⊢
  have hww : ∀ k, 0 ≤ hid k ∧ hid k + (t.vars.length + lwt t.l + lwt t.pat) ≤ 400000 := fun k => (hh k).imp id (fun h => by
    rw [t.wt_eq] at h
    unfold lwt
    omega)
  have hcn : ∀ k, (cnt k t.vars : Int) ≤ t.vars.length := fun k => by have := cnt_le k t.vars; omega
  have hlw : ∀ k, 0 ≤ hid' k ∧ hid' k + (lwt t.l + lwt t.pat) ≤ 400000 := fun k => by
    have h1 := hww k
    have h2 := hcn k
    rw [← ehid]
    unfold hidV
    omega
  have hvl : t.vars.length ≤ 400000 := by have := hww t.name; omega
  have HB0 : Hid (∀ k, -500000 ≤ hid k ∧ hid k ≤ 500000) := fun k => by have := hww k; omega
  have HB9 : Hid (∀ k, -500000 ≤ hid' k ∧ hid' k ≤ 500000) := fun k => by have := hlw k; omega
  have HEB := hide (show hidV (-1) t.vars hid' = hid by rw [← ehid]; exact hidV_back t.vars hid)
  have HEH := hide ehid
  obtain ⟨hb, hfo, _, aL, aV, aP, cL, cV, cP, hrg, hRL, hV, hP, _⟩ := hT
  have hbw : b < w.heap.size := by omega
  obtain ⟨n, hn⟩ : ∃ n, t.l.length = n := ⟨_, rfl⟩
  obtain ⟨nv, hnv⟩ : ∃ n, t.vars.length = n := ⟨_, rfl⟩
  obtain ⟨np, hnp⟩ : ∃ n, t.pat.length = n := ⟨_, rfl⟩
  rw [hn] at hRL
  rw [hnp] at hP
  have hcv : cp + nv ≤ 21474836 := by rw [← hnv]; omega
  rw [hnv] at hvl
  have HNV := hide hnv
  have HNP := hide hnp
  obtain ⟨ml, eml⟩ : ∃ ml, (t.l.map fun u => u.inst sub hid') = ml := ⟨_, rfl⟩
  obtain ⟨mp, emp⟩ : ∃ ml, (t.pat.map fun u => u.inst sub hid') = ml := ⟨_, rfl⟩
  have hml : ml.length = n := by rw [← eml, List.length_map, hn]
  have hmp : mp.length = np := by rw [← emp, List.length_map, hnp]
  rw [eml, emp]
  obtain ⟨il, eil⟩ : ∃ x, icpL sub t.l hid' = x := ⟨_, rfl⟩
  obtain ⟨ip, eip⟩ : ∃ x, icpL sub t.pat hid' = x := ⟨_, rfl⟩
  rw [eil, eip, hnv] at hcp ⊢
  have HIC := hide (And.intro eil (And.intro eip (And.intro emp (And.intro hmp (And.intro hP hV)))))
  obtain ⟨A, eA, hbA, hsA, hcA, hhA⟩ := box_new w #[.int .i64 0, .string ⟨#[]⟩, .int .i64 0, .string ⟨#[]⟩, .slice none 0 0, .slice none 0 0, .slice none 0 0] 26
  have c0 : A.cell? ⟨b, o, none⟩ = some (.int .i64 t.op) := (hbA.cell (p := ⟨b, o, none⟩) hbw).trans (hrg 0 _ rfl)
  have hWA : A.heap[r]? = some (CV sv cp) := (hbA.block r hrw).trans hW
  have HG := hide hrg
  have HN := hide hn
  have HI := hide (And.intro hS (And.intro hW (And.intro hbA (And.intro hhA (And.intro hsA (And.intro eml (And.intro hr (And.intro hcp (And.intro hRL (And.intro hlw (And.intro hlab (And.intro hfo (And.intro hfs hml)))))))))))))
  have HL := hide hL
  have hbA1 : b < A.heap.size := by omega
  have HWA := hide hWA
  have hrA : r < A.heap.size := by omega
  have hkk := hide (show kindOf t.op = 112 by rw [h19]; rfl)
  have ta0 := fun w => ta_yes (ty := 112) (v := .agg #[.pointer (some ⟨b, o, none⟩)]) (w := w) rfl rfl
  clear hrg hRL hV hP hS hW hr ei ec hL eml hbA hhA hsA hcA hcp hWA hlw hlab hfo hfs hml hnm hnu hso hn hh h19 hww hcn ehid hnv hnp emp hmp eil eip
  go_enter Tryd.func77, Tryd.ntmps77
  go_wp2_with fail
  refine (view_any b o t.op A c0 hbA1).mono ?_
  rintro e w1 ⟨rfl, hb1⟩
  have r01 : w1.cell? ⟨r, 0, none⟩ = some sv := (blk ((hb1.block r hrA).trans (unhide HWA))).2.1 0 _ rfl
  have HB1 := hide hb1
  clear hb1 c0
  go_wp2_with fail
  obtain ⟨hS, hW, hbA, hhA, hsA, eml, hr, hcp, hRL, hlw, hlab, hfo, hfs, hml⟩ := unhide HI
  have hb01 : Below w.heap.size w w1 := hbA.trans ((unhide HB1).mono (by omega))
  refine (of_any (hS.below hb01 (Nat.le_refl _)) (by have := hb01.size; omega) (by have := hb01.size; omega) ((hb01.cell (p := ⟨b, o + 1, none⟩) hbw).trans ((unhide HG) 1 _ rfl))).mono ?_
  rintro e w2 ⟨hb2, h2⟩
  rw [hr] at h2
  have he : e = .returned (.pointer none) := by
    rcases h2 with ⟨_, h⟩ | ⟨_, _, _, _, h, _⟩
    · exact h
    · cases h
  subst he
  have hb02 : Below w.heap.size w w2 := hb01.trans (hb2.mono hb01.size)
  have hz2 : w2.heap[w.heap.size]? = some (.cells #[.int .i64 0, .string ⟨#[]⟩, .int .i64 0, .string ⟨#[]⟩, .slice none 0 0, .slice none 0 0, .slice none 0 0] 26) := by
    rw [hb2.block _ (by have := (unhide HB1).size; omega), (unhide HB1).block _ (by omega)]
    exact hhA
  have hbc := fun k (h : k < 7) v (hv : (tcells t aL aV aP cL cV cP)[k]? = some v) => (hb02.cell (p := ⟨b, o + k, none⟩) hbw).trans ((unhide HG) k v hv)
  have HLab := hide (labelOf_any (w := w2) (b := b) (o := o) (t := t) (hbc 0 (by omega) _ rfl) (hbc 1 (by omega) _ rfl) (hbc 2 (by omega) _ rfl) (hbc 3 (by omega) _ rfl) (Nat.lt_of_lt_of_le hbw hb02.size))
  rw [hlab] at HLab
  have H2 := hide (And.intro hb02 hz2)
  clear hS hW hbA hhA hsA eml hr hcp hRL hlw hlab hfo hfs hml hb01 hb2 h2 hb02 hz2 hbc HB1
  go_wp2_with fail
  refine (unhide HLab).mono ?_
  rintro e w3 ⟨rfl, hb3⟩
  have HB3 := hide hb3
  clear hb3 HLab
  go_wp2_with fail
  refine (bare_any t.op so nm nu w3).mono ?_
  rintro e w4 ⟨rfl, hb4⟩
  obtain ⟨hb02, hz2⟩ := unhide H2
  have hb04 : Below w.heap.size w w4 := (hb02.trans ((unhide HB3).mono hb02.size)).trans (hb4.mono (Nat.le_trans hb02.size (unhide HB3).size))
  have hz4 : w4.heap[w.heap.size]? = some (.cells #[.int .i64 0, .string ⟨#[]⟩, .int .i64 0, .string ⟨#[]⟩, .slice none 0 0, .slice none 0 0, .slice none 0 0] 26) := by
    rw [hb4.block _ (Nat.lt_of_lt_of_le (Array.getElem?_eq_some_iff.1 hz2).1 (unhide HB3).size), (unhide HB3).block _ (Array.getElem?_eq_some_iff.1 hz2).1]
    exact hz2
  have hlt4 : w.heap.size < w4.heap.size := (Array.getElem?_eq_some_iff.1 hz4).1
  have hqr : w4.heap.size ≠ r := by omega
  have hrq : r ≠ w4.heap.size := by omega
  have hzr : w.heap.size ≠ r := by omega
  have hur : w4.heap.size + 1 ≠ r := by omega
  have hru : r ≠ w4.heap.size + 1 := by omega
  have hzq : w.heap.size ≠ w4.heap.size := by omega
  have hqz : w4.heap.size ≠ w.heap.size := by omega
  have huq : w4.heap.size + 1 ≠ w4.heap.size := by omega
  have hqu : w4.heap.size ≠ w4.heap.size + 1 := by omega
  have hbq : b ≠ w4.heap.size := by omega
  have hqb : w4.heap.size ≠ b := by omega
  have hbr : b ≠ r := by omega
  have hrb : r ≠ b := by omega
  have HQ := hide (show w.heap.size ≤ w4.heap.size ∧ B ≤ w4.heap.size by omega)
  obtain ⟨E, eE, hbE, hsE, hcE, hhE⟩ := box_new w4 #[.int .i64 t.op, .string nm, .int .i64 so, .string nu, .slice none 0 0, .slice none 0 0, .slice none 0 0] 26
  obtain ⟨F, eF, hbF, hsF, hcF, hhF⟩ := box_new E #[.pointer (some ⟨b, o, none⟩)] 112
  have hb0F : Below w.heap.size w F := (hb04.trans (hbE.mono hb04.size)).trans (hbF.mono (by have := hb04.size; omega))
  obtain ⟨hS, hW, hbA, hhA, hsA, eml, hr, hcp, hRL, hlw, hlab, hfo, hfs, hml⟩ := unhide HI
  have hI0 : YI B r w.heap.size w4.heap.size (w4.heap.size + 1) dl sv sub b o w F hid cp #[.int .i64 t.op, .string nm, .int .i64 so, .string nu, .slice none 0 0, .slice none 0 0, .slice none 0 0] := by
    refine ⟨(hb0F.block r hrw).trans hW, hS.below hb0F (Nat.le_refl _), XF.of hb0F (Nat.le_refl _), fun _ => But.of hb0F (Nat.le_refl _), (hbF.block _ (by omega)).trans hhE, ?_, ?_⟩
    · rw [hbF.block _ (by omega), hbE.block _ hlt4]
      exact hz4
    · rw [← hsE]
      exact hhF
  have hFs : w4.heap.size + 2 = F.heap.size := by omega
  have HFS := hide hFs
  have HEF := hide (And.intro eE eF)
  have H0 := hide hI0
  obtain ⟨m0, m1, mk⟩ := hI0.cells (unhide HG) hBw hb
  have m5 : F.cell? ⟨b, o + 5, none⟩ = some (.slice aV nv cV) := by rw [← unhide HNV]; exact mk 5 _ rfl
  have n1 : F.cell? ⟨r, 1, none⟩ = some (.int .i64 (cp : Int)) := (blk hI0.cv).2.1 1 _ rfl
  have nf1 := (blk hI0.cv).2.2 1
  have hvI : (nv : Int) ≤ 400000 := by omega
  have hcI : (cp : Int) + (nv : Int) ≤ 21474836 := by omega
  clear hS hW hbA hhA hsA eml hr hcp hRL hlw hlab hfo hfs hml hb02 hz2 hb04 hz4 hb4 hbE hsE hcE hhE hbF hsF hcF hhF hb0F HB3 H2 r01 eE eF hI0 mk hFs hlt4
  rw [unhide hkk]
  go_wp2_with fail
  obtain ⟨eE, eF⟩ := unhide HEF
  rw [eE, eF]
  clear eE eF HEF
  go_region
  obtain ⟨V, eV⟩ : ∃ V, (F.setCell ⟨r, 1, none⟩ (.int .i64 ((cp : Int) + (nv : Int)))).drew = V := ⟨_, rfl⟩
  rw [eV]
  have hIV : YI B r w.heap.size w4.heap.size (w4.heap.size + 1) dl sv sub b o w V hid (cp + nv) #[.int .i64 t.op, .string nm, .int .i64 so, .string nu, .slice none 0 0, .slice none 0 0, .slice none 0 0] := by
    rw [← eV, show ((cp : Int) + (nv : Int)) = ((cp + nv : Nat) : Int) by omega]
    exact ((unhide H0).copied hBr hqr hzr hur (cp + nv)).grow (keep0 _)
  have hVs : F.heap.size ≤ V.heap.size := by
    rw [← eV]
    exact Nat.le_trans (by simp) (keep0 _).size
  have HVS := hide (show w4.heap.size + 2 ≤ V.heap.size by have := unhide HFS; omega)
  clear m0 m1 m5 n1 nf1 eV hVs
  obtain ⟨m0, m1, mk⟩ := hIV.cells (unhide HG) hBw hb
  have m5 : V.cell? ⟨b, o + 5, none⟩ = some (.slice aV nv cV) := by rw [← unhide HNV]; exact mk 5 _ rfl
  have HIV := hide hIV
  have HCl := hide (clone_any (w := V) (B := B) (n := nv) (c := cV) (a := aV) (x := t.vars) (by
    have hV := (unhide HIC).2.2.2.2.2
    rw [unhide HNV] at hV
    exact hV.mono (Nat.le_refl _) fun b o j hb2 h u hu => ⟨rangeAt_below (h u hu).1 hb2 (hIV.xf.below hBw), (h u hu).2⟩) (unhide HNV).symm (by have := hIV.xf.size; omega) hvl)
  clear mk hIV
  go_wp2_with fail
  refine (unhide HCl).mono ?_
  rintro e w5 ⟨aC, cC, rfl, hcC, hclo, hb5⟩
  have hI5 := (unhide HIV).grow hb5
  have HCL := hide (And.intro hcC (And.intro hclo hb5))
  have y5 : w5.cell? ⟨w4.heap.size, 5, none⟩ = some (.slice none 0 0) := (blk hI5.out).2.1 5 _ rfl
  have yf5 := (blk hI5.out).2.2 5
  obtain ⟨G1, eG1⟩ : ∃ G, w5.setCell ⟨w4.heap.size, 5, none⟩ (.slice aC nv cC) = G := ⟨_, rfl⟩
  have H1' : Hid (YI B r w.heap.size w4.heap.size (w4.heap.size + 1) dl sv sub b o w G1 hid (cp + nv) #[.int .i64 t.op, .string nm, .int .i64 so, .string nu, .slice none 0 0, .slice aC nv cC, .slice none 0 0]) := by
    rw [← eG1]
    exact hI5.put hqr hzq huq (unhide HQ).1 (unhide HQ).2 5 _
  have HE1 := hide eG1
  clear hcC hclo hb5 hI5 m0 m1 m5 HCl eG1
  go_wp2_with fail
  rw [unhide HE1]
  clear y5 yf5
  have HC1 : Hid (∀ W', Below G1.heap.size G1 W' → Calls Tryd.prog 94 #[sv, .slice aV nv cV, .int .i64 1] W' fun e w' => e = .returned (.tuple #[]) ∧ YI B r w.heap.size w4.heap.size (w4.heap.size + 1) dl sv sub b o w w' hid' (cp + nv) #[.int .i64 t.op, .string nm, .int .i64 so, .string nu, .slice none 0 0, .slice aC nv cC, .slice none 0 0] ∧ KF (w4.heap.size + 2) G1 w') := fun W' h => by
    have k := unhide H1'
    have hV := (unhide HIC).2.2.2.2.2
    rw [← unhide HEH, ← unhide HNV]
    rw [← unhide HNV] at k
    exact hide_c k hV hBw (.inl rfl) (unhide HB0) (by rw [unhide HNV]; exact hvl) W' h
  have HSC : Hid (∀ w', Below G1.heap.size G1 w' → (w'.cell? ⟨r, 0, none⟩ = some sv ∧ w'.cell? ⟨w4.heap.size + 1, 0, none⟩ = some (.pointer (some ⟨b, o, none⟩)) ∧ w'.cell? ⟨b, o + 5, none⟩ = some (.slice aV nv cV))) := fun w' h => by
    obtain ⟨k1, k2, k3⟩ := ((unhide H1').grow h).cells (unhide HG) hBw hb
    exact ⟨k1, k2, by rw [← unhide HNV]; exact k3 5 _ rfl⟩
  have HSD : Hid (∀ w', YI B r w.heap.size w4.heap.size (w4.heap.size + 1) dl sv sub b o w w' hid' (cp + nv) #[.int .i64 t.op, .string nm, .int .i64 so, .string nu, .slice none 0 0, .slice aC nv cC, .slice none 0 0] → (w'.cell? ⟨r, 0, none⟩ = some sv ∧ w'.cell? ⟨w4.heap.size + 1, 0, none⟩ = some (.pointer (some ⟨b, o, none⟩)) ∧ w'.cell? ⟨b, o + 5, none⟩ = some (.slice aV nv cV))) := fun w' h => by
    obtain ⟨k1, k2, k3⟩ := h.cells (unhide HG) hBw hb
    exact ⟨k1, k2, by rw [← unhide HNV]; exact k3 5 _ rfl⟩
  obtain ⟨m0, m1, m2⟩ := unhide HSC _ (Below.refl _ _)
  go_region_held3 (fun w' => w'.cell? ⟨r, 0, none⟩ = some sv ∧ w'.cell? ⟨w4.heap.size + 1, 0, none⟩ = some (.pointer (some ⟨b, o, none⟩)) ∧ w'.cell? ⟨b, o + 5, none⟩ = some (.slice aV nv cV)) (first | assumption | exact (unhide HS9) | exact unhide HSC _ (keep0 _)) ((go_at_call 94; refine (unhide HC1 _ (keep0 _)).mono ?_; rintro e v1 ⟨rfl, h1⟩; have HS9 := hide (unhide HSD v1 h1.1); have H1 := hide h1; clear h1))
  clear m0 m1 m2 HSC HSD HS9 HC1

  obtain ⟨m0, m1, mk⟩ := (unhide H1).1.cells (unhide HG) hBw hb
  have m6 : v1.cell? ⟨b, o + 6, none⟩ = some (.slice aP np cP) := by rw [← unhide HNP]; exact mk 6 _ rfl
  have HLp := hide (unhide HL B r v1 aP np cP t.pat hid' (cp + nv) (un + 1) (by
    have hP := (unhide HIC).2.2.2.2.1
    exact hP.below ((unhide H1).1.xf.below hBw)) (unhide HNP).symm (unhide H1).1.sl (unhide H1).1.cv hBr (by
    obtain ⟨_, _, _, _, _, _, _, hcp, _⟩ := unhide HI
    rw [(unhide HIC).2.1]
    omega) (by omega) (fun k => by
    obtain ⟨_, _, _, _, _, _, _, _, _, hlw, _⟩ := unhide HI
    have := hlw k
    omega))
  rw [(unhide HIC).2.1, (unhide HIC).2.2.1] at HLp
  clear mk
  go_wp2_with fail
  rw [show ((un : Int) + 1) = ((un + 1 : Nat) : Int) by omega]
  refine (unhide HLp).mono ?_
  rintro e w7 ⟨a2, c2, rfl, hR7, hW7, hS7, hX7, hB7⟩
  have hI7 : YI B r w.heap.size w4.heap.size (w4.heap.size + 1) dl sv sub b o w w7 hid' (cp + nv + ip) #[.int .i64 t.op, .string nm, .int .i64 so, .string nu, .slice none 0 0, .slice aC nv cC, .slice none 0 0] := (unhide H1).1.list hqr hzr hur hW7 hS7 hX7 hB7
  have y6 : w7.cell? ⟨w4.heap.size, 6, none⟩ = some (.slice none 0 0) := (blk hI7.out).2.1 6 _ rfl
  have yf6 := (blk hI7.out).2.2 6
  obtain ⟨_, _, mk⟩ := hI7.cells (unhide HG) hBw hb
  have m4 : w7.cell? ⟨b, o + 4, none⟩ = some (.slice aL n cL) := by rw [← unhide HN]; exact mk 4 _ rfl
  obtain ⟨G2, eG2⟩ : ∃ G, w7.setCell ⟨w4.heap.size, 6, none⟩ (.slice a2 np c2) = G := ⟨_, rfl⟩
  have hI2 : YI B r w.heap.size w4.heap.size (w4.heap.size + 1) dl sv sub b o w G2 hid' (cp + nv + ip) #[.int .i64 t.op, .string nm, .int .i64 so, .string nu, .slice none 0 0, .slice aC nv cC, .slice a2 np c2] := by
    rw [← eG2]
    exact hI7.put hqr hzq huq (unhide HQ).1 (unhide HQ).2 6 _
  have hK7 : KF (w4.heap.size + 2) w7 G2 := by
    rw [← eG2]
    exact KF.set (by omega)
  have HI2 := hide hI2
  have HR7 := hide (And.intro hR7 (And.intro hX7.size hK7))
  have HX7 : Hid (KF (w4.heap.size + 2) v1 w7) := KF.ofX hX7 (by have := (unhide HQ).1; omega)
  have HE2 := hide eG2
  have HLl := hide (unhide HL B r G2 aL n cL t.l hid' (cp + nv + ip) (un + 1) (by
    obtain ⟨_, _, _, _, _, _, _, _, hRL, _⟩ := unhide HI
    exact hRL.below (hI2.xf.below hBw)) (unhide HN).symm hI2.sl hI2.cv hBr (by
    obtain ⟨_, _, _, _, _, _, _, hcp, _⟩ := unhide HI
    rw [(unhide HIC).1]
    omega) (by omega) (fun k => by
    obtain ⟨_, _, _, _, _, _, _, _, _, hlw, _⟩ := unhide HI
    have := hlw k
    omega))
  rw [(unhide HIC).1] at HLl
  clear mk hR7 hW7 hS7 hX7 hB7 hI7 hI2 hK7 m0 m1 m6 HLp eG2
  go_wp2_with fail
  rw [unhide HE2]
  rw [show ((un : Int) + 1) = ((un + 1 : Nat) : Int) by omega]
  refine (unhide HLl).mono ?_
  rintro e w8 ⟨a3, c3, rfl, hR8, hW8, hS8, hX8, hB8⟩
  have hI8 : YI B r w.heap.size w4.heap.size (w4.heap.size + 1) dl sv sub b o w w8 hid' (cp + nv + ip + il) #[.int .i64 t.op, .string nm, .int .i64 so, .string nu, .slice none 0 0, .slice aC nv cC, .slice a2 np c2] := (unhide HI2).list hqr hzr hur hW8 hS8 hX8 hB8
  have y4 : w8.cell? ⟨w4.heap.size, 4, none⟩ = some (.slice none 0 0) := (blk hI8.out).2.1 4 _ rfl
  have yf4 := (blk hI8.out).2.2 4
  obtain ⟨G3, eG3⟩ : ∃ G, w8.setCell ⟨w4.heap.size, 4, none⟩ (.slice a3 n c3) = G := ⟨_, rfl⟩
  have H3' : Hid (YI B r w.heap.size w4.heap.size (w4.heap.size + 1) dl sv sub b o w G3 hid' (cp + nv + ip + il) #[.int .i64 t.op, .string nm, .int .i64 so, .string nu, .slice a3 n c3, .slice aC nv cC, .slice a2 np c2]) := by
    rw [← eG3]
    exact hI8.put hqr hzq huq (unhide HQ).1 (unhide HQ).2 4 _
  have hK8 : KF (w4.heap.size + 2) w8 G3 := by
    rw [← eG3]
    exact KF.set (by omega)
  have HR8 : Hid (RowP (FB G2.heap.size w8) a3 n c3 7 (fun b o j => ∀ x, ml[j]? = some x → TmP w8 (FB G2.heap.size w8) (d + dl + 1) b o x) ∧ XF B r G2 w8 ∧ KF (w4.heap.size + 2) w8 G3) := by
    obtain ⟨_, _, _, _, _, eml, _⟩ := unhide HI
    rw [eml] at hR8
    exact ⟨hR8, hX8, hK8⟩
  have HE3 := hide eG3
  have HH1 := H1
  clear hR8 hW8 hS8 hX8 hB8 hI8 hK8 HLl eG3 m4 y6 yf6 H1
  go_wp2_with fail
  rw [unhide HE3]
  clear y4 yf4
  have HC2 : Hid (∀ W', Below G3.heap.size G3 W' → Calls Tryd.prog 94 #[sv, .slice aV nv cV, .int .i64 (-1)] W' fun e w' => e = .returned (.tuple #[]) ∧ YI B r w.heap.size w4.heap.size (w4.heap.size + 1) dl sv sub b o w w' hid (cp + nv + ip + il) #[.int .i64 t.op, .string nm, .int .i64 so, .string nu, .slice a3 n c3, .slice aC nv cC, .slice a2 np c2] ∧ KF (w4.heap.size + 2) G3 w') := fun W' h => by
    have k := unhide H3'
    have hV := (unhide HIC).2.2.2.2.2
    rw [← unhide HEB, ← unhide HNV]
    rw [← unhide HNV] at k
    exact hide_c k hV hBw (.inr rfl) (unhide HB9) (by rw [unhide HNV]; exact hvl) W' h
  have HSC : Hid (∀ w', Below G3.heap.size G3 w' → (w'.cell? ⟨r, 0, none⟩ = some sv ∧ w'.cell? ⟨w4.heap.size + 1, 0, none⟩ = some (.pointer (some ⟨b, o, none⟩)) ∧ w'.cell? ⟨b, o + 5, none⟩ = some (.slice aV nv cV))) := fun w' h => by
    obtain ⟨k1, k2, k3⟩ := ((unhide H3').grow h).cells (unhide HG) hBw hb
    exact ⟨k1, k2, by rw [← unhide HNV]; exact k3 5 _ rfl⟩
  have HSD : Hid (∀ w', YI B r w.heap.size w4.heap.size (w4.heap.size + 1) dl sv sub b o w w' hid (cp + nv + ip + il) #[.int .i64 t.op, .string nm, .int .i64 so, .string nu, .slice a3 n c3, .slice aC nv cC, .slice a2 np c2] → (w'.cell? ⟨r, 0, none⟩ = some sv ∧ w'.cell? ⟨w4.heap.size + 1, 0, none⟩ = some (.pointer (some ⟨b, o, none⟩)) ∧ w'.cell? ⟨b, o + 5, none⟩ = some (.slice aV nv cV))) := fun w' h => by
    obtain ⟨k1, k2, k3⟩ := h.cells (unhide HG) hBw hb
    exact ⟨k1, k2, by rw [← unhide HNV]; exact k3 5 _ rfl⟩
  obtain ⟨m0, m1, m2⟩ := unhide HSC _ (Below.refl _ _)
  go_region_held3 (fun w' => w'.cell? ⟨r, 0, none⟩ = some sv ∧ w'.cell? ⟨w4.heap.size + 1, 0, none⟩ = some (.pointer (some ⟨b, o, none⟩)) ∧ w'.cell? ⟨b, o + 5, none⟩ = some (.slice aV nv cV)) (first | assumption | exact (unhide HS9) | exact unhide HSC _ (keep0 _)) ((go_at_call 94; refine (unhide HC2 _ (keep0 _)).mono ?_; rintro e v9 ⟨rfl, h1⟩; have HS9 := hide (unhide HSD v9 h1.1); have H1 := hide h1; clear h1))
  clear m0 m1 m2 HSC HSD HS9 HC2

  have q0 : v9.cell? ⟨w.heap.size, 0, none⟩ = some (.int .i64 0) := (blk (unhide H1).1.zero).2.1 0 _ rfl
  have qf0 := (blk (unhide H1).1.zero).2.2 0
  have p0 : v9.cell? ⟨w4.heap.size, 0, none⟩ = some (.int .i64 t.op) := (blk (unhide H1).1.out).2.1 0 _ rfl
  have q1 : v9.cell? ⟨w.heap.size, 1, none⟩ = some (.string ⟨#[]⟩) := (blk (unhide H1).1.zero).2.1 1 _ rfl
  have qf1 := (blk (unhide H1).1.zero).2.2 1
  have p1 : v9.cell? ⟨w4.heap.size, 1, none⟩ = some (.string nm) := (blk (unhide H1).1.out).2.1 1 _ rfl
  have q2 : v9.cell? ⟨w.heap.size, 2, none⟩ = some (.int .i64 0) := (blk (unhide H1).1.zero).2.1 2 _ rfl
  have qf2 := (blk (unhide H1).1.zero).2.2 2
  have p2 : v9.cell? ⟨w4.heap.size, 2, none⟩ = some (.int .i64 so) := (blk (unhide H1).1.out).2.1 2 _ rfl
  have q3 : v9.cell? ⟨w.heap.size, 3, none⟩ = some (.string ⟨#[]⟩) := (blk (unhide H1).1.zero).2.1 3 _ rfl
  have qf3 := (blk (unhide H1).1.zero).2.2 3
  have p3 : v9.cell? ⟨w4.heap.size, 3, none⟩ = some (.string nu) := (blk (unhide H1).1.out).2.1 3 _ rfl
  have q4 : v9.cell? ⟨w.heap.size, 4, none⟩ = some (.slice none 0 0) := (blk (unhide H1).1.zero).2.1 4 _ rfl
  have qf4 := (blk (unhide H1).1.zero).2.2 4
  have p4 : v9.cell? ⟨w4.heap.size, 4, none⟩ = some (.slice a3 n c3) := (blk (unhide H1).1.out).2.1 4 _ rfl
  have q5 : v9.cell? ⟨w.heap.size, 5, none⟩ = some (.slice none 0 0) := (blk (unhide H1).1.zero).2.1 5 _ rfl
  have qf5 := (blk (unhide H1).1.zero).2.2 5
  have p5 : v9.cell? ⟨w4.heap.size, 5, none⟩ = some (.slice aC nv cC) := (blk (unhide H1).1.out).2.1 5 _ rfl
  have q6 : v9.cell? ⟨w.heap.size, 6, none⟩ = some (.slice none 0 0) := (blk (unhide H1).1.zero).2.1 6 _ rfl
  have qf6 := (blk (unhide H1).1.zero).2.2 6
  have p6 : v9.cell? ⟨w4.heap.size, 6, none⟩ = some (.slice a2 np c2) := (blk (unhide H1).1.out).2.1 6 _ rfl
  go_wp2
  obtain ⟨hI9, hK9⟩ := unhide H1
  obtain ⟨hR8, hX8, hK8⟩ := unhide HR8
  obtain ⟨hR7, hz7, hK7⟩ := unhide HR7
  obtain ⟨hcC, hclo, hb5⟩ := unhide HCL
  obtain ⟨hIv, hKv⟩ := unhide HH1
  obtain ⟨_, _, _, _, _, eml, _, _, _, _, _, hfo, hfs, hml⟩ := unhide HI
  obtain ⟨_, _, emp, hmp, _, hV⟩ := unhide HIC
  have hVS := unhide HVS
  have hlim : w.heap.size < w4.heap.size + 2 := by have := (unhide HQ).1; omega
  have hH : (put7 v9 w.heap.size 0 (.int .i64 t.op) (.string nm) (.int .i64 so) (.string nu) (.slice a3 n c3) (.slice aC nv cC) (.slice a2 np c2)).heap[w.heap.size]? = some (.cells [.int .i64 t.op, .string nm, .int .i64 so, .string nu, .slice a3 n c3, .slice aC nv cC, .slice a2 np c2].toArray 26) := fill7 hI9.zero
  have hbX : Below B v9 (put7 v9 w.heap.size 0 (.int .i64 t.op) (.string nm) (.int .i64 so) (.string nu) (.slice a3 n c3) (.slice aC nv cC) (.slice a2 np c2)) := put7_below hBw
  have hKX : KF (w4.heap.size + 2) v9 (put7 v9 w.heap.size 0 (.int .i64 t.op) (.string nm) (.int .i64 so) (.string nu) (.slice a3 n c3) (.slice aC nv cC) (.slice a2 np c2)) := KF.put7 hlim
  have hKG : KF (w4.heap.size + 2) G2 (put7 v9 w.heap.size 0 (.int .i64 t.op) (.string nm) (.int .i64 so) (.string nu) (.slice a3 n c3) (.slice aC nv cC) (.slice a2 np c2)) := (KF.ofX hX8 (by have := (unhide HQ).1; omega)).trans (hK8.trans (hK9.trans hKX))
  have hK5 : KF (w4.heap.size + 2) w5 G1 := by
    rw [← unhide HE1]
    exact KF.set (by omega)
  have hs1 : w4.heap.size + 2 ≤ v1.heap.size := by
    have := hb5.size
    have := hK5.size
    have := hKv.size
    omega
  have hs2 : w4.heap.size + 2 ≤ G2.heap.size := by
    have := hK7.size
    omega
  have hk7 : KF (w4.heap.size + 2) w7 (put7 v9 w.heap.size 0 (.int .i64 t.op) (.string nm) (.int .i64 so) (.string nu) (.slice a3 n c3) (.slice aC nv cC) (.slice a2 np c2)) := hK7.trans hKG
  have hk8 : KF (w4.heap.size + 2) w8 (put7 v9 w.heap.size 0 (.int .i64 t.op) (.string nm) (.int .i64 so) (.string nu) (.slice a3 n c3) (.slice aC nv cC) (.slice a2 np c2)) := hK8.trans (hK9.trans hKX)
  have hk5 : KF (w4.heap.size + 2) w5 (put7 v9 w.heap.size 0 (.int .i64 t.op) (.string nm) (.int .i64 so) (.string nu) (.slice a3 n c3) (.slice aC nv cC) (.slice a2 np c2)) := hK5.trans (hKv.trans ((show KF (w4.heap.size + 2) v1 w7 from (unhide HX7)).trans hk7))
  have hWX := (put7_far (w := v9) (g := w.heap.size) (m := 0) (a := .int .i64 t.op) (b := .string nm) (c := .int .i64 so) (d := .string nu) (e := .slice a3 n c3) (f := .slice aC nv cC) (h := .slice a2 np c2) (show r ≠ w.heap.size by omega)).trans hI9.cv
  have hSX := hI9.sl.but hbX (fun q hq => put7_far hq) hI9.zero (by decide)
  have hXX : XF B r w (put7 v9 w.heap.size 0 (.int .i64 t.op) (.string nm) (.int .i64 so) (.string nu) (.slice a3 n c3) (.slice aC nv cC) (.slice a2 np c2)) := ⟨hbX.os.trans hI9.xf.os, hbX.tape.trans hI9.xf.tape, hbX.output.trans hI9.xf.output, Nat.le_trans hI9.xf.size hbX.size, fun k hk hj => (put7_far (by omega)).trans (hI9.xf.block k hk hj)⟩
  have hBX : sv = .map none → But r w (put7 v9 w.heap.size 0 (.int .i64 t.op) (.string nm) (.int .i64 so) (.string nu) (.slice a3 n c3) (.slice aC nv cC) (.slice a2 np c2)) := fun e => put7_but (hI9.but e) (Nat.le_refl _)
  have hw2 : w.heap.size ≤ w4.heap.size + 2 := by omega
  have hIX : IsP (put7 v9 w.heap.size 0 (.int .i64 t.op) (.string nm) (.int .i64 so) (.string nu) (.slice a3 n c3) (.slice aC nv cC) (.slice a2 np c2)) (FB w.heap.size (put7 v9 w.heap.size 0 (.int .i64 t.op) (.string nm) (.int .i64 so) (.string nu) (.slice a3 n c3) (.slice aC nv cC) (.slice a2 np c2))) (d + 1 + dl) (.agg [.int .i64 t.op, .string nm, .int .i64 so, .string nu, .slice a3 n c3, .slice aC nv cC, .slice a2 np c2].toArray) ⟨t.op, nm, so, nu, ml, t.vars, mp⟩ := by
    refine ⟨hfo, hfs, a3, aC, a2, c3, cC, c2, by simp [tcells, hml, hmp, unhide HNV], ?_, ?_, ?_⟩
    · show RowP _ a3 ml.length c3 7 _
      rw [hml]
      exact hR8.imp (fun k hk => (hk8.fb hs2 (by omega) k hk).1) fun b' o' j hb' h x hx => (h x hx).keep (hk8.fb hs2 (by omega)) (by omega)
    · show RowP _ aC t.vars.length cC 2 _
      rw [unhide HNV]
      refine ⟨hcC, by omega, fun h0 => ?_⟩
      obtain ⟨g, rfl, hg1, hg2, ⟨cur, hgb⟩, hrng⟩ := hclo h0
      have hns : NS w5 g := fun cs fr e => by
        rw [hgb] at e
        injection e with e
        injection e with _ e
        revert e
        decide
      have hfb : FB V.heap.size w5 g := ⟨hg1, hg2, hns⟩
      obtain ⟨k1, k2⟩ := hk5.fb hVS (m' := w.heap.size) (by omega) g hfb
      refine ⟨g, 0, rfl, k1, fun j hj x hx => ⟨?_, ?_⟩⟩
      · rw [Nat.zero_add]
        exact range_same (hrng j x hx) k2
      · have hj2 : j < t.vars.length := (List.getElem?_eq_some_iff.1 hx).1
        obtain ⟨_, _, _, _, hjj⟩ := hV.2.2 (by omega)
        exact (hjj j hj2 x hx).2
    · show RowP _ a2 mp.length c2 7 _
      rw [hmp]
      exact hR7.imp (fun k hk => (hk7.fb hs1 (by omega) k hk).1) fun b' o' j hb' h x hx => (h x hx).keep (hk7.fb hs1 (by omega)) (by omega)
  rw [show cp + (nv + ip + il) = cp + nv + ip + il by omega]
  exact ⟨rfl, _, res_row (cs := [.int .i64 t.op, .string nm, .int .i64 so, .string nu, .slice a3 n c3, .slice aC nv cC, .slice a2 np c2]) rfl rfl (range_block hH) rfl rfl rfl, _, rfl, hIX, hWX, hSX, hXX, hBX⟩
end Go.Proofs.YtiockiilenjjaaaDoor
