/- The document's parser: imp. -/
import Derived.Test.YtljhpbjngbbjbaaDoorZAL
set_option linter.unusedVariables false
set_option linter.unusedSimpArgs false

/- The document's parser: unary. -/
namespace Go.Proofs.YtljhpbjngbbjbaaDoor
open Go Go.RowKit
theorem isD_e {ts : List (Int × ByteArray × Int)} {s : ByteArray} {S : PS} (h : isD ts s S = true) : S.e = 0 := by
  unfold isD at h
  simp only [Bool.and_eq_true, decide_eq_true_eq] at h
  exact h.1.1
theorem stepD_e {ts : List (Int × ByteArray × Int)} {S : PS} : (stepD ts S).e = S.e := by
  unfold stepD
  split <;> rfl
set_option maxRecDepth 100000 in
set_option maxHeartbeats 8000000 in
theorem dunary_of {r d : Nat} {ts : List (Int × ByteArray × Int)} {g : Ru → PS → Ex × PS} (hT : TsOk ts) (hU : (200 ≤ d ∧ d ≤ 100000 ∧ ∀ S, g .rU S = (zEx, S.fail (tD ts S).2.2 151)) ∨ (d < 200 ∧ ∃ X, (∀ S, S.e = 0 → g .rU S = X S) ∧ DcO 81 r ts (d + 1) X)) (hP : DcC 82 r ts d (primD ts g)) : DcC 81 r ts d (unaryD ts g) := by
  intro w st hR
  obtain ⟨Y, hY⟩ : ∃ Y, unaryD ts g st = Y := ⟨_, rfl⟩
  show Calls _ _ _ _ (DE (unaryD ts g st) r ts d w)
  rw [hY]
  unfold unaryD at hY
  have hr := hR.rlt
  obtain ⟨A, eA, hbA, hzA, hsA⟩ := zb_new w
  have HB := hide (But.of (r := r) hbA)
  have HR := hide (hR.keep hbA)
  have HZ := hide hzA
  have HS : Hid (w.heap.size < A.heap.size) := by show _ < _; omega
  have HE := hide eA
  have HT := hide hT
  have HY := hide hY
  have hrne : r ≠ w.heap.size := by omega
  replace hU := hide hU
  replace hP := hide hP
  clear hR hbA hzA hsA eA hT hY
  go_enter Tryd.func81, Tryd.ntmps81
  generalize hQQ : bodyPost Tryd.prog Tryd.f81 (DE Y r ts d w) = QQ
  have HQQ := hide hQQ
  clear hQQ
  have HC0 := hide (dt_any (unhide HR) (unhide HT))
  unfold tkV at HC0
  obtain ⟨⟨kk0, T0, at0⟩, hN0⟩ : ∃ X, tD ts (st) = X := ⟨_, rfl⟩
  rw [hN0] at HC0
  have HN0 := hide hN0
  have hf20 := fld2 (.int .i64 kk0) (.string T0) (.int .i64 at0)
  clear hN0
  go_wp2_with fail
  rw [unhide HE]
  refine (unhide HC0).mono ?_
  rintro e w0 ⟨rfl, hb0⟩
  have hY1 := unhide HY
  simp only [unhide HN0] at hY1
  replace HY := hide hY1
  clear hY1
  have hbu2 := But.of (r := r) hb0
  replace HR := hide ((unhide HR).keep hb0)
  replace HB := hide ((unhide HB).trans hbu2)
  replace HZ := hide ((unhide HZ).but hbu2 hrne)
  replace HS := hide (Nat.lt_of_lt_of_le (unhide HS) hbu2.size)
  clear hb0 HC0
  obtain ⟨B3, eB3, hbB3, hsB3, hhB3⟩ := box_new w0 #[.int .i64 kk0, .string T0, .int .i64 at0] 87
  have ne3 : r ≠ w0.heap.size := by have := unhide HS; omega
  have hbu4 := But.of (r := r) hbB3
  replace HR := hide ((unhide HR).keep hbB3)
  replace HB := hide ((unhide HB).trans hbu4)
  replace HZ := hide ((unhide HZ).but hbu4 hrne)
  replace HS := hide (Nat.lt_of_lt_of_le (unhide HS) hbu4.size)
  have HX3 := hide hhB3
  have HEB3 := hide eB3
  have HSB3 := hide hsB3
  clear eB3 hbB3 hhB3 hsB3
  have HC5 := hide (eat_any (unhide HR) (unhide HT) ⟨#[45]⟩)
  obtain ⟨bo5, hbo5⟩ : ∃ b, isD ts ⟨#[45]⟩ (st) = b := ⟨_, rfl⟩
  unfold eatD at HC5
  rw [hbo5] at HC5
  have HO5 := hide hbo5
  clear hbo5
  go_wp2_with fail
  rw [unhide HEB3]
  refine (unhide HC5).mono ?_
  rintro e w5 ⟨rfl, hb5, hR5⟩
  replace HB := hide ((unhide HB).trans hb5)
  replace HZ := hide ((unhide HZ).but hb5 hrne)
  replace HX3 := hide ((hb5.block _ (blk (unhide HX3)).1 (Ne.symm ne3)).trans (unhide HX3))
  replace HS := hide (Nat.lt_of_lt_of_le (unhide HS) hb5.size)
  replace HR := hide hR5
  have hY6 := unhide HY
  simp only [unhide HO5] at hY6
  replace HY := hide hY6
  clear hY6
  clear hb5 HC5 hR5
  rcases bo5 with _ | _
  rotate_left
  · have hY7 := unhide HY
    simp only [if_true] at hY7
    replace HY := hide hY7
    clear hY7
    have hRR := unhide HR
    rw [if_pos rfl] at hRR
    obtain ⟨S8, hS8⟩ : ∃ S, stepD ts (st) = S := ⟨_, rfl⟩
    rw [hS8] at hRR
    replace HR := hide hRR
    have HSt8 := hide hS8
    have hY9 := unhide HY
    simp only [unhide HSt8] at hY9
    replace HY := hide hY9
    clear hY9
    clear hRR hS8
    have heS : Hid ((S8).e = 0) := by show _ = _; rw [← unhide HSt8, stepD_e]; exact isD_e (unhide HO5)
    have HSa := HS
    have hlt : Hid (w0.heap.size < w5.heap.size) := (blk (unhide HX3)).1
    obtain ⟨B10, eB10, hbB10, hsB10, hhB10⟩ := box_new w5 #[.int .i64 0, .string ⟨#[]⟩, .string ⟨#[]⟩, .bool false, .slice none 0 0, .int .i64 0, .int .i64 0] 51
    have ne10 : r ≠ w5.heap.size := by have := unhide HS; omega
    have hbu11 := But.of (r := r) hbB10
    replace HR := hide ((unhide HR).keep hbB10)
    replace HB := hide ((unhide HB).trans hbu11)
    replace HZ := hide ((unhide HZ).but hbu11 hrne)
    replace HX3 := hide ((hbu11.block _ (blk (unhide HX3)).1 (Ne.symm ne3)).trans (unhide HX3))
    replace HS := hide (Nat.lt_of_lt_of_le (unhide HS) hbu11.size)
    have HX10 := hide hhB10
    have HEB10 := hide eB10
    have HSB10 := hide hsB10
    clear eB10 hbB10 hhB10 hsB10
    have HAB12 := hide (blk (unhide HX10)).1
    rcases unhide hU with hU1 | hU1
    · obtain ⟨hd1, hd2, hgU⟩ := hU1
      have HC12 := hide (down_no (unhide HR) (unhide HT) hd1 hd2)
      obtain ⟨SA12, hSA12⟩ : ∃ S, (S8).fail (tD ts (S8)).2.2 151 = S := ⟨_, rfl⟩
      rw [hSA12] at HC12
      have HSA12 := hide (And.intro (hgU (S8)) hSA12)
      have hY13 := unhide HY
      simp only [(unhide HSA12).1, (unhide HSA12).2] at hY13
      replace HY := hide hY13
      clear hY13
      have gd0 : (0 : Int) ≤ (d : Int) := by omega
      have gd1 : (d : Int) ≤ 100000 := by omega
      clear hgU hSA12 hd1 hd2
      go_wp2_with fail
      rw [unhide HEB10]
      refine (unhide HC12).mono ?_
      rintro e w12 ⟨rfl, hb12, hR12⟩
      replace HB := hide ((unhide HB).trans hb12)
      replace HZ := hide ((unhide HZ).but hb12 hrne)
      replace HX3 := hide ((hb12.block _ (blk (unhide HX3)).1 (Ne.symm ne3)).trans (unhide HX3))
      replace HX10 := hide ((hb12.block _ (blk (unhide HX10)).1 (Ne.symm ne10)).trans (unhide HX10))
      replace HS := hide (Nat.lt_of_lt_of_le (unhide HS) hb12.size)
      replace HR := hide hR12
      clear hb12 hR12 HC12 HSA12
      obtain ⟨gg14, gc14, x014, x114, x214, x314, x414, hc14, hl14, hf14, ht14⟩ := (unhide HR).facts (Below.refl _ _)
      have f414 := hf14 4
      clear hc14 hf14 ht14 x014 x114 x214 x314
      obtain ⟨y010, y110, y210, y310, y410, y510, y610⟩ := blk7 (unhide HX10)
      obtain ⟨V12, hV12⟩ : ∃ V, w12.setCell ⟨r, 4, none⟩ (.int .i64 (d : Int)) = V := ⟨_, rfl⟩
      have hbV12 : But r w12 V12 := by rw [← hV12]; exact (But.refl r w12).set _ _
      have hRV12 := (unhide HR).deep (e := d)
      rw [hV12] at hRV12
      have hsV12 : V12.heap.size = w12.heap.size := by rw [← hV12]; simp
      replace HB := hide ((unhide HB).trans hbV12)
      replace HZ := hide ((unhide HZ).but hbV12 hrne)
      replace HX3 := hide ((hbV12.block _ (blk (unhide HX3)).1 (Ne.symm ne3)).trans (unhide HX3))
      replace HX10 := hide ((hbV12.block _ (blk (unhide HX10)).1 (Ne.symm ne10)).trans (unhide HX10))
      replace HS := hide (Nat.lt_of_lt_of_le (unhide HS) hbV12.size)
      replace HR := hide hRV12
      have HEV12 := hide hV12
      have HSV12 := hide hsV12
      clear hbV12 hRV12 hV12 hsV12
      have HTz12 := hide (leaf (W := V12) (lo := w.heap.size + 1) 0 0 ⟨#[]⟩ ⟨#[]⟩ false)
      obtain ⟨C15, eC15, hbC15, hsC15, hhC15⟩ := box_new V12 #[.int .i64 0, .string ⟨#[]⟩, .string ⟨#[]⟩, .bool false, .slice none 0 0, .int .i64 0, .int .i64 0] 51
      have hnode := node (l := [zEx]) (vs := [[.int .i64 0, .string ⟨#[]⟩, .string ⟨#[]⟩, .bool false, .slice none 0 0, .int .i64 0, .int .i64 0]]) 7 at0 ⟨#[]⟩ ⟨#[]⟩ false eC15 rfl (by simp) rfl (by simp) (unhide HS) (fun j v t hv ht => by
        rcases j with _ | j
        · obtain rfl := Option.some.inj hv
          obtain rfl := Option.some.inj ht
          exact unhide HTz12
        · simp at hv)
      rw [unhide HSV12] at hnode
      have hbu16 := But.of (r := r) hbC15
      replace HR := hide ((unhide HR).keep hbC15)
      replace HB := hide ((unhide HB).trans hbu16)
      replace HZ := hide ((unhide HZ).but hbu16 hrne)
      replace HX3 := hide ((hbu16.block _ (blk (unhide HX3)).1 (Ne.symm ne3)).trans (unhide HX3))
      replace HX10 := hide ((hbu16.block _ (blk (unhide HX10)).1 (Ne.symm ne10)).trans (unhide HX10))
      replace HS := hide (Nat.lt_of_lt_of_le (unhide HS) hbu16.size)
      obtain ⟨y0, y1, y2, y3, y4, y5, y6⟩ := blk7 (unhide HZ)
      obtain ⟨z0, z1, z2, z3, z4, z5, z6⟩ := frz7 (unhide HZ)
      have uc03 := (blk (unhide HX3)).2.1 0 _ rfl
      have uc13 := (blk (unhide HX3)).2.1 1 _ rfl
      have uc23 := (blk (unhide HX3)).2.1 2 _ rfl
      rw [← eC15, ← unhide HEV12] at y0 y1 y2 y3 y4 y5 y6 z0 z1 z2 z3 z4 z5 z6 uc03 uc13 uc23
      have HNode := hide hnode
      have HEC := hide eC15
      clear hnode eC15 hbC15 hsC15 hhC15
      go_wp2
      rw [unhide HEV12, unhide HEC]
      rw [← unhide HQQ]
      exact dret_put rfl rfl rfl (unhide HB) hr (unhide HZ) (unhide HY).symm (unhide HR) (Nat.lt_succ_self _) (unhide HNode)
    · obtain ⟨hd1, X, hgX, hX⟩ := hU1
      have HC12 := hide (down_yes (unhide HR) hd1)
      rw [decide_eq_true (unhide heS)] at HC12
      have HGX := hide (And.intro (hgX (S8) (unhide heS)) hX)
      have gd0 : (0 : Int) ≤ (d : Int) := by omega
      have gd1 : (d : Int) < 200 := by omega
      clear hgX hX hd1
      go_wp2_with fail
      rw [unhide HEB10]
      refine (unhide HC12).mono ?_
      rintro e w12 ⟨rfl, hb12, hR12⟩
      replace HB := hide ((unhide HB).trans hb12)
      replace HZ := hide ((unhide HZ).but hb12 hrne)
      replace HX3 := hide ((hb12.block _ (blk (unhide HX3)).1 (Ne.symm ne3)).trans (unhide HX3))
      replace HX10 := hide ((hb12.block _ (blk (unhide HX10)).1 (Ne.symm ne10)).trans (unhide HX10))
      replace HS := hide (Nat.lt_of_lt_of_le (unhide HS) hb12.size)
      replace HR := hide hR12
      replace HAB12 := hide (Nat.lt_of_lt_of_le (unhide HAB12) hb12.size)
      clear hb12 hR12 HC12
      have HC17 := hide ((unhide HGX).2 w12 (S8) (unhide heS) (unhide HR))
      obtain ⟨⟨t17, S17⟩, hX17⟩ : ∃ Z, X (S8) = Z := ⟨_, rfl⟩
      rw [hX17] at HC17
      have HX17 := hide (And.intro (unhide HGX).1 hX17)
      have hY18 := unhide HY
      simp only [(unhide HX17).1, (unhide HX17).2] at hY18
      replace HY := hide hY18
      clear hY18
      clear hX17 HX17 HGX
      go_wp2_with fail
      refine (unhide HC17).mono ?_
      rintro e w17 ⟨hb17, hR17, v17, rfl, hv17⟩
      obtain ⟨i17, j17, s17, m17, b17, a17, n17, c17, rfl⟩ := hv17.form
      replace HB := hide ((unhide HB).trans hb17)
      replace HZ := hide ((unhide HZ).but hb17 hrne)
      replace HX3 := hide ((hb17.block _ (blk (unhide HX3)).1 (Ne.symm ne3)).trans (unhide HX3))
      replace HX10 := hide ((hb17.block _ (blk (unhide HX10)).1 (Ne.symm ne10)).trans (unhide HX10))
      replace HS := hide (Nat.lt_of_lt_of_le (unhide HS) hb17.size)
      replace HR := hide hR17
      obtain ⟨gg19, gc19, x019, x119, x219, x319, x419, hc19, hl19, hf19, ht19⟩ := (unhide HR).facts (Below.refl _ _)
      have f419 := hf19 4
      clear hc19 hf19 ht19 x019 x119 x219 x319
      obtain ⟨ya0, ya1, ya2, ya3, ya4, ya5, ya6⟩ := blk7 (unhide HX10)
      obtain ⟨za0, za1, za2, za3, za4, za5, za6⟩ := frz7 (unhide HX10)
      obtain ⟨U17, hU17⟩ : ∃ V, (((((((w17.setCell ⟨w5.heap.size, 0, none⟩ (.int .i64 i17)).setCell ⟨w5.heap.size, 1, none⟩ (.string s17)).setCell ⟨w5.heap.size, 2, none⟩ (.string m17)).setCell ⟨w5.heap.size, 3, none⟩ (.bool b17)).setCell ⟨w5.heap.size, 4, none⟩ (.slice a17 n17 c17)).setCell ⟨w5.heap.size, 5, none⟩ (.int .i64 0)).setCell ⟨w5.heap.size, 6, none⟩ (.int .i64 j17)) = V := ⟨_, rfl⟩
      obtain ⟨V12, hV12⟩ : ∃ V, U17.setCell ⟨r, 4, none⟩ (.int .i64 (d : Int)) = V := ⟨_, rfl⟩
      have hqU : w.heap.size < w5.heap.size := unhide HSa
      have hbU : But w5.heap.size w17 U17 := by rw [← hU17]; exact ((((((((But.refl w5.heap.size w17).set 0 _).set 1 _).set 2 _).set 3 _).set 4 _).set 5 _).set 6 _)
      have hbV : But r U17 V12 := by rw [← hV12]; exact (But.refl r U17).set _ _
      have hsU : U17.heap.size = w17.heap.size := by rw [← hU17]; simp
      have hsV : V12.heap.size = w17.heap.size := by rw [← hV12, ← hsU]; simp
      have hRU : PD U17 r ts S17 (d + 1) := (unhide HR).out (q := w.heap.size) hr fun k hk => hbU.block k (by have := unhide HS; omega) (by omega)
      have hRV := hRU.deep (e := d)
      rw [hV12] at hRV
      have hall : ∀ k, k < w17.heap.size → k ≠ w5.heap.size → k ≠ r → V12.heap[k]? = w17.heap[k]? := fun k hk h1 h2 => (hbV.block k (by omega) h2).trans (hbU.block k hk h1)
      replace HB : Hid (But r w V12) := ⟨hbV.os.trans (hbU.os.trans (unhide HB).os), hbV.tape.trans (hbU.tape.trans (unhide HB).tape), hbV.output.trans (hbU.output.trans (unhide HB).output), by have := (unhide HB).size; omega, fun k hk h2 => (hall k (by have := (unhide HB).size; omega) (by omega) h2).trans ((unhide HB).block k hk h2)⟩
      replace HZ : Hid (ZB V12 w.heap.size) := (hall _ (unhide HS) (by omega) (by omega)).trans (unhide HZ)
      replace HX3 := hide ((hall _ (blk (unhide HX3)).1 (by have := unhide hlt; omega) (Ne.symm ne3)).trans (unhide HX3))
      replace HX10 : Hid (V12.heap[w5.heap.size]? = some (.cells #[.int .i64 i17, .string s17, .string m17, .bool b17, .slice a17 n17 c17, .int .i64 0, .int .i64 j17] 51)) := by show _ = _; rw [hbV.block _ (by have := (blk (unhide HX10)).1; omega) (Ne.symm ne10), ← hU17]; exact fill7 (unhide HX10)
      have HT17 := hide (hv17.keep (w' := V12) (lo' := w.heap.size + 1) ⟨by omega, fun k h1 h2 => hall k h2 (by have := unhide HAB12; omega) (by have := unhide HAB12; omega)⟩ (by have := unhide HAB12; omega))
      replace HS : Hid (w.heap.size < V12.heap.size) := by have := unhide HS; show _ < _; omega
      replace HR := hide hRV
      have HEU := hide hU17
      have HEV12 := hide hV12
      have HSV12 : Hid (V12.heap.size = w17.heap.size) := hsV
      clear hb17 hR17 hv17 HC17 hqU hbU hbV hsU hsV hRU hRV hall hU17 hV12
      obtain ⟨C20, eC20, hbC20, hsC20, hhC20⟩ := box_new V12 #[.int .i64 i17, .string s17, .string m17, .bool b17, .slice a17 n17 c17, .int .i64 0, .int .i64 j17] 51
      have hnode := node (l := [t17]) (vs := [[.int .i64 i17, .string s17, .string m17, .bool b17, .slice a17 n17 c17, .int .i64 0, .int .i64 j17]]) 7 at0 ⟨#[]⟩ ⟨#[]⟩ false eC20 rfl (by simp) rfl (by simp) (unhide HS) (fun j v t hv ht => by
        rcases j with _ | j
        · obtain rfl := Option.some.inj hv
          obtain rfl := Option.some.inj ht
          exact unhide HT17
        · simp at hv)
      rw [unhide HSV12] at hnode
      have hbu21 := But.of (r := r) hbC20
      replace HR := hide ((unhide HR).keep hbC20)
      replace HB := hide ((unhide HB).trans hbu21)
      replace HZ := hide ((unhide HZ).but hbu21 hrne)
      replace HX3 := hide ((hbu21.block _ (blk (unhide HX3)).1 (Ne.symm ne3)).trans (unhide HX3))
      replace HX10 := hide ((hbu21.block _ (blk (unhide HX10)).1 (Ne.symm ne10)).trans (unhide HX10))
      replace HS := hide (Nat.lt_of_lt_of_le (unhide HS) hbu21.size)
      obtain ⟨y0, y1, y2, y3, y4, y5, y6⟩ := blk7 (unhide HZ)
      obtain ⟨z0, z1, z2, z3, z4, z5, z6⟩ := frz7 (unhide HZ)
      have uc03 := (blk (unhide HX3)).2.1 0 _ rfl
      have uc13 := (blk (unhide HX3)).2.1 1 _ rfl
      have uc23 := (blk (unhide HX3)).2.1 2 _ rfl
      rw [← eC20, ← unhide HEV12, ← unhide HEU] at y0 y1 y2 y3 y4 y5 y6 z0 z1 z2 z3 z4 z5 z6 uc03 uc13 uc23
      have HNode := hide hnode
      have HEC := hide eC20
      clear hnode eC20 hbC20 hsC20 hhC20
      go_wp2
      rw [unhide HEU, unhide HEV12, unhide HEC]
      rw [← unhide HQQ]
      exact dret_put rfl rfl rfl (unhide HB) hr (unhide HZ) (unhide HY).symm (unhide HR) (Nat.lt_succ_self _) (unhide HNode)
  have hY22 := unhide HY
  simp only [Bool.false_eq_true, if_false] at hY22
  replace HY := hide hY22
  clear hY22
  have hRR := unhide HR
  rw [if_neg Bool.false_ne_true] at hRR
  replace HR := hide hRR
  clear hRR
  have HC23 := hide (eat_any (unhide HR) (unhide HT) ⟨#[110, 111, 116]⟩)
  obtain ⟨bo23, hbo23⟩ : ∃ b, isD ts ⟨#[110, 111, 116]⟩ (st) = b := ⟨_, rfl⟩
  unfold eatD at HC23
  rw [hbo23] at HC23
  have HO23 := hide hbo23
  clear hbo23
  go_wp2_with fail
  refine (unhide HC23).mono ?_
  rintro e w23 ⟨rfl, hb23, hR23⟩
  replace HB := hide ((unhide HB).trans hb23)
  replace HZ := hide ((unhide HZ).but hb23 hrne)
  replace HX3 := hide ((hb23.block _ (blk (unhide HX3)).1 (Ne.symm ne3)).trans (unhide HX3))
  replace HS := hide (Nat.lt_of_lt_of_le (unhide HS) hb23.size)
  replace HR := hide hR23
  have hY24 := unhide HY
  simp only [unhide HO23] at hY24
  replace HY := hide hY24
  clear hY24
  clear hb23 HC23 hR23
  rcases bo23 with _ | _
  rotate_left
  · have hY25 := unhide HY
    simp only [if_true] at hY25
    replace HY := hide hY25
    clear hY25
    have hRR := unhide HR
    rw [if_pos rfl] at hRR
    obtain ⟨S26, hS26⟩ : ∃ S, stepD ts (st) = S := ⟨_, rfl⟩
    rw [hS26] at hRR
    replace HR := hide hRR
    have HSt26 := hide hS26
    have hY27 := unhide HY
    simp only [unhide HSt26] at hY27
    replace HY := hide hY27
    clear hY27
    clear hRR hS26
    have heS : Hid ((S26).e = 0) := by show _ = _; rw [← unhide HSt26, stepD_e]; exact isD_e (unhide HO23)
    have HSa := HS
    have hlt : Hid (w0.heap.size < w23.heap.size) := (blk (unhide HX3)).1
    obtain ⟨B28, eB28, hbB28, hsB28, hhB28⟩ := box_new w23 #[.int .i64 0, .string ⟨#[]⟩, .string ⟨#[]⟩, .bool false, .slice none 0 0, .int .i64 0, .int .i64 0] 51
    have ne28 : r ≠ w23.heap.size := by have := unhide HS; omega
    have hbu29 := But.of (r := r) hbB28
    replace HR := hide ((unhide HR).keep hbB28)
    replace HB := hide ((unhide HB).trans hbu29)
    replace HZ := hide ((unhide HZ).but hbu29 hrne)
    replace HX3 := hide ((hbu29.block _ (blk (unhide HX3)).1 (Ne.symm ne3)).trans (unhide HX3))
    replace HS := hide (Nat.lt_of_lt_of_le (unhide HS) hbu29.size)
    have HX28 := hide hhB28
    have HEB28 := hide eB28
    have HSB28 := hide hsB28
    clear eB28 hbB28 hhB28 hsB28
    have HAB30 := hide (blk (unhide HX28)).1
    rcases unhide hU with hU1 | hU1
    · obtain ⟨hd1, hd2, hgU⟩ := hU1
      have HC30 := hide (down_no (unhide HR) (unhide HT) hd1 hd2)
      obtain ⟨SA30, hSA30⟩ : ∃ S, (S26).fail (tD ts (S26)).2.2 151 = S := ⟨_, rfl⟩
      rw [hSA30] at HC30
      have HSA30 := hide (And.intro (hgU (S26)) hSA30)
      have hY31 := unhide HY
      simp only [(unhide HSA30).1, (unhide HSA30).2] at hY31
      replace HY := hide hY31
      clear hY31
      have gd0 : (0 : Int) ≤ (d : Int) := by omega
      have gd1 : (d : Int) ≤ 100000 := by omega
      clear hgU hSA30 hd1 hd2
      go_wp2_with fail
      rw [unhide HEB28]
      refine (unhide HC30).mono ?_
      rintro e w30 ⟨rfl, hb30, hR30⟩
      replace HB := hide ((unhide HB).trans hb30)
      replace HZ := hide ((unhide HZ).but hb30 hrne)
      replace HX3 := hide ((hb30.block _ (blk (unhide HX3)).1 (Ne.symm ne3)).trans (unhide HX3))
      replace HX28 := hide ((hb30.block _ (blk (unhide HX28)).1 (Ne.symm ne28)).trans (unhide HX28))
      replace HS := hide (Nat.lt_of_lt_of_le (unhide HS) hb30.size)
      replace HR := hide hR30
      clear hb30 hR30 HC30 HSA30
      obtain ⟨gg32, gc32, x032, x132, x232, x332, x432, hc32, hl32, hf32, ht32⟩ := (unhide HR).facts (Below.refl _ _)
      have f432 := hf32 4
      clear hc32 hf32 ht32 x032 x132 x232 x332
      obtain ⟨y028, y128, y228, y328, y428, y528, y628⟩ := blk7 (unhide HX28)
      obtain ⟨V30, hV30⟩ : ∃ V, w30.setCell ⟨r, 4, none⟩ (.int .i64 (d : Int)) = V := ⟨_, rfl⟩
      have hbV30 : But r w30 V30 := by rw [← hV30]; exact (But.refl r w30).set _ _
      have hRV30 := (unhide HR).deep (e := d)
      rw [hV30] at hRV30
      have hsV30 : V30.heap.size = w30.heap.size := by rw [← hV30]; simp
      replace HB := hide ((unhide HB).trans hbV30)
      replace HZ := hide ((unhide HZ).but hbV30 hrne)
      replace HX3 := hide ((hbV30.block _ (blk (unhide HX3)).1 (Ne.symm ne3)).trans (unhide HX3))
      replace HX28 := hide ((hbV30.block _ (blk (unhide HX28)).1 (Ne.symm ne28)).trans (unhide HX28))
      replace HS := hide (Nat.lt_of_lt_of_le (unhide HS) hbV30.size)
      replace HR := hide hRV30
      have HEV30 := hide hV30
      have HSV30 := hide hsV30
      clear hbV30 hRV30 hV30 hsV30
      have HTz30 := hide (leaf (W := V30) (lo := w.heap.size + 1) 0 0 ⟨#[]⟩ ⟨#[]⟩ false)
      obtain ⟨C33, eC33, hbC33, hsC33, hhC33⟩ := box_new V30 #[.int .i64 0, .string ⟨#[]⟩, .string ⟨#[]⟩, .bool false, .slice none 0 0, .int .i64 0, .int .i64 0] 51
      have hnode := node (l := [zEx]) (vs := [[.int .i64 0, .string ⟨#[]⟩, .string ⟨#[]⟩, .bool false, .slice none 0 0, .int .i64 0, .int .i64 0]]) 8 at0 ⟨#[]⟩ ⟨#[]⟩ false eC33 rfl (by simp) rfl (by simp) (unhide HS) (fun j v t hv ht => by
        rcases j with _ | j
        · obtain rfl := Option.some.inj hv
          obtain rfl := Option.some.inj ht
          exact unhide HTz30
        · simp at hv)
      rw [unhide HSV30] at hnode
      have hbu34 := But.of (r := r) hbC33
      replace HR := hide ((unhide HR).keep hbC33)
      replace HB := hide ((unhide HB).trans hbu34)
      replace HZ := hide ((unhide HZ).but hbu34 hrne)
      replace HX3 := hide ((hbu34.block _ (blk (unhide HX3)).1 (Ne.symm ne3)).trans (unhide HX3))
      replace HX28 := hide ((hbu34.block _ (blk (unhide HX28)).1 (Ne.symm ne28)).trans (unhide HX28))
      replace HS := hide (Nat.lt_of_lt_of_le (unhide HS) hbu34.size)
      obtain ⟨y0, y1, y2, y3, y4, y5, y6⟩ := blk7 (unhide HZ)
      obtain ⟨z0, z1, z2, z3, z4, z5, z6⟩ := frz7 (unhide HZ)
      have uc03 := (blk (unhide HX3)).2.1 0 _ rfl
      have uc13 := (blk (unhide HX3)).2.1 1 _ rfl
      have uc23 := (blk (unhide HX3)).2.1 2 _ rfl
      rw [← eC33, ← unhide HEV30] at y0 y1 y2 y3 y4 y5 y6 z0 z1 z2 z3 z4 z5 z6 uc03 uc13 uc23
      have HNode := hide hnode
      have HEC := hide eC33
      clear hnode eC33 hbC33 hsC33 hhC33
      go_wp2
      rw [unhide HEV30, unhide HEC]
      rw [← unhide HQQ]
      exact dret_put rfl rfl rfl (unhide HB) hr (unhide HZ) (unhide HY).symm (unhide HR) (Nat.lt_succ_self _) (unhide HNode)
    · obtain ⟨hd1, X, hgX, hX⟩ := hU1
      have HC30 := hide (down_yes (unhide HR) hd1)
      rw [decide_eq_true (unhide heS)] at HC30
      have HGX := hide (And.intro (hgX (S26) (unhide heS)) hX)
      have gd0 : (0 : Int) ≤ (d : Int) := by omega
      have gd1 : (d : Int) < 200 := by omega
      clear hgX hX hd1
      go_wp2_with fail
      rw [unhide HEB28]
      refine (unhide HC30).mono ?_
      rintro e w30 ⟨rfl, hb30, hR30⟩
      replace HB := hide ((unhide HB).trans hb30)
      replace HZ := hide ((unhide HZ).but hb30 hrne)
      replace HX3 := hide ((hb30.block _ (blk (unhide HX3)).1 (Ne.symm ne3)).trans (unhide HX3))
      replace HX28 := hide ((hb30.block _ (blk (unhide HX28)).1 (Ne.symm ne28)).trans (unhide HX28))
      replace HS := hide (Nat.lt_of_lt_of_le (unhide HS) hb30.size)
      replace HR := hide hR30
      replace HAB30 := hide (Nat.lt_of_lt_of_le (unhide HAB30) hb30.size)
      clear hb30 hR30 HC30
      have HC35 := hide ((unhide HGX).2 w30 (S26) (unhide heS) (unhide HR))
      obtain ⟨⟨t35, S35⟩, hX35⟩ : ∃ Z, X (S26) = Z := ⟨_, rfl⟩
      rw [hX35] at HC35
      have HX35 := hide (And.intro (unhide HGX).1 hX35)
      have hY36 := unhide HY
      simp only [(unhide HX35).1, (unhide HX35).2] at hY36
      replace HY := hide hY36
      clear hY36
      clear hX35 HX35 HGX
      go_wp2_with fail
      refine (unhide HC35).mono ?_
      rintro e w35 ⟨hb35, hR35, v35, rfl, hv35⟩
      obtain ⟨i35, j35, s35, m35, b35, a35, n35, c35, rfl⟩ := hv35.form
      replace HB := hide ((unhide HB).trans hb35)
      replace HZ := hide ((unhide HZ).but hb35 hrne)
      replace HX3 := hide ((hb35.block _ (blk (unhide HX3)).1 (Ne.symm ne3)).trans (unhide HX3))
      replace HX28 := hide ((hb35.block _ (blk (unhide HX28)).1 (Ne.symm ne28)).trans (unhide HX28))
      replace HS := hide (Nat.lt_of_lt_of_le (unhide HS) hb35.size)
      replace HR := hide hR35
      obtain ⟨gg37, gc37, x037, x137, x237, x337, x437, hc37, hl37, hf37, ht37⟩ := (unhide HR).facts (Below.refl _ _)
      have f437 := hf37 4
      clear hc37 hf37 ht37 x037 x137 x237 x337
      obtain ⟨ya0, ya1, ya2, ya3, ya4, ya5, ya6⟩ := blk7 (unhide HX28)
      obtain ⟨za0, za1, za2, za3, za4, za5, za6⟩ := frz7 (unhide HX28)
      obtain ⟨U35, hU35⟩ : ∃ V, (((((((w35.setCell ⟨w23.heap.size, 0, none⟩ (.int .i64 i35)).setCell ⟨w23.heap.size, 1, none⟩ (.string s35)).setCell ⟨w23.heap.size, 2, none⟩ (.string m35)).setCell ⟨w23.heap.size, 3, none⟩ (.bool b35)).setCell ⟨w23.heap.size, 4, none⟩ (.slice a35 n35 c35)).setCell ⟨w23.heap.size, 5, none⟩ (.int .i64 0)).setCell ⟨w23.heap.size, 6, none⟩ (.int .i64 j35)) = V := ⟨_, rfl⟩
      obtain ⟨V30, hV30⟩ : ∃ V, U35.setCell ⟨r, 4, none⟩ (.int .i64 (d : Int)) = V := ⟨_, rfl⟩
      have hqU : w.heap.size < w23.heap.size := unhide HSa
      have hbU : But w23.heap.size w35 U35 := by rw [← hU35]; exact ((((((((But.refl w23.heap.size w35).set 0 _).set 1 _).set 2 _).set 3 _).set 4 _).set 5 _).set 6 _)
      have hbV : But r U35 V30 := by rw [← hV30]; exact (But.refl r U35).set _ _
      have hsU : U35.heap.size = w35.heap.size := by rw [← hU35]; simp
      have hsV : V30.heap.size = w35.heap.size := by rw [← hV30, ← hsU]; simp
      have hRU : PD U35 r ts S35 (d + 1) := (unhide HR).out (q := w.heap.size) hr fun k hk => hbU.block k (by have := unhide HS; omega) (by omega)
      have hRV := hRU.deep (e := d)
      rw [hV30] at hRV
      have hall : ∀ k, k < w35.heap.size → k ≠ w23.heap.size → k ≠ r → V30.heap[k]? = w35.heap[k]? := fun k hk h1 h2 => (hbV.block k (by omega) h2).trans (hbU.block k hk h1)
      replace HB : Hid (But r w V30) := ⟨hbV.os.trans (hbU.os.trans (unhide HB).os), hbV.tape.trans (hbU.tape.trans (unhide HB).tape), hbV.output.trans (hbU.output.trans (unhide HB).output), by have := (unhide HB).size; omega, fun k hk h2 => (hall k (by have := (unhide HB).size; omega) (by omega) h2).trans ((unhide HB).block k hk h2)⟩
      replace HZ : Hid (ZB V30 w.heap.size) := (hall _ (unhide HS) (by omega) (by omega)).trans (unhide HZ)
      replace HX3 := hide ((hall _ (blk (unhide HX3)).1 (by have := unhide hlt; omega) (Ne.symm ne3)).trans (unhide HX3))
      replace HX28 : Hid (V30.heap[w23.heap.size]? = some (.cells #[.int .i64 i35, .string s35, .string m35, .bool b35, .slice a35 n35 c35, .int .i64 0, .int .i64 j35] 51)) := by show _ = _; rw [hbV.block _ (by have := (blk (unhide HX28)).1; omega) (Ne.symm ne28), ← hU35]; exact fill7 (unhide HX28)
      have HT35 := hide (hv35.keep (w' := V30) (lo' := w.heap.size + 1) ⟨by omega, fun k h1 h2 => hall k h2 (by have := unhide HAB30; omega) (by have := unhide HAB30; omega)⟩ (by have := unhide HAB30; omega))
      replace HS : Hid (w.heap.size < V30.heap.size) := by have := unhide HS; show _ < _; omega
      replace HR := hide hRV
      have HEU := hide hU35
      have HEV30 := hide hV30
      have HSV30 : Hid (V30.heap.size = w35.heap.size) := hsV
      clear hb35 hR35 hv35 HC35 hqU hbU hbV hsU hsV hRU hRV hall hU35 hV30
      obtain ⟨C38, eC38, hbC38, hsC38, hhC38⟩ := box_new V30 #[.int .i64 i35, .string s35, .string m35, .bool b35, .slice a35 n35 c35, .int .i64 0, .int .i64 j35] 51
      have hnode := node (l := [t35]) (vs := [[.int .i64 i35, .string s35, .string m35, .bool b35, .slice a35 n35 c35, .int .i64 0, .int .i64 j35]]) 8 at0 ⟨#[]⟩ ⟨#[]⟩ false eC38 rfl (by simp) rfl (by simp) (unhide HS) (fun j v t hv ht => by
        rcases j with _ | j
        · obtain rfl := Option.some.inj hv
          obtain rfl := Option.some.inj ht
          exact unhide HT35
        · simp at hv)
      rw [unhide HSV30] at hnode
      have hbu39 := But.of (r := r) hbC38
      replace HR := hide ((unhide HR).keep hbC38)
      replace HB := hide ((unhide HB).trans hbu39)
      replace HZ := hide ((unhide HZ).but hbu39 hrne)
      replace HX3 := hide ((hbu39.block _ (blk (unhide HX3)).1 (Ne.symm ne3)).trans (unhide HX3))
      replace HX28 := hide ((hbu39.block _ (blk (unhide HX28)).1 (Ne.symm ne28)).trans (unhide HX28))
      replace HS := hide (Nat.lt_of_lt_of_le (unhide HS) hbu39.size)
      obtain ⟨y0, y1, y2, y3, y4, y5, y6⟩ := blk7 (unhide HZ)
      obtain ⟨z0, z1, z2, z3, z4, z5, z6⟩ := frz7 (unhide HZ)
      have uc03 := (blk (unhide HX3)).2.1 0 _ rfl
      have uc13 := (blk (unhide HX3)).2.1 1 _ rfl
      have uc23 := (blk (unhide HX3)).2.1 2 _ rfl
      rw [← eC38, ← unhide HEV30, ← unhide HEU] at y0 y1 y2 y3 y4 y5 y6 z0 z1 z2 z3 z4 z5 z6 uc03 uc13 uc23
      have HNode := hide hnode
      have HEC := hide eC38
      clear hnode eC38 hbC38 hsC38 hhC38
      go_wp2
      rw [unhide HEU, unhide HEV30, unhide HEC]
      rw [← unhide HQQ]
      exact dret_put rfl rfl rfl (unhide HB) hr (unhide HZ) (unhide HY).symm (unhide HR) (Nat.lt_succ_self _) (unhide HNode)
  have hY40 := unhide HY
  simp only [Bool.false_eq_true, if_false] at hY40
  replace HY := hide hY40
  clear hY40
  have hRR := unhide HR
  rw [if_neg Bool.false_ne_true] at hRR
  replace HR := hide hRR
  clear hRR
  have HC41 := hide (eat_any (unhide HR) (unhide HT) ⟨#[33]⟩)
  obtain ⟨bo41, hbo41⟩ : ∃ b, isD ts ⟨#[33]⟩ (st) = b := ⟨_, rfl⟩
  unfold eatD at HC41
  rw [hbo41] at HC41
  have HO41 := hide hbo41
  clear hbo41
  go_wp2_with fail
  refine (unhide HC41).mono ?_
  rintro e w41 ⟨rfl, hb41, hR41⟩
  replace HB := hide ((unhide HB).trans hb41)
  replace HZ := hide ((unhide HZ).but hb41 hrne)
  replace HX3 := hide ((hb41.block _ (blk (unhide HX3)).1 (Ne.symm ne3)).trans (unhide HX3))
  replace HS := hide (Nat.lt_of_lt_of_le (unhide HS) hb41.size)
  replace HR := hide hR41
  have hY42 := unhide HY
  simp only [unhide HO41] at hY42
  replace HY := hide hY42
  clear hY42
  clear hb41 HC41 hR41
  rcases bo41 with _ | _
  rotate_left
  · have hY43 := unhide HY
    simp only [if_true] at hY43
    replace HY := hide hY43
    clear hY43
    have hRR := unhide HR
    rw [if_pos rfl] at hRR
    obtain ⟨S44, hS44⟩ : ∃ S, stepD ts (st) = S := ⟨_, rfl⟩
    rw [hS44] at hRR
    replace HR := hide hRR
    have HSt44 := hide hS44
    have hY45 := unhide HY
    simp only [unhide HSt44] at hY45
    replace HY := hide hY45
    clear hY45
    clear hRR hS44
    have HC46 := hide (name_any (unhide HR) (unhide HT))
    unfold tkV at HC46
    obtain ⟨⟨⟨kk46, T46, at46⟩, S46⟩, hN46⟩ : ∃ X, nameD ts (S44) = X := ⟨_, rfl⟩
    rw [hN46] at HC46
    have HN46 := hide hN46
    clear hN46
    go_wp2_with fail
    refine (unhide HC46).mono ?_
    rintro e w46 ⟨rfl, hb46, hR46⟩
    have hY47 := unhide HY
    simp only [unhide HN46] at hY47
    replace HY := hide hY47
    clear hY47
    replace HB := hide ((unhide HB).trans hb46)
    replace HZ := hide ((unhide HZ).but hb46 hrne)
    replace HX3 := hide ((hb46.block _ (blk (unhide HX3)).1 (Ne.symm ne3)).trans (unhide HX3))
    replace HS := hide (Nat.lt_of_lt_of_le (unhide HS) hb46.size)
    replace HR := hide hR46
    clear hb46 hR46 HC46
    obtain ⟨B48, eB48, hbB48, hsB48, hhB48⟩ := box_new w46 #[.int .i64 kk46, .string T46, .int .i64 at46] 87
    have ne48 : r ≠ w46.heap.size := by have := unhide HS; omega
    have hbu49 := But.of (r := r) hbB48
    replace HR := hide ((unhide HR).keep hbB48)
    replace HB := hide ((unhide HB).trans hbu49)
    replace HZ := hide ((unhide HZ).but hbu49 hrne)
    replace HX3 := hide ((hbu49.block _ (blk (unhide HX3)).1 (Ne.symm ne3)).trans (unhide HX3))
    replace HS := hide (Nat.lt_of_lt_of_le (unhide HS) hbu49.size)
    have HX48 := hide hhB48
    have HEB48 := hide eB48
    have HSB48 := hide hsB48
    clear eB48 hbB48 hhB48 hsB48
    have u03 := (blk (unhide HX3)).2.1 0 _ rfl
    have u13 := (blk (unhide HX3)).2.1 1 _ rfl
    have u23 := (blk (unhide HX3)).2.1 2 _ rfl
    have u048 := (blk (unhide HX48)).2.1 0 _ rfl
    have u148 := (blk (unhide HX48)).2.1 1 _ rfl
    have u248 := (blk (unhide HX48)).2.1 2 _ rfl
    rw [← unhide HEB48] at u03 u13 u23 u048 u148 u248
    obtain ⟨y0, y1, y2, y3, y4, y5, y6⟩ := blk7 (unhide HZ)
    obtain ⟨z0, z1, z2, z3, z4, z5, z6⟩ := frz7 (unhide HZ)
    have HNode := hide (leaf (W := B48) (lo := w.heap.size + 1) 5 at0 T46 ⟨#[]⟩ false)
    rw [← unhide HEB48] at y0 y1 y2 y3 y4 y5 y6 z0 z1 z2 z3 z4 z5 z6
    go_wp2
    rw [unhide HEB48]
    rw [← unhide HQQ]
    exact dret_put rfl rfl rfl (unhide HB) hr (unhide HZ) (unhide HY).symm (unhide HR) (Nat.lt_succ_self _) (unhide HNode)
  have hY50 := unhide HY
  simp only [Bool.false_eq_true, if_false] at hY50
  replace HY := hide hY50
  clear hY50
  have hRR := unhide HR
  rw [if_neg Bool.false_ne_true] at hRR
  replace HR := hide hRR
  clear hRR
  have HC51 := hide (eat_any (unhide HR) (unhide HT) ⟨#[111, 108, 100]⟩)
  obtain ⟨bo51, hbo51⟩ : ∃ b, isD ts ⟨#[111, 108, 100]⟩ (st) = b := ⟨_, rfl⟩
  unfold eatD at HC51
  rw [hbo51] at HC51
  have HO51 := hide hbo51
  clear hbo51
  go_wp2_with fail
  refine (unhide HC51).mono ?_
  rintro e w51 ⟨rfl, hb51, hR51⟩
  replace HB := hide ((unhide HB).trans hb51)
  replace HZ := hide ((unhide HZ).but hb51 hrne)
  replace HX3 := hide ((hb51.block _ (blk (unhide HX3)).1 (Ne.symm ne3)).trans (unhide HX3))
  replace HS := hide (Nat.lt_of_lt_of_le (unhide HS) hb51.size)
  replace HR := hide hR51
  have hY52 := unhide HY
  simp only [unhide HO51] at hY52
  replace HY := hide hY52
  clear hY52
  clear hb51 HC51 hR51
  rcases bo51 with _ | _
  rotate_left
  · have hY53 := unhide HY
    simp only [if_true] at hY53
    replace HY := hide hY53
    clear hY53
    have hRR := unhide HR
    rw [if_pos rfl] at hRR
    obtain ⟨S54, hS54⟩ : ∃ S, stepD ts (st) = S := ⟨_, rfl⟩
    rw [hS54] at hRR
    replace HR := hide hRR
    have HSt54 := hide hS54
    have hY55 := unhide HY
    simp only [unhide HSt54] at hY55
    replace HY := hide hY55
    clear hY55
    clear hRR hS54
    have HC56 := hide (name_any (unhide HR) (unhide HT))
    unfold tkV at HC56
    obtain ⟨⟨⟨kk56, T56, at56⟩, S56⟩, hN56⟩ : ∃ X, nameD ts (S54) = X := ⟨_, rfl⟩
    rw [hN56] at HC56
    have HN56 := hide hN56
    clear hN56
    go_wp2_with fail
    refine (unhide HC56).mono ?_
    rintro e w56 ⟨rfl, hb56, hR56⟩
    have hY57 := unhide HY
    simp only [unhide HN56] at hY57
    replace HY := hide hY57
    clear hY57
    replace HB := hide ((unhide HB).trans hb56)
    replace HZ := hide ((unhide HZ).but hb56 hrne)
    replace HX3 := hide ((hb56.block _ (blk (unhide HX3)).1 (Ne.symm ne3)).trans (unhide HX3))
    replace HS := hide (Nat.lt_of_lt_of_le (unhide HS) hb56.size)
    replace HR := hide hR56
    clear hb56 hR56 HC56
    obtain ⟨B58, eB58, hbB58, hsB58, hhB58⟩ := box_new w56 #[.int .i64 kk56, .string T56, .int .i64 at56] 87
    have ne58 : r ≠ w56.heap.size := by have := unhide HS; omega
    have hbu59 := But.of (r := r) hbB58
    replace HR := hide ((unhide HR).keep hbB58)
    replace HB := hide ((unhide HB).trans hbu59)
    replace HZ := hide ((unhide HZ).but hbu59 hrne)
    replace HX3 := hide ((hbu59.block _ (blk (unhide HX3)).1 (Ne.symm ne3)).trans (unhide HX3))
    replace HS := hide (Nat.lt_of_lt_of_le (unhide HS) hbu59.size)
    have HX58 := hide hhB58
    have HEB58 := hide eB58
    have HSB58 := hide hsB58
    clear eB58 hbB58 hhB58 hsB58
    have u03 := (blk (unhide HX3)).2.1 0 _ rfl
    have u13 := (blk (unhide HX3)).2.1 1 _ rfl
    have u23 := (blk (unhide HX3)).2.1 2 _ rfl
    have u058 := (blk (unhide HX58)).2.1 0 _ rfl
    have u158 := (blk (unhide HX58)).2.1 1 _ rfl
    have u258 := (blk (unhide HX58)).2.1 2 _ rfl
    rw [← unhide HEB58] at u03 u13 u23 u058 u158 u258
    obtain ⟨y0, y1, y2, y3, y4, y5, y6⟩ := blk7 (unhide HZ)
    obtain ⟨z0, z1, z2, z3, z4, z5, z6⟩ := frz7 (unhide HZ)
    have HNode := hide (leaf (W := B58) (lo := w.heap.size + 1) 6 at0 T56 ⟨#[]⟩ false)
    rw [← unhide HEB58] at y0 y1 y2 y3 y4 y5 y6 z0 z1 z2 z3 z4 z5 z6
    go_wp2
    rw [unhide HEB58]
    rw [← unhide HQQ]
    exact dret_put rfl rfl rfl (unhide HB) hr (unhide HZ) (unhide HY).symm (unhide HR) (Nat.lt_succ_self _) (unhide HNode)
  have hY60 := unhide HY
  simp only [Bool.false_eq_true, if_false] at hY60
  replace HY := hide hY60
  clear hY60
  have hRR := unhide HR
  rw [if_neg Bool.false_ne_true] at hRR
  replace HR := hide hRR
  clear hRR
  have HC61 := hide (unhide hP w51 (st) (unhide HR))
  obtain ⟨⟨t61, S61⟩, hX61⟩ : ∃ X, primD ts g (st) = X := ⟨_, rfl⟩
  rw [hX61] at HC61
  have HX61 := hide hX61
  clear hX61
  go_wp2_with fail
  refine (unhide HC61).mono ?_
  rintro e w61 ⟨hb61, hR61, v61, rfl, hv61⟩
  have hY62 := unhide HY
  simp only [unhide HX61] at hY62
  replace HY := hide hY62
  clear hY62
  obtain ⟨i61, j61, s61, m61, b61, a61, n61, c61, rfl⟩ := hv61.form
  have HT61 := hide (hv61.keep (lo' := w.heap.size + 1) (Stays.of (Below.refl _ _)) (unhide HS))
  replace HB := hide ((unhide HB).trans hb61)
  replace HZ := hide ((unhide HZ).but hb61 hrne)
  replace HX3 := hide ((hb61.block _ (blk (unhide HX3)).1 (Ne.symm ne3)).trans (unhide HX3))
  replace HS := hide (Nat.lt_of_lt_of_le (unhide HS) hb61.size)
  replace HR := hide hR61
  clear hb61 hR61 hv61 HC61 HX61
  obtain ⟨y0, y1, y2, y3, y4, y5, y6⟩ := blk7 (unhide HZ)
  obtain ⟨z0, z1, z2, z3, z4, z5, z6⟩ := frz7 (unhide HZ)
  have HNode := hide (unhide HT61)
  go_wp2
  rw [← unhide HQQ]
  exact dret_put rfl rfl rfl (unhide HB) hr (unhide HZ) (unhide HY).symm (unhide HR) (Nat.lt_succ_self _) (unhide HNode)
end Go.Proofs.YtljhpbjngbbjbaaDoor

namespace Go.Proofs.YtljhpbjngbbjbaaDoor
open Go Go.RowKit
set_option maxRecDepth 100000 in
set_option maxHeartbeats 8000000 in
theorem dimp_of {r d : Nat} {ts : List (Int × ByteArray × Int)} {g : Ru → PS → Ex × PS} (hT : TsOk ts) (hU : (200 ≤ d ∧ d ≤ 100000 ∧ ∀ S, g .rI S = (zEx, S.fail (tD ts S).2.2 151)) ∨ (d < 200 ∧ ∃ X, (∀ S, S.e = 0 → g .rI S = X S) ∧ DcO 78 r ts (d + 1) X)) (hL : ∀ (w : World) (st : PS), PD w r ts st d → Calls Tryd.prog 80 #[.pointer (some ⟨r, 0, none⟩), .int .i64 0] w (DE (leftD ts g 5 st) r ts d w)) : DcC 78 r ts d (impD ts g) := by
  intro w st hR
  obtain ⟨Y, hY⟩ : ∃ Y, impD ts g st = Y := ⟨_, rfl⟩
  show Calls _ _ _ _ (DE (impD ts g st) r ts d w)
  rw [hY]
  unfold impD at hY
  have hr := hR.rlt
  obtain ⟨A, eA, hbA, hzA, hsA⟩ := zb_new w
  have HB := hide (But.of (r := r) hbA)
  have HR := hide (hR.keep hbA)
  have HZ := hide hzA
  have HS : Hid (w.heap.size < A.heap.size) := by show _ < _; omega
  have HE := hide eA
  have HT := hide hT
  have HY := hide hY
  have hrne : r ≠ w.heap.size := by omega
  replace hU := hide hU
  replace hL := hide hL
  clear hR hbA hzA hsA eA hT hY
  go_enter Tryd.func78, Tryd.ntmps78
  generalize hQQ : bodyPost Tryd.prog Tryd.f78 (DE Y r ts d w) = QQ
  have HQQ := hide hQQ
  clear hQQ
  have HC0 := hide (unhide hL A (st) (unhide HR))
  obtain ⟨⟨t0, S0⟩, hX0⟩ : ∃ X, leftD ts g 5 (st) = X := ⟨_, rfl⟩
  rw [hX0] at HC0
  have HX0 := hide hX0
  clear hX0
  go_wp2_with fail
  rw [unhide HE]
  refine (unhide HC0).mono ?_
  rintro e w0 ⟨hb0, hR0, v0, rfl, hv0⟩
  have hY1 := unhide HY
  simp only [unhide HX0] at hY1
  replace HY := hide hY1
  clear hY1
  obtain ⟨i0, j0, s0, m0, b0, a0, n0, c0, rfl⟩ := hv0.form
  have HT0 := hide (hv0.keep (lo' := w.heap.size + 1) (Stays.of (Below.refl _ _)) (unhide HS))
  replace HB := hide ((unhide HB).trans hb0)
  replace HZ := hide ((unhide HZ).but hb0 hrne)
  replace HS := hide (Nat.lt_of_lt_of_le (unhide HS) hb0.size)
  replace HR := hide hR0
  clear hb0 hR0 hv0 HC0 HX0
  obtain ⟨B2, eB2, hbB2, hsB2, hhB2⟩ := box_new w0 #[.int .i64 i0, .string s0, .string m0, .bool b0, .slice a0 n0 c0, .int .i64 0, .int .i64 j0] 51
  have ne2 : r ≠ w0.heap.size := by have := unhide HS; omega
  have hbu3 := But.of (r := r) hbB2
  replace HR := hide ((unhide HR).keep hbB2)
  replace HB := hide ((unhide HB).trans hbu3)
  replace HZ := hide ((unhide HZ).but hbu3 hrne)
  replace HT0 := hide ((unhide HT0).keep (Stays.but hbu3 (Nat.lt_succ_of_lt hr)) (Nat.le_refl _))
  replace HS := hide (Nat.lt_of_lt_of_le (unhide HS) hbu3.size)
  have HX2 := hide hhB2
  have HEB2 := hide eB2
  have HSB2 := hide hsB2
  clear eB2 hbB2 hhB2 hsB2
  have HC4 := hide (dt_any (unhide HR) (unhide HT))
  unfold tkV at HC4
  obtain ⟨⟨kk4, T4, at4⟩, hN4⟩ : ∃ X, tD ts (S0) = X := ⟨_, rfl⟩
  rw [hN4] at HC4
  have HN4 := hide hN4
  have hf24 := fld2 (.int .i64 kk4) (.string T4) (.int .i64 at4)
  clear hN4
  go_wp2_with fail
  rw [unhide HEB2]
  refine (unhide HC4).mono ?_
  rintro e w4 ⟨rfl, hb4⟩
  have hY5 := unhide HY
  simp only [unhide HN4] at hY5
  replace HY := hide hY5
  clear hY5
  have hbu6 := But.of (r := r) hb4
  replace HR := hide ((unhide HR).keep hb4)
  replace HB := hide ((unhide HB).trans hbu6)
  replace HZ := hide ((unhide HZ).but hbu6 hrne)
  replace HX2 := hide ((hbu6.block _ (blk (unhide HX2)).1 (Ne.symm ne2)).trans (unhide HX2))
  replace HT0 := hide ((unhide HT0).keep (Stays.but hbu6 (Nat.lt_succ_of_lt hr)) (Nat.le_refl _))
  replace HS := hide (Nat.lt_of_lt_of_le (unhide HS) hbu6.size)
  clear hb4 HC4
  have HC7 := hide (eat_any (unhide HR) (unhide HT) ⟨#[61, 61, 62]⟩)
  obtain ⟨bo7, hbo7⟩ : ∃ b, isD ts ⟨#[61, 61, 62]⟩ (S0) = b := ⟨_, rfl⟩
  unfold eatD at HC7
  rw [hbo7] at HC7
  have HO7 := hide hbo7
  clear hbo7
  go_wp2_with fail
  refine (unhide HC7).mono ?_
  rintro e w7 ⟨rfl, hb7, hR7⟩
  replace HB := hide ((unhide HB).trans hb7)
  replace HZ := hide ((unhide HZ).but hb7 hrne)
  replace HX2 := hide ((hb7.block _ (blk (unhide HX2)).1 (Ne.symm ne2)).trans (unhide HX2))
  replace HT0 := hide ((unhide HT0).keep (Stays.but hb7 (Nat.lt_succ_of_lt hr)) (Nat.le_refl _))
  replace HS := hide (Nat.lt_of_lt_of_le (unhide HS) hb7.size)
  replace HR := hide hR7
  have hY8 := unhide HY
  simp only [unhide HO7] at hY8
  replace HY := hide hY8
  clear hY8
  clear hb7 HC7 hR7
  rcases bo7 with _ | _
  rotate_left
  · have hY9 := unhide HY
    simp only [if_true] at hY9
    replace HY := hide hY9
    clear hY9
    have hRR := unhide HR
    rw [if_pos rfl] at hRR
    obtain ⟨S10, hS10⟩ : ∃ S, stepD ts (S0) = S := ⟨_, rfl⟩
    rw [hS10] at hRR
    replace HR := hide hRR
    have HSt10 := hide hS10
    have hY11 := unhide HY
    simp only [unhide HSt10] at hY11
    replace HY := hide hY11
    clear hY11
    clear hRR hS10
    have heS : Hid ((S10).e = 0) := by show _ = _; rw [← unhide HSt10, stepD_e]; exact isD_e (unhide HO7)
    have HSa := HS
    have hlt : Hid (w0.heap.size < w7.heap.size) := (blk (unhide HX2)).1
    have PHT0 := hide (IsEP.bnd (unhide HT0))
    obtain ⟨B12, eB12, hbB12, hsB12, hhB12⟩ := box_new w7 #[.int .i64 0, .string ⟨#[]⟩, .string ⟨#[]⟩, .bool false, .slice none 0 0, .int .i64 0, .int .i64 0] 51
    have ne12 : r ≠ w7.heap.size := by have := unhide HS; omega
    have hbu13 := But.of (r := r) hbB12
    replace HR := hide ((unhide HR).keep hbB12)
    replace HB := hide ((unhide HB).trans hbu13)
    replace HZ := hide ((unhide HZ).but hbu13 hrne)
    replace HX2 := hide ((hbu13.block _ (blk (unhide HX2)).1 (Ne.symm ne2)).trans (unhide HX2))
    replace HT0 := hide ((unhide HT0).keep (Stays.but hbu13 (Nat.lt_succ_of_lt hr)) (Nat.le_refl _))
    replace PHT0 := hide (IsEP.keep (unhide PHT0) ⟨hbu13.size, fun k hk hs => hbu13.block k hs (by have h1 : w.heap.size + 1 ≤ k := hk.1; omega)⟩ fun _ h => h)
    replace HS := hide (Nat.lt_of_lt_of_le (unhide HS) hbu13.size)
    have HX12 := hide hhB12
    have HEB12 := hide eB12
    have HSB12 := hide hsB12
    clear eB12 hbB12 hhB12 hsB12
    have HAB14 := hide (blk (unhide HX12)).1
    rcases unhide hU with hU1 | hU1
    · obtain ⟨hd1, hd2, hgU⟩ := hU1
      have HC14 := hide (down_no (unhide HR) (unhide HT) hd1 hd2)
      obtain ⟨SA14, hSA14⟩ : ∃ S, (S10).fail (tD ts (S10)).2.2 151 = S := ⟨_, rfl⟩
      rw [hSA14] at HC14
      have HSA14 := hide (And.intro (hgU (S10)) hSA14)
      have hY15 := unhide HY
      simp only [(unhide HSA14).1, (unhide HSA14).2] at hY15
      replace HY := hide hY15
      clear hY15
      have gd0 : (0 : Int) ≤ (d : Int) := by omega
      have gd1 : (d : Int) ≤ 100000 := by omega
      clear hgU hSA14 hd1 hd2
      go_wp2_with fail
      rw [unhide HEB12]
      refine (unhide HC14).mono ?_
      rintro e w14 ⟨rfl, hb14, hR14⟩
      replace HB := hide ((unhide HB).trans hb14)
      replace HZ := hide ((unhide HZ).but hb14 hrne)
      replace HX2 := hide ((hb14.block _ (blk (unhide HX2)).1 (Ne.symm ne2)).trans (unhide HX2))
      replace HX12 := hide ((hb14.block _ (blk (unhide HX12)).1 (Ne.symm ne12)).trans (unhide HX12))
      replace HT0 := hide ((unhide HT0).keep (Stays.but hb14 (Nat.lt_succ_of_lt hr)) (Nat.le_refl _))
      replace PHT0 := hide (IsEP.keep (unhide PHT0) ⟨hb14.size, fun k hk hs => hb14.block k hs (by have h1 : w.heap.size + 1 ≤ k := hk.1; omega)⟩ fun _ h => h)
      replace HS := hide (Nat.lt_of_lt_of_le (unhide HS) hb14.size)
      replace HR := hide hR14
      clear hb14 hR14 HC14 HSA14
      obtain ⟨gg16, gc16, x016, x116, x216, x316, x416, hc16, hl16, hf16, ht16⟩ := (unhide HR).facts (Below.refl _ _)
      have f416 := hf16 4
      clear hc16 hf16 ht16 x016 x116 x216 x316
      obtain ⟨y02, y12, y22, y32, y42, y52, y62⟩ := blk7 (unhide HX2)
      obtain ⟨y012, y112, y212, y312, y412, y512, y612⟩ := blk7 (unhide HX12)
      obtain ⟨V14, hV14⟩ : ∃ V, w14.setCell ⟨r, 4, none⟩ (.int .i64 (d : Int)) = V := ⟨_, rfl⟩
      have hbV14 : But r w14 V14 := by rw [← hV14]; exact (But.refl r w14).set _ _
      have hRV14 := (unhide HR).deep (e := d)
      rw [hV14] at hRV14
      have hsV14 : V14.heap.size = w14.heap.size := by rw [← hV14]; simp
      replace HB := hide ((unhide HB).trans hbV14)
      replace HZ := hide ((unhide HZ).but hbV14 hrne)
      replace HX2 := hide ((hbV14.block _ (blk (unhide HX2)).1 (Ne.symm ne2)).trans (unhide HX2))
      replace HX12 := hide ((hbV14.block _ (blk (unhide HX12)).1 (Ne.symm ne12)).trans (unhide HX12))
      replace HT0 := hide ((unhide HT0).keep (Stays.but hbV14 (Nat.lt_succ_of_lt hr)) (Nat.le_refl _))
      replace PHT0 := hide (IsEP.keep (unhide PHT0) ⟨hbV14.size, fun k hk hs => hbV14.block k hs (by have h1 : w.heap.size + 1 ≤ k := hk.1; omega)⟩ fun _ h => h)
      replace HS := hide (Nat.lt_of_lt_of_le (unhide HS) hbV14.size)
      replace HR := hide hRV14
      have HEV14 := hide hV14
      have HSV14 := hide hsV14
      clear hbV14 hRV14 hV14 hsV14
      have HTz14 := hide (leaf (W := V14) (lo := w.heap.size + 1) 0 0 ⟨#[]⟩ ⟨#[]⟩ false)
      obtain ⟨C17, eC17, hbC17, hsC17, hhC17⟩ := box_new V14 #[.int .i64 i0, .string s0, .string m0, .bool b0, .slice a0 n0 c0, .int .i64 0, .int .i64 j0, .int .i64 0, .string ⟨#[]⟩, .string ⟨#[]⟩, .bool false, .slice none 0 0, .int .i64 0, .int .i64 0] 51
      have hnode := node (l := [t0, zEx]) (vs := [[.int .i64 i0, .string s0, .string m0, .bool b0, .slice a0 n0 c0, .int .i64 0, .int .i64 j0], [.int .i64 0, .string ⟨#[]⟩, .string ⟨#[]⟩, .bool false, .slice none 0 0, .int .i64 0, .int .i64 0]]) 20 at4 ⟨#[]⟩ ⟨#[]⟩ false eC17 rfl (by simp) rfl (by simp) (unhide HS) (fun j v t hv ht => by
        rcases j with _ | _ | j
        · obtain rfl := Option.some.inj hv
          obtain rfl := Option.some.inj ht
          exact unhide HT0
        · obtain rfl := Option.some.inj hv
          obtain rfl := Option.some.inj ht
          exact unhide HTz14
        · simp at hv)
      rw [unhide HSV14] at hnode
      have hbu18 := But.of (r := r) hbC17
      replace HR := hide ((unhide HR).keep hbC17)
      replace HB := hide ((unhide HB).trans hbu18)
      replace HZ := hide ((unhide HZ).but hbu18 hrne)
      replace HX2 := hide ((hbu18.block _ (blk (unhide HX2)).1 (Ne.symm ne2)).trans (unhide HX2))
      replace HX12 := hide ((hbu18.block _ (blk (unhide HX12)).1 (Ne.symm ne12)).trans (unhide HX12))
      replace HS := hide (Nat.lt_of_lt_of_le (unhide HS) hbu18.size)
      obtain ⟨y0, y1, y2, y3, y4, y5, y6⟩ := blk7 (unhide HZ)
      obtain ⟨z0, z1, z2, z3, z4, z5, z6⟩ := frz7 (unhide HZ)
      rw [← eC17, ← unhide HEV14] at y0 y1 y2 y3 y4 y5 y6 z0 z1 z2 z3 z4 z5 z6
      have HNode := hide hnode
      have HEC := hide eC17
      clear hnode eC17 hbC17 hsC17 hhC17
      go_wp2
      rw [unhide HEV14, unhide HEC]
      rw [← unhide HQQ]
      exact dret_put rfl rfl rfl (unhide HB) hr (unhide HZ) (unhide HY).symm (unhide HR) (Nat.lt_succ_self _) (unhide HNode)
    · obtain ⟨hd1, X, hgX, hX⟩ := hU1
      have HC14 := hide (down_yes (unhide HR) hd1)
      rw [decide_eq_true (unhide heS)] at HC14
      have HGX := hide (And.intro (hgX (S10) (unhide heS)) hX)
      have gd0 : (0 : Int) ≤ (d : Int) := by omega
      have gd1 : (d : Int) < 200 := by omega
      clear hgX hX hd1
      go_wp2_with fail
      rw [unhide HEB12]
      refine (unhide HC14).mono ?_
      rintro e w14 ⟨rfl, hb14, hR14⟩
      replace HB := hide ((unhide HB).trans hb14)
      replace HZ := hide ((unhide HZ).but hb14 hrne)
      replace HX2 := hide ((hb14.block _ (blk (unhide HX2)).1 (Ne.symm ne2)).trans (unhide HX2))
      replace HX12 := hide ((hb14.block _ (blk (unhide HX12)).1 (Ne.symm ne12)).trans (unhide HX12))
      replace HT0 := hide ((unhide HT0).keep (Stays.but hb14 (Nat.lt_succ_of_lt hr)) (Nat.le_refl _))
      replace PHT0 := hide (IsEP.keep (unhide PHT0) ⟨hb14.size, fun k hk hs => hb14.block k hs (by have h1 : w.heap.size + 1 ≤ k := hk.1; omega)⟩ fun _ h => h)
      replace HS := hide (Nat.lt_of_lt_of_le (unhide HS) hb14.size)
      replace HR := hide hR14
      replace HAB14 := hide (Nat.lt_of_lt_of_le (unhide HAB14) hb14.size)
      clear hb14 hR14 HC14
      have HC19 := hide ((unhide HGX).2 w14 (S10) (unhide heS) (unhide HR))
      obtain ⟨⟨t19, S19⟩, hX19⟩ : ∃ Z, X (S10) = Z := ⟨_, rfl⟩
      rw [hX19] at HC19
      have HX19 := hide (And.intro (unhide HGX).1 hX19)
      have hY20 := unhide HY
      simp only [(unhide HX19).1, (unhide HX19).2] at hY20
      replace HY := hide hY20
      clear hY20
      clear hX19 HX19 HGX
      go_wp2_with fail
      refine (unhide HC19).mono ?_
      rintro e w19 ⟨hb19, hR19, v19, rfl, hv19⟩
      obtain ⟨i19, j19, s19, m19, b19, a19, n19, c19, rfl⟩ := hv19.form
      replace HB := hide ((unhide HB).trans hb19)
      replace HZ := hide ((unhide HZ).but hb19 hrne)
      replace HX2 := hide ((hb19.block _ (blk (unhide HX2)).1 (Ne.symm ne2)).trans (unhide HX2))
      replace HX12 := hide ((hb19.block _ (blk (unhide HX12)).1 (Ne.symm ne12)).trans (unhide HX12))
      replace HT0 := hide ((unhide HT0).keep (Stays.but hb19 (Nat.lt_succ_of_lt hr)) (Nat.le_refl _))
      replace PHT0 := hide (IsEP.keep (unhide PHT0) ⟨hb19.size, fun k hk hs => hb19.block k hs (by have h1 : w.heap.size + 1 ≤ k := hk.1; omega)⟩ fun _ h => h)
      replace HS := hide (Nat.lt_of_lt_of_le (unhide HS) hb19.size)
      replace HR := hide hR19
      obtain ⟨gg21, gc21, x021, x121, x221, x321, x421, hc21, hl21, hf21, ht21⟩ := (unhide HR).facts (Below.refl _ _)
      have f421 := hf21 4
      clear hc21 hf21 ht21 x021 x121 x221 x321
      obtain ⟨ya0, ya1, ya2, ya3, ya4, ya5, ya6⟩ := blk7 (unhide HX12)
      obtain ⟨za0, za1, za2, za3, za4, za5, za6⟩ := frz7 (unhide HX12)
      obtain ⟨U19, hU19⟩ : ∃ V, (((((((w19.setCell ⟨w7.heap.size, 0, none⟩ (.int .i64 i19)).setCell ⟨w7.heap.size, 1, none⟩ (.string s19)).setCell ⟨w7.heap.size, 2, none⟩ (.string m19)).setCell ⟨w7.heap.size, 3, none⟩ (.bool b19)).setCell ⟨w7.heap.size, 4, none⟩ (.slice a19 n19 c19)).setCell ⟨w7.heap.size, 5, none⟩ (.int .i64 0)).setCell ⟨w7.heap.size, 6, none⟩ (.int .i64 j19)) = V := ⟨_, rfl⟩
      obtain ⟨V14, hV14⟩ : ∃ V, U19.setCell ⟨r, 4, none⟩ (.int .i64 (d : Int)) = V := ⟨_, rfl⟩
      have hqU : w.heap.size < w7.heap.size := unhide HSa
      have hbU : But w7.heap.size w19 U19 := by rw [← hU19]; exact ((((((((But.refl w7.heap.size w19).set 0 _).set 1 _).set 2 _).set 3 _).set 4 _).set 5 _).set 6 _)
      have hbV : But r U19 V14 := by rw [← hV14]; exact (But.refl r U19).set _ _
      have hsU : U19.heap.size = w19.heap.size := by rw [← hU19]; simp
      have hsV : V14.heap.size = w19.heap.size := by rw [← hV14, ← hsU]; simp
      have hRU : PD U19 r ts S19 (d + 1) := (unhide HR).out (q := w.heap.size) hr fun k hk => hbU.block k (by have := unhide HS; omega) (by omega)
      have hRV := hRU.deep (e := d)
      rw [hV14] at hRV
      have hall : ∀ k, k < w19.heap.size → k ≠ w7.heap.size → k ≠ r → V14.heap[k]? = w19.heap[k]? := fun k hk h1 h2 => (hbV.block k (by omega) h2).trans (hbU.block k hk h1)
      replace HB : Hid (But r w V14) := ⟨hbV.os.trans (hbU.os.trans (unhide HB).os), hbV.tape.trans (hbU.tape.trans (unhide HB).tape), hbV.output.trans (hbU.output.trans (unhide HB).output), by have := (unhide HB).size; omega, fun k hk h2 => (hall k (by have := (unhide HB).size; omega) (by omega) h2).trans ((unhide HB).block k hk h2)⟩
      replace HZ : Hid (ZB V14 w.heap.size) := (hall _ (unhide HS) (by omega) (by omega)).trans (unhide HZ)
      replace HX2 := hide ((hall _ (blk (unhide HX2)).1 (by have := unhide hlt; omega) (Ne.symm ne2)).trans (unhide HX2))
      replace HX12 : Hid (V14.heap[w7.heap.size]? = some (.cells #[.int .i64 i19, .string s19, .string m19, .bool b19, .slice a19 n19 c19, .int .i64 0, .int .i64 j19] 51)) := by show _ = _; rw [hbV.block _ (by have := (blk (unhide HX12)).1; omega) (Ne.symm ne12), ← hU19]; exact fill7 (unhide HX12)
      replace HT0 : Hid (IsE V14 (w.heap.size + 1) (.agg #[.int .i64 i0, .string s0, .string m0, .bool b0, .slice a0 n0 c0, .int .i64 0, .int .i64 j0]) t0) := IsEP.keep (unhide PHT0) ⟨by omega, fun k hk hs => hall k hs (by have h1 : k < w7.heap.size := hk.2; omega) (by have h1 : w.heap.size + 1 ≤ k := hk.1; omega)⟩ (fun b hb => hb.1)
      have HT19 := hide (hv19.keep (w' := V14) (lo' := w.heap.size + 1) ⟨by omega, fun k h1 h2 => hall k h2 (by have := unhide HAB14; omega) (by have := unhide HAB14; omega)⟩ (by have := unhide HAB14; omega))
      replace HS : Hid (w.heap.size < V14.heap.size) := by have := unhide HS; show _ < _; omega
      replace HR := hide hRV
      have HEU := hide hU19
      have HEV14 := hide hV14
      have HSV14 : Hid (V14.heap.size = w19.heap.size) := hsV
      clear hb19 hR19 hv19 HC19 hqU hbU hbV hsU hsV hRU hRV hall hU19 hV14
      obtain ⟨y02, y12, y22, y32, y42, y52, y62⟩ := blk7 (unhide HX2)
      rw [← unhide HEV14, ← unhide HEU] at y02 y12 y22 y32 y42 y52 y62
      obtain ⟨C22, eC22, hbC22, hsC22, hhC22⟩ := box_new V14 #[.int .i64 i0, .string s0, .string m0, .bool b0, .slice a0 n0 c0, .int .i64 0, .int .i64 j0, .int .i64 i19, .string s19, .string m19, .bool b19, .slice a19 n19 c19, .int .i64 0, .int .i64 j19] 51
      have hnode := node (l := [t0, t19]) (vs := [[.int .i64 i0, .string s0, .string m0, .bool b0, .slice a0 n0 c0, .int .i64 0, .int .i64 j0], [.int .i64 i19, .string s19, .string m19, .bool b19, .slice a19 n19 c19, .int .i64 0, .int .i64 j19]]) 20 at4 ⟨#[]⟩ ⟨#[]⟩ false eC22 rfl (by simp) rfl (by simp) (unhide HS) (fun j v t hv ht => by
        rcases j with _ | _ | j
        · obtain rfl := Option.some.inj hv
          obtain rfl := Option.some.inj ht
          exact unhide HT0
        · obtain rfl := Option.some.inj hv
          obtain rfl := Option.some.inj ht
          exact unhide HT19
        · simp at hv)
      rw [unhide HSV14] at hnode
      have hbu23 := But.of (r := r) hbC22
      replace HR := hide ((unhide HR).keep hbC22)
      replace HB := hide ((unhide HB).trans hbu23)
      replace HZ := hide ((unhide HZ).but hbu23 hrne)
      replace HX2 := hide ((hbu23.block _ (blk (unhide HX2)).1 (Ne.symm ne2)).trans (unhide HX2))
      replace HX12 := hide ((hbu23.block _ (blk (unhide HX12)).1 (Ne.symm ne12)).trans (unhide HX12))
      replace HS := hide (Nat.lt_of_lt_of_le (unhide HS) hbu23.size)
      obtain ⟨y0, y1, y2, y3, y4, y5, y6⟩ := blk7 (unhide HZ)
      obtain ⟨z0, z1, z2, z3, z4, z5, z6⟩ := frz7 (unhide HZ)
      rw [← eC22, ← unhide HEV14, ← unhide HEU] at y0 y1 y2 y3 y4 y5 y6 z0 z1 z2 z3 z4 z5 z6
      have HNode := hide hnode
      have HEC := hide eC22
      clear hnode eC22 hbC22 hsC22 hhC22
      go_wp2
      rw [unhide HEU, unhide HEV14, unhide HEC]
      rw [← unhide HQQ]
      exact dret_put rfl rfl rfl (unhide HB) hr (unhide HZ) (unhide HY).symm (unhide HR) (Nat.lt_succ_self _) (unhide HNode)
  have hY24 := unhide HY
  simp only [Bool.false_eq_true, if_false] at hY24
  replace HY := hide hY24
  clear hY24
  have hRR := unhide HR
  rw [if_neg Bool.false_ne_true] at hRR
  replace HR := hide hRR
  clear hRR
  obtain ⟨y02, y12, y22, y32, y42, y52, y62⟩ := blk7 (unhide HX2)
  obtain ⟨y0, y1, y2, y3, y4, y5, y6⟩ := blk7 (unhide HZ)
  obtain ⟨z0, z1, z2, z3, z4, z5, z6⟩ := frz7 (unhide HZ)
  have HNode := hide (unhide HT0)
  go_wp2
  rw [← unhide HQQ]
  exact dret_put rfl rfl rfl (unhide HB) hr (unhide HZ) (unhide HY).symm (unhide HR) (Nat.lt_succ_self _) (unhide HNode)
end Go.Proofs.YtljhpbjngbbjbaaDoor
