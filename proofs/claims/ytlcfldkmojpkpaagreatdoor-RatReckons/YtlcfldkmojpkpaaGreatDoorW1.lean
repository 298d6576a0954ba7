/- Quo: the quotient of two numbers, and what is left. -/
import Derived.Test.YtlcfldkmojpkpaaGreatDoorU
import Derived.Test.YtlcfldkmojpkpaaGreatDoorV
import Derived.Test.YtlcfldkmojpkpaaGreatDoorT1
namespace Go.Proofs.YtlcfldkmojpkpaaGreatDoor
open Go.RowKit
attribute [local go_sem] eqnil_some eqnil_none nenil_some nenil_none

/-- The boxes of two numbers and the cells of two results. -/
structure Set4 (w W0 : World) (c0 c1 d0 d1 : Value) : Prop where
  bel : Below w.heap.size w W0
  a0 : W0.cell? ⟨w.heap.size, 0, none⟩ = some c0
  a1 : W0.cell? ⟨w.heap.size, 1, none⟩ = some c1
  b0 : W0.cell? ⟨w.heap.size + 1, 0, none⟩ = some d0
  b1 : W0.cell? ⟨w.heap.size + 1, 1, none⟩ = some d1
  r0 : W0.cell? ⟨w.heap.size + 1 + 1, 0, none⟩ = some (.int .i64 0)
  r1 : W0.cell? ⟨w.heap.size + 1 + 1, 1, none⟩ = some (.slice none 0 0)
  s0 : W0.cell? ⟨w.heap.size + 1 + 1 + 1, 0, none⟩ = some (.int .i64 0)
  s1 : W0.cell? ⟨w.heap.size + 1 + 1 + 1, 1, none⟩ = some (.slice none 0 0)
  rf : ∀ o, W0.frozen? ⟨w.heap.size + 1 + 1, o, none⟩ = false
  sf : ∀ o, W0.frozen? ⟨w.heap.size + 1 + 1 + 1, o, none⟩ = false
  rb : W0.heap[w.heap.size + 1 + 1]? = some (.cells #[.int .i64 0, .slice none 0 0] 26)
  sb : W0.heap[w.heap.size + 1 + 1 + 1]? = some (.cells #[.int .i64 0, .slice none 0 0] 26)
  z : w.heap.size + 1 + 1 + 1 < W0.heap.size
theorem setup4 (w : World) (c0 c1 d0 d1 : Value) : ∃ W0, (((w.alloc (Obj.cells #[c0, c1] 26)).alloc (Obj.cells #[d0, d1] 26)).alloc (Obj.cells #[.int .i64 0, .slice none 0 0] 26)).alloc (Obj.cells #[.int .i64 0, .slice none 0 0] 26) = W0 ∧ Set4 w W0 c0 c1 d0 d1 := by
  obtain ⟨W1, h1, S⟩ := setup2 w c0 c1 d0 d1
  have hsz : W1.heap.size = w.heap.size + 1 + 1 + 1 := by rw [← h1]; simp
  rw [h1]
  have fR := box_facts W1 (.int .i64 0) (.slice none 0 0) 26
  have frf : ∀ o, W1.frozen? ⟨w.heap.size + 1 + 1, o, none⟩ = false := fun o => by
    rw [← h1]; exact World.frozen?_alloc_at _ _ _ _ (by simp)
  rw [hsz] at fR
  refine ⟨_, rfl, S.bel.alloc (by omega) _, ?_, ?_, ?_, ?_, ?_, ?_, fR.1, fR.2.1, fun o => ?_, fR.2.2, ?_, top_block _ _ hsz, by simp <;> omega⟩
  · rw [World.cell?_alloc_past _ _ _ S.z0]; exact S.a0
  · rw [World.cell?_alloc_past _ _ _ S.z0]; exact S.a1
  · rw [World.cell?_alloc_past _ _ _ S.z1]; exact S.b0
  · rw [World.cell?_alloc_past _ _ _ S.z1]; exact S.b1
  · rw [World.cell?_alloc_past _ _ _ S.z2]; exact S.r0
  · rw [World.cell?_alloc_past _ _ _ S.z2]; exact S.r1
  · rw [World.frozen?_alloc_past _ _ _ S.z2]; exact frf o
  · rw [Below.heap_alloc _ _ _ S.z2]; exact S.rb
theorem Set4.below {w W0 W1 : World} {c0 c1 d0 d1 : Value} (S : Set4 w W0 c0 c1 d0 d1) (h : Below W0.heap.size W0 W1) : Set4 w W1 c0 c1 d0 d1 := by
  have hz := S.z
  have hz0 : w.heap.size < W0.heap.size := by omega
  have hz1 : w.heap.size + 1 < W0.heap.size := by omega
  have hz2 : w.heap.size + 1 + 1 < W0.heap.size := by omega
  exact ⟨S.bel.trans (h.mono (by omega)), (h.cell (p := ⟨w.heap.size, 0, none⟩) hz0).trans S.a0, (h.cell (p := ⟨w.heap.size, 1, none⟩) hz0).trans S.a1, (h.cell (p := ⟨w.heap.size + 1, 0, none⟩) hz1).trans S.b0, (h.cell (p := ⟨w.heap.size + 1, 1, none⟩) hz1).trans S.b1,
    (h.cell (p := ⟨w.heap.size + 1 + 1, 0, none⟩) hz2).trans S.r0, (h.cell (p := ⟨w.heap.size + 1 + 1, 1, none⟩) hz2).trans S.r1, (h.cell (p := ⟨w.heap.size + 1 + 1 + 1, 0, none⟩) hz).trans S.s0, (h.cell (p := ⟨w.heap.size + 1 + 1 + 1, 1, none⟩) hz).trans S.s1,
    fun o => (h.frozen (p := ⟨w.heap.size + 1 + 1, o, none⟩) hz2).trans (S.rf o), fun o => (h.frozen (p := ⟨w.heap.size + 1 + 1 + 1, o, none⟩) hz).trans (S.sf o), (h.block _ hz2).trans S.rb, (h.block _ hz).trans S.sb, Nat.lt_of_lt_of_le hz h.size⟩
/-- Two results written. -/
theorem ret_store2 {w w1 : World} {c0 c1 d0 d1 : Value} (S : Set4 w w1 c0 c1 d0 d1) {r1 r2 : Value} {y1 y2 : Int} (h1 : IsI w1 r1 y1) (h2 : IsI w1 r2 y2) (u0 u1 v0 v1 : Value) :
    Below w.heap.size w ((((w1.setCell ⟨w.heap.size + 1 + 1, 0, none⟩ u0).setCell ⟨w.heap.size + 1 + 1, 1, none⟩ u1).setCell ⟨w.heap.size + 1 + 1 + 1, 0, none⟩ v0).setCell ⟨w.heap.size + 1 + 1 + 1, 1, none⟩ v1) ∧
    IsI ((((w1.setCell ⟨w.heap.size + 1 + 1, 0, none⟩ u0).setCell ⟨w.heap.size + 1 + 1, 1, none⟩ u1).setCell ⟨w.heap.size + 1 + 1 + 1, 0, none⟩ v0).setCell ⟨w.heap.size + 1 + 1 + 1, 1, none⟩ v1) r1 y1 ∧
    IsI ((((w1.setCell ⟨w.heap.size + 1 + 1, 0, none⟩ u0).setCell ⟨w.heap.size + 1 + 1, 1, none⟩ u1).setCell ⟨w.heap.size + 1 + 1 + 1, 0, none⟩ v0).setCell ⟨w.heap.size + 1 + 1 + 1, 1, none⟩ v1) r2 y2 := by
  have hsb : ((w1.setCell ⟨w.heap.size + 1 + 1, 0, none⟩ u0).setCell ⟨w.heap.size + 1 + 1, 1, none⟩ u1).heap[w.heap.size + 1 + 1 + 1]? = some (.cells #[.int .i64 0, .slice none 0 0] 26) := by
    rw [Below.heap_setCell _ _ _ _ (by simp), Below.heap_setCell _ _ _ _ (by simp)]
    exact S.sb
  exact ⟨(((S.bel.setCell (p := ⟨w.heap.size + 1 + 1, 0, none⟩) (by simp <;> omega) _).setCell (p := ⟨w.heap.size + 1 + 1, 1, none⟩) (by simp <;> omega) _).setCell (p := ⟨w.heap.size + 1 + 1 + 1, 0, none⟩) (by simp <;> omega) _).setCell (p := ⟨w.heap.size + 1 + 1 + 1, 1, none⟩) (by simp <;> omega) _, (h1.store S.rb u0 u1).store hsb v0 v1, (h2.store S.rb u0 u1).store hsb v0 v1⟩

theorem div_mod_of {a b q r : Int} (h : a = b * q + r) (r0 : 0 ≤ r) (r1 : r < b.natAbs) : a / b = q ∧ a % b = r := by
  by_cases hb : 0 < b
  · exact (Int.ediv_emod_unique hb).2 ⟨by omega, r0, by omega⟩
  · have hb2 : b < 0 := by omega
    have h2 := (Int.ediv_emod_unique (a := a) (b := -b) (r := r) (q := -q) (by omega)).2 ⟨by rw [Int.neg_mul_neg]; omega, r0, by omega⟩
    rw [Int.ediv_neg, Int.emod_neg] at h2
    exact ⟨by omega, h2.2⟩
theorem sgn_beq {z : Int} (h : z ≠ 0) : (sgn z == 0) = false := by
  have := sgn_lt z
  simp
  omega
theorem val_abs {xs : List Int} (h : 0 ≤ val xs) : val xs = ((val xs).natAbs : Int) := by omega
theorem lt_pw {xs ys : List Int} {z zb : Int} (hx : val xs = (z.natAbs : Int)) (h : val xs < val ys) (hy : val ys = (zb.natAbs : Int)) (hz : (zb.natAbs : Int) < pw 4000) : (z.natAbs : Int) < pw 4000 := by
  rw [← hx]; exact Int.lt_trans h (by rw [hy]; exact hz)
theorem quo_neg {na nb za zb : Int} {xs ys qs rs q5 r6 : List Int} (hneg : za < 0) (h1 : (na < 0) = (za < 0)) (h2 : (nb < 0) = (zb < 0)) (hx : val xs = za.natAbs) (hy : val ys = zb.natAbs) (h7 : val qs * val ys + val rs = val xs) (h8 : val rs < val ys) (hr : 0 < val rs) (h5 : val q5 = val qs + val [1]) (h6 : val r6 = val ys - val rs) :
    (if (!(decide (na < 0) == decide (nb < 0))) = true then - val q5 else val q5) = za / zb ∧ val r6 = za % zb := by
  have e1 : val [1] = 1 := by simp [val]
  rw [e1] at h5
  rw [hy] at h7 h8 h6
  rw [hx] at h7
  have hm : (val qs + 1) * (zb.natAbs : Int) = val qs * zb.natAbs + zb.natAbs := by rw [Int.add_mul]; omega
  by_cases hb : zb < 0
  · have hb' : (zb.natAbs : Int) = -zb := by omega
    have h9 := div_mod_of (a := za) (b := zb) (q := val q5) (r := val r6) (by
      rw [h5, h6, Int.mul_comm zb]
      rw [hb'] at hm h7 ⊢
      simp only [Int.mul_neg] at hm h7
      omega) (by omega) (by omega)
    rw [if_neg (by simp [h1, h2, hneg, hb])]
    exact ⟨h9.1.symm, h9.2.symm⟩
  · have hb' : (zb.natAbs : Int) = zb := by omega
    have h9 := div_mod_of (a := za) (b := zb) (q := - val q5) (r := val r6) (by
      rw [h5, h6, Int.mul_comm zb, Int.neg_mul]
      rw [hb'] at hm h7 ⊢
      omega) (by omega) (by omega)
    rw [if_pos (by simp [h1, h2, hneg, hb])]
    exact ⟨h9.1.symm, h9.2.symm⟩
theorem quo_pos {na nb za zb : Int} {xs ys qs rs : List Int} (hsk : za < 0 → val rs = 0) (h1 : (na < 0) = (za < 0)) (h2 : (nb < 0) = (zb < 0)) (hx : val xs = za.natAbs) (hy : val ys = zb.natAbs) (h7 : val qs * val ys + val rs = val xs) (h8 : val rs < val ys) (hr : 0 ≤ val rs) :
    (if (!(decide (na < 0) == decide (nb < 0))) = true then - val qs else val qs) = za / zb ∧ val rs = za % zb := by
  rw [hy] at h7 h8
  rw [hx] at h7
  by_cases ha : za < 0
  · have hs := hsk ha
    by_cases hb : zb < 0
    · have hb' : (zb.natAbs : Int) = -zb := by omega
      have h9 := div_mod_of (a := za) (b := zb) (q := val qs) (r := val rs) (by
        rw [Int.mul_comm zb]
        rw [hb', Int.mul_neg] at h7
        omega) hr (by omega)
      rw [if_neg (by simp [h1, h2, ha, hb])]
      exact ⟨h9.1.symm, h9.2.symm⟩
    · have hb' : (zb.natAbs : Int) = zb := by omega
      have h9 := div_mod_of (a := za) (b := zb) (q := - val qs) (r := val rs) (by
        rw [Int.mul_comm zb, Int.neg_mul]
        rw [hb'] at h7
        omega) hr (by omega)
      rw [if_pos (by simp [h1, h2, ha, hb])]
      exact ⟨h9.1.symm, h9.2.symm⟩
  · by_cases hb : zb < 0
    · have hb' : (zb.natAbs : Int) = -zb := by omega
      have h9 := div_mod_of (a := za) (b := zb) (q := - val qs) (r := val rs) (by
        rw [Int.mul_comm zb, Int.neg_mul]
        rw [hb', Int.mul_neg] at h7
        omega) hr (by omega)
      rw [if_pos (by simp [h1, h2, ha, hb])]
      exact ⟨h9.1.symm, h9.2.symm⟩
    · have hb' : (zb.natAbs : Int) = zb := by omega
      have h9 := div_mod_of (a := za) (b := zb) (q := val qs) (r := val rs) (by
        rw [Int.mul_comm zb]
        rw [hb'] at h7
        omega) hr (by omega)
      rw [if_neg (by simp [h1, h2, ha, hb])]
      exact ⟨h9.1.symm, h9.2.symm⟩

set_option maxRecDepth 100000 in
set_option maxHeartbeats 4000000 in
theorem quo_big1 (hql : QuoLongSaid) (na nb : Int) (ada : Addr) (la ca : Nat) (ab : Option Addr) (lb cb : Nat) (za zb : Int) (w : World) (hA : IsI w (.agg #[.int .i64 na, .slice (some ada) la ca]) za) (hB : IsI w (.agg #[.int .i64 nb, .slice ab lb cb]) zb) (hza : (za.natAbs : Int) < pw 4000) (hzb : (zb.natAbs : Int) < pw 4000) (hzb0 : zb ≠ 0) :
    Calls Tryz.prog 72 #[.agg #[.int .i64 na, .slice (some ada) la ca], .agg #[.int .i64 nb, .slice ab lb cb]] w fun e w' => ∃ r1 r2, e = .returned (.tuple #[r1, r2]) ∧ Below w.heap.size w w' ∧ IsI w' r1 (za / zb) ∧ IsI w' r2 (za % zb) := by
  have hs0 := sgn_beq hzb0
  have HB0 := hide hzb0
  have HZA := hide hza
  have HZB := hide hzb
  have HN := hide (And.intro hA.below0 hB.below0)
  clear hzb0 hza hzb
  obtain ⟨W1, hW0, S0⟩ := setup4 w (.int .i64 na) (.slice (some ada) la ca) (.int .i64 nb) (.slice ab lb cb)
  have HW := hide hW0
  clear hW0
  have gA0 := S0.a0
  have gA1 := S0.a1
  have gB0 := S0.b0
  have gB1 := S0.b1
  have gR0 := S0.r0
  have gR1 := S0.r1
  have gS0 := S0.s0
  have gS1 := S0.s1
  have gf0 := S0.rf 0
  have gf1 := S0.rf 1
  have gg0 := S0.sf 0
  have gg1 := S0.sf 1
  go_enter Tryz.func72, Tryz.ntmps72
  go_wp2_with fail
  rw [unhide HW]
  refine (sign_any _ zb _ (hB.below S0.bel)).mono ?_
  rintro e w1 ⟨rfl, hb1⟩
  have S1 := S0.below hb1
  clear gA0 gA1 gB0 gB1 gR0 gR1 gS0 gS1 gf0 gf1 gg0 gg1
  have gA0 := S1.a0
  have gA1 := S1.a1
  have gB0 := S1.b0
  have gB1 := S1.b1
  have gR0 := S1.r0
  have gR1 := S1.r1
  have gS0 := S1.s0
  have gS1 := S1.s1
  have gf0 := S1.rf 0
  have gf1 := S1.rf 1
  have gg0 := S1.sf 0
  have gg1 := S1.sf 1
  go_wp2_with fail
  refine (magnitude_any _ zb _ (hB.below S1.bel)).mono ?_
  rintro e w2 ⟨my, ys, rfl, hb2, hmy, hdy, hny, hvy⟩
  have HVY := hide hvy
  clear hvy
  have S2 := S1.below hb2
  clear gA0 gA1 gB0 gB1 gR0 gR1 gS0 gS1 gf0 gf1 gg0 gg1
  have gA0 := S2.a0
  have gA1 := S2.a1
  have gB0 := S2.b0
  have gB1 := S2.b1
  have gR0 := S2.r0
  have gR1 := S2.r1
  have gS0 := S2.s0
  have gS1 := S2.s1
  have gf0 := S2.rf 0
  have gf1 := S2.rf 1
  have gg0 := S2.sf 0
  have gg1 := S2.sf 1
  go_wp2_with fail
  refine (magnitude_any _ za _ (hA.below S2.bel)).mono ?_
  rintro e w3 ⟨mx, xs, rfl, hb3, hmx, hdx, hnx, hvx⟩
  have HVX := hide hvx
  clear hvx
  have S3 := S2.below hb3
  clear gA0 gA1 gB0 gB1 gR0 gR1 gS0 gS1 gf0 gf1 gg0 gg1
  have gA0 := S3.a0
  have gA1 := S3.a1
  have gB0 := S3.b0
  have gB1 := S3.b1
  have gR0 := S3.r0
  have gR1 := S3.r1
  have gS0 := S3.s0
  have gS1 := S3.s1
  have gf0 := S3.rf 0
  have gf1 := S3.rf 1
  have gg0 := S3.sf 0
  have gg1 := S3.sf 1
  have hly := lenk hdy hny (unhide HVY) (unhide HZB)
  have hlx := lenk hdx hnx (unhide HVX) (unhide HZA)
  have hyne : ys ≠ [] := by
    rintro rfl
    have h8 := unhide HVY
    have h9 := unhide HB0
    simp only [val] at h8
    omega
  have HYN := hide hyne
  go_wp2_with fail
  refine (quoMag_any hql _ _ xs ys w3 hmx (hmy.below hb3) hdx hdy hnx hny hlx hly hyne).mono ?_
  rintro e w4 ⟨q, r, qs, rs, rfl, hb4, p1, p2, p3, p4, p5, p6, p7, p8, p9⟩
  have HP7 := hide p7
  have HP8 := hide p8
  clear p7 p8
  have S4 := S3.below hb4
  have hmy4 := (hmy.below hb3).below hb4
  clear gA0 gA1 gB0 gB1 gR0 gR1 gS0 gS1 gf0 gf1 gg0 gg1
  have gA0 := S4.a0
  have gA1 := S4.a1
  have gB0 := S4.b0
  have gB1 := S4.b1
  have gR0 := S4.r0
  have gR1 := S4.r1
  have gS0 := S4.s0
  have gS1 := S4.s1
  have gf0 := S4.rf 0
  have gf1 := S4.rf 1
  have gg0 := S4.sf 0
  have gg1 := S4.sf 1
  obtain ⟨aq, cq, rfl, hcq, haq⟩ := id p1
  obtain ⟨ar, cr, rfl, hcr, har⟩ := id p4
  clear haq har hcq hcr
  have hq0 := val_nonneg p2
  have hr0 := val_nonneg p5
  by_cases hcase : za < 0 ∧ rs ≠ []
  · obtain ⟨hneg, hrne⟩ := hcase
    have hna : na < 0 := by have := (unhide HN).1; rw [this]; exact hneg
    have hrl : 0 < rs.length := List.length_pos_iff.2 hrne
    have hrv : 0 < val rs := by
      have := le_val p5 p6 hrne
      have := pw_pos (rs.length - 1)
      omega
    have HRV := hide hrv
    clear hrv hyne hrne
    go_wp2_with fail
    have hone : Mg (w4.alloc (Obj.cells #[.int .u32 1] 88)) (.slice (some ⟨w4.heap.size, 0, none⟩) 1 1) [1] :=
      ⟨_, 1, rfl, Nat.le_refl _, fun _ => ⟨w4.heap.size, 0, rfl, by simp, fun j hj => by
        have hj0 : j = 0 := by simpa using hj
        subst hj0
        rw [World.cell?_alloc_at _ _ _ _ rfl]
        rfl⟩⟩
    have hb45 : Below w4.heap.size w4 (w4.alloc (Obj.cells #[.int .u32 1] 88)) := (Below.refl _ _).alloc (Nat.le_refl _) _
    refine (addMag_any _ _ qs [1] _ (p1.below hb45) hone p2 (Dig.one (by omega) (by omega)) (by omega) (by simp)).mono ?_
    rintro e w5 ⟨m5, q5, rfl, hb5, t1, t2, t3, t4, t5⟩
    have HT4 := hide t4
    clear t4
    have hb5' := hb45.trans (hb5.mono (by simp))
    have S5 := S4.below hb5'
    clear gA0 gA1 gB0 gB1 gR0 gR1 gS0 gS1 gf0 gf1 gg0 gg1
    have gA0 := S5.a0
    have gA1 := S5.a1
    have gB0 := S5.b0
    have gB1 := S5.b1
    have gR0 := S5.r0
    have gR1 := S5.r1
    have gS0 := S5.s0
    have gS1 := S5.s1
    have gf0 := S5.rf 0
    have gf1 := S5.rf 1
    have gg0 := S5.sf 0
    have gg1 := S5.sf 1
    have hrsl : rs.length ≤ ys.length := len_mono hdy p5 p6 (Int.le_of_lt (unhide HP8))
    go_wp2_with fail
    refine (subMag_any _ _ ys rs _ (hmy4.below hb5') (p4.below hb5') hdy p5 hly hrsl (unhide HYN) (Int.le_of_lt (unhide HP8))).mono ?_
    rintro e w6 ⟨m6, r6, rfl, hb6, u1, u2, u3, u4, u5⟩
    have HU4 := hide u4
    clear u4
    have S6 := S5.below hb6
    have ht1 := t1.below hb6
    clear gA0 gA1 gB0 gB1 gR0 gR1 gS0 gS1 gf0 gf1 gg0 gg1
    have gA0 := S6.a0
    have gA1 := S6.a1
    have gB0 := S6.b0
    have gB1 := S6.b1
    have gR0 := S6.r0
    have gR1 := S6.r1
    have gS0 := S6.s0
    have gS1 := S6.s1
    have gf0 := S6.rf 0
    have gf1 := S6.rf 1
    have gg0 := S6.sf 0
    have gg1 := S6.sf 1
    go_wp2_with fail
    refine (ofMag_any _ _ q5 _ ht1 t2 t3 (by simp at t5; omega)).mono ?_
    rintro e w7 ⟨g1, rfl, hb7, hI7⟩
    obtain ⟨n7, a7, l7, c7, rfl⟩ := hI7.form
    have HI7 := hide hI7
    clear hI7
    have S7 := S6.below hb7
    have hu1 := u1.below hb7
    clear gA0 gA1 gB0 gB1 gR0 gR1 gS0 gS1 gf0 gf1 gg0 gg1
    have gA0 := S7.a0
    have gA1 := S7.a1
    have gB0 := S7.b0
    have gB1 := S7.b1
    have gR0 := S7.r0
    have gR1 := S7.r1
    have gS0 := S7.s0
    have gS1 := S7.s1
    have gf0 := S7.rf 0
    have gf1 := S7.rf 1
    have gg0 := S7.sf 0
    have gg1 := S7.sf 1
    go_wp2_with fail
    refine (ofMag_any _ _ r6 _ hu1 u2 u3 (by omega)).mono ?_
    rintro e w8 ⟨g2, rfl, hb8, hI8⟩
    obtain ⟨n8, a8, l8, c8, rfl⟩ := hI8.form
    have HI8 := hide hI8
    clear hI8
    have S8 := S7.below hb8
    clear gA0 gA1 gB0 gB1 gR0 gR1 gS0 gS1 gf0 gf1 gg0 gg1
    have gA0 := S8.a0
    have gA1 := S8.a1
    have gB0 := S8.b0
    have gB1 := S8.b1
    have gR0 := S8.r0
    have gR1 := S8.r1
    have gS0 := S8.s0
    have gS1 := S8.s1
    have gf0 := S8.rf 0
    have gf1 := S8.rf 1
    have gg0 := S8.sf 0
    have gg1 := S8.sf 1
    go_wp2
    refine bodyPost_ret (v := .tuple #[.agg #[.int .i64 n7, .slice a7 l7 c7], .agg #[.int .i64 n8, .slice a8 l8 c8]]) ?_ rfl ?_
    · simp [results, Tryz.results72, go_sem, gR0, gR1, gS0, gS1]
    · have h7 := (unhide HI7).below hb8
      have h8 := unhide HI8
      have e9 := quo_neg hneg (unhide HN).1 (unhide HN).2 (unhide HVX) (unhide HVY) (unhide HP7) (unhide HP8) (unhide HRV) (unhide HT4) (unhide HU4)
      have e10 := e9.1
      rw [show decide (na < 0) = true from decide_eq_true hna] at e10
      simp only [Bool.true_beq] at e10
      rw [e10] at h7
      simp only [Bool.false_eq_true, if_false] at h8
      rw [e9.2] at h8
      have hst := ret_store2 S8 h7 h8 (.int .i64 n7) (.slice a7 l7 c7) (.int .i64 n8) (.slice a8 l8 c8)
      exact ⟨_, _, rfl, hst.1, hst.2.1, hst.2.2⟩
  · have hsk : Hid (za < 0 → val rs = 0) := fun h => by
      have : rs = [] := Classical.byContradiction fun h2 => hcase ⟨h, h2⟩
      rw [this]; rfl
    have hgd : na < 0 → rs.length = 0 := fun h => by
      have h2 : za < 0 := by have := (unhide HN).1; rw [← this]; exact h
      have : rs = [] := Classical.byContradiction fun h3 => hcase ⟨h2, h3⟩
      rw [this]; rfl
    clear hcase
    by_cases hna : na < 0
    · obtain rfl : rs = [] := List.eq_nil_of_length_eq_zero (hgd hna)
      clear hyne
      clear hgd
      go_wp2_with fail
      refine (ofMag_any _ _ qs _ p1 p2 p3 (by omega)).mono ?_
      rintro e w7 ⟨g1, rfl, hb7, hI7⟩
      obtain ⟨n7, a7, l7, c7, rfl⟩ := hI7.form
      have HI7 := hide hI7
      clear hI7
      have S7 := S4.below hb7
      have hu1 := p4.below hb7
      clear gA0 gA1 gB0 gB1 gR0 gR1 gS0 gS1 gf0 gf1 gg0 gg1
      have gA0 := S7.a0
      have gA1 := S7.a1
      have gB0 := S7.b0
      have gB1 := S7.b1
      have gR0 := S7.r0
      have gR1 := S7.r1
      have gS0 := S7.s0
      have gS1 := S7.s1
      have gf0 := S7.rf 0
      have gf1 := S7.rf 1
      have gg0 := S7.sf 0
      have gg1 := S7.sf 1
      go_wp2_with fail
      refine (ofMag_any _ _ [] _ hu1 p5 p6 (by simp)).mono ?_
      rintro e w8 ⟨g2, rfl, hb8, hI8⟩
      obtain ⟨n8, a8, l8, c8, rfl⟩ := hI8.form
      have HI8 := hide hI8
      clear hI8
      have S8 := S7.below hb8
      clear gA0 gA1 gB0 gB1 gR0 gR1 gS0 gS1 gf0 gf1 gg0 gg1
      have gA0 := S8.a0
      have gA1 := S8.a1
      have gB0 := S8.b0
      have gB1 := S8.b1
      have gR0 := S8.r0
      have gR1 := S8.r1
      have gS0 := S8.s0
      have gS1 := S8.s1
      have gf0 := S8.rf 0
      have gf1 := S8.rf 1
      have gg0 := S8.sf 0
      have gg1 := S8.sf 1
      go_wp2
      refine bodyPost_ret (v := .tuple #[.agg #[.int .i64 n7, .slice a7 l7 c7], .agg #[.int .i64 n8, .slice a8 l8 c8]]) ?_ rfl ?_
      · simp [results, Tryz.results72, go_sem, gR0, gR1, gS0, gS1]
      · have h7 := (unhide HI7).below hb8
        have h8 := unhide HI8
        have e9 := quo_pos (unhide hsk) (unhide HN).1 (unhide HN).2 (unhide HVX) (unhide HVY) (unhide HP7) (unhide HP8) hr0
        have e10 := e9.1
        rw [show decide (na < 0) = true from decide_eq_true hna] at e10
        simp only [Bool.true_beq] at e10
        rw [e10] at h7
        simp only [Bool.false_eq_true, if_false] at h8
        rw [e9.2] at h8
        have hst := ret_store2 S8 h7 h8 (.int .i64 n7) (.slice a7 l7 c7) (.int .i64 n8) (.slice a8 l8 c8)
        exact ⟨_, _, rfl, hst.1, hst.2.1, hst.2.2⟩
    · have hda : decide (na < 0) = false := by simpa using hna
      clear hyne
      clear hgd
      go_wp2_with fail
      refine (ofMag_any _ _ qs _ p1 p2 p3 (by omega)).mono ?_
      rintro e w7 ⟨g1, rfl, hb7, hI7⟩
      obtain ⟨n7, a7, l7, c7, rfl⟩ := hI7.form
      have HI7 := hide hI7
      clear hI7
      have S7 := S4.below hb7
      have hu1 := p4.below hb7
      clear gA0 gA1 gB0 gB1 gR0 gR1 gS0 gS1 gf0 gf1 gg0 gg1
      have gA0 := S7.a0
      have gA1 := S7.a1
      have gB0 := S7.b0
      have gB1 := S7.b1
      have gR0 := S7.r0
      have gR1 := S7.r1
      have gS0 := S7.s0
      have gS1 := S7.s1
      have gf0 := S7.rf 0
      have gf1 := S7.rf 1
      have gg0 := S7.sf 0
      have gg1 := S7.sf 1
      go_wp2_with fail
      refine (ofMag_any _ _ rs _ hu1 p5 p6 (lenk5 p5 p6 (z := val rs) (val_abs hr0) (lt_pw (val_abs hr0) (unhide HP8) (unhide HVY) (unhide HZB)))).mono ?_
      rintro e w8 ⟨g2, rfl, hb8, hI8⟩
      obtain ⟨n8, a8, l8, c8, rfl⟩ := hI8.form
      have HI8 := hide hI8
      clear hI8
      have S8 := S7.below hb8
      clear gA0 gA1 gB0 gB1 gR0 gR1 gS0 gS1 gf0 gf1 gg0 gg1
      have gA0 := S8.a0
      have gA1 := S8.a1
      have gB0 := S8.b0
      have gB1 := S8.b1
      have gR0 := S8.r0
      have gR1 := S8.r1
      have gS0 := S8.s0
      have gS1 := S8.s1
      have gf0 := S8.rf 0
      have gf1 := S8.rf 1
      have gg0 := S8.sf 0
      have gg1 := S8.sf 1
      go_wp2
      refine bodyPost_ret (v := .tuple #[.agg #[.int .i64 n7, .slice a7 l7 c7], .agg #[.int .i64 n8, .slice a8 l8 c8]]) ?_ rfl ?_
      · simp [results, Tryz.results72, go_sem, gR0, gR1, gS0, gS1]
      · have h7 := (unhide HI7).below hb8
        have h8 := unhide HI8
        have e9 := quo_pos (unhide hsk) (unhide HN).1 (unhide HN).2 (unhide HVX) (unhide HVY) (unhide HP7) (unhide HP8) hr0
        have e10 := e9.1
        rw [hda] at e10
        simp only [Bool.false_beq, Bool.not_not] at e10
        rw [e10] at h7
        simp only [Bool.false_eq_true, if_false] at h8
        rw [e9.2] at h8
        have hst := ret_store2 S8 h7 h8 (.int .i64 n7) (.slice a7 l7 c7) (.int .i64 n8) (.slice a8 l8 c8)
        exact ⟨_, _, rfl, hst.1, hst.2.1, hst.2.2⟩

end Go.Proofs.YtlcfldkmojpkpaaGreatDoor
