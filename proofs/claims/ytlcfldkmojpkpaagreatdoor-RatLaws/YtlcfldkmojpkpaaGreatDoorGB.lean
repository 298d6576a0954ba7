/- The texts of fractions, by program. -/
import Derived.Test.YtlcfldkmojpkpaaGreatDoorGA

/- Package rat: Of, Inv, by program. -/
namespace Go.Proofs.YtlcfldkmojpkpaaGreatDoor
open Go Go.RowKit

theorem sgn_neg (b : Int) : decide (sgn b < 0) = decide (b < 0) := by
  unfold sgn
  by_cases h : b < 0
  · simp [h]
  · by_cases h2 : 0 < b <;> simp [h, h2]
theorem sgn_m1 (b : Int) : (sgn b == -1) = decide (b < 0) := by
  unfold sgn
  by_cases h : b < 0
  · simp [h]
  · by_cases h2 : 0 < b <;> simp [h, h2]
theorem sgn_p1 (b : Int) : (sgn b == 1) = decide (0 < b) := by
  unfold sgn
  by_cases h : b < 0
  · have : ¬ 0 < b := by omega
    simp [h, this]
  · by_cases h2 : 0 < b <;> simp [h, h2]

set_option maxRecDepth 100000 in
set_option maxHeartbeats 1600000 in
theorem rof_raw (v1 v2 : Value) (z y : Int) (hz : (z.natAbs : Int) < pw 700) (hy : (y.natAbs : Int) < pw 700) (w : World) (i0 : IsI w v1 z) (i1 : IsI w v2 y) :
    Calls Tryz.prog 32 #[v1, v2] w fun e w' => ∃ r, e = .returned r ∧ Below w.heap.size w w' ∧ ∃ x ok p b, r = .tuple #[x, .bool ok] ∧ IsR w' x p b ∧ (ok = decide (y ≠ 0)) ∧ (y = 0 → p = 0 ∧ b = 0) ∧ (0 < y → p = z / (Int.gcd z y : Int) ∧ b = lowB (y / (Int.gcd z y : Int))) ∧ (y < 0 → p = (-z) / (Int.gcd (-z) (-y) : Int) ∧ b = lowB ((-y) / (Int.gcd (-z) (-y) : Int))) := by
  refine calls_act (fn := Tryz.f32) (by kernel_rfl) rfl (N := 28) (by kernel_rfl) (by simp) ?_
  intro a0 hs0 hd0 hx0
  have t0 : a0.tmps[0]? = some v1 := hx0 0 _ rfl
  have t1 : a0.tmps[1]? = some v2 := hx0 1 _ rfl
  clear hx0
  have hB0 : Below w.heap.size w w := Below.refl _ _
  refine wp_seq ?_
  refine fxN (fun _ => False) (fun _ _ => True) (l := regionOf Tryz.f32 0) false (by kernel_rfl) 4 28 w.heap.size [0, 1]
    [XoI _ w.heap.size v1 (Xnum _ _ z), XoI _ w.heap.size v2 (Xnum _ _ y), XoR _ w.heap.size zaR (Xrat _ _ 0 0), Xval _ _ (.bool false)]
    (Sx.and (Sx.at (Xnum _ _ z) v1) (Sx.and (Sx.at (Xnum _ _ y) v2) (Sx.any _))) [(2, some 0), (3, some 1), (4, some 2)] [] (by kernel_rfl) (by kernel_rfl) (by kernel_rfl) hs0 (And.intro i0 (And.intro i1 trivial)) hB0.size List.nodup_nil fan (fac (npI rfl) (fac (npI rfl) (fac (npR rfl) fan))) ?_ ?_ ?_
  · intro i hi hns a w' hb hiv hk hp hold
    obtain ⟨i0, i1, _⟩ := hiv
    have k0 := (hk 0 (by decide)).trans t0
    have k1 := (hk 1 (by decide)).trans t1
    match i, hi with
    | 0, _ => exact sB_I hb.size k0 i0 i0 rfl
    | 1, _ => exact sB_I hb.size k1 i1 i1 rfl
    | 2, _ => exact sO_R hb.size isR_zero rfl
    | 3, _ => exact s_cassign rfl (gf rfl)
    | _ + 4, h => exact absurd h (by omega)
  · exact fan
  intro a1 w1 hb1 hd1 hs1 hk1 hiv1 hsp1 hst1 hds1
  have hB1 := hB0.trans hb1
  replace hd1 := hd1.trans hd0
  obtain ⟨i0_1, i1_1, _⟩ := hiv1
  obtain ⟨r2_1, t2_1, b2_1, n2_1, I2_1⟩ := toI (k := 2) (hsp1 0 (by decide) fan) hB0.size (by omega)
  obtain ⟨r3_1, t3_1, b3_1, n3_1, I3_1⟩ := toI (k := 3) (hsp1 1 (by decide) fan) hB0.size (by omega)
  obtain ⟨r4_1, t4_1, b4_1, n4_1, I4_1⟩ := toR (k := 4) (hsp1 2 (by decide) fan) hB0.size (by omega)
  obtain ⟨v5_1, t5_1, I5_1⟩ : ∃ v, a1.tmps[5]? = some v ∧ v = (.bool false) := tv_get (k := 5) (hsp1 3 (by decide) fan) (by omega)
  have ne2_3_1 : r2_1 ≠ r3_1 := ne_ptr (hds1 (2, some 0) (.head _) (3, some 1) (.tail _ (.head _)) (by decide)) t2_1 t3_1
  have ne2_4_1 : r2_1 ≠ r4_1 := ne_ptr (hds1 (2, some 0) (.head _) (4, some 2) (.tail _ (.tail _ (.head _))) (by decide)) t2_1 t4_1
  have ne3_4_1 : r3_1 ≠ r4_1 := ne_ptr (hds1 (3, some 1) (.tail _ (.head _)) (4, some 2) (.tail _ (.tail _ (.head _))) (by decide)) t3_1 t4_1
  clear hb1 hk1 hsp1 hst1 hds1
  refine wp_seq ?_
  refine wp_seq ?_
  refine fx3n (fun _ _ => True) (l := regionOf Tryz.f32 1) false (by kernel_rfl) 3 28 w.heap.size [2, 3, 4, 5] [Xnum _ _ y, Xval _ _ (.int .i64 (sgn (y))), Xval _ _ (.bool ((sgn (y)) == 0))] (Sx.and (XhI r2_1 (fun h => h) v1 (Xnum _ _ z)) (Sx.and (XhI r3_1 (fun h => h) v2 (Xnum _ _ y)) (Sx.and (XhR r4_1 (fun h => h) zaR (Xrat _ _ 0 0)) (Sx.any _)))) (by kernel_rfl) (by kernel_rfl) (by kernel_rfl) hs1 (And.intro (And.intro n2_1 I2_1) (And.intro (And.intro n3_1 I3_1) (And.intro (And.intro n4_1 I4_1) trivial))) hB1.size ?_ ?_
  · intro i hi a w' hb hiv hk hp
    obtain ⟨⟨n2, i2⟩, ⟨n3, i3⟩, ⟨n4, i4⟩, _⟩ := hiv
    have k3 := (hk 3 (by decide)).trans t3_1
    match i, hi with
    | 0, _ => exact s_load k3 (load_bx n3) i3 gt
    | 1, _ => exact s_call1 enter_Sign (sign_ct _ (y) w' (hp 0 rfl)) gt
    | 2, _ => exact s_eql (hp 1 rfl) rfl rfl gt
    | _ + 3, h => exact absurd h (by omega)
  intro a2 w2 hb2 hd2 hs2 hk2 hiv2 hsp2
  have hB2 := hB1.trans hb2
  replace hd2 := hd2.trans hd1
  obtain ⟨⟨n2_2, i2_2⟩, ⟨n3_2, i3_2⟩, ⟨n4_2, i4_2⟩, _⟩ := hiv2
  have t2_2 := (hk2 2 (by decide)).trans t2_1
  have t3_2 := (hk2 3 (by decide)).trans t3_1
  have t4_2 := (hk2 4 (by decide)).trans t4_1
  have t5_2 := (hk2 5 (by decide)).trans t5_1
  obtain ⟨v9_2, t9_2, I9_2⟩ : ∃ v, a2.tmps[9]? = some v ∧ v = (.bool ((sgn (y)) == 0)) := tv_get (k := 9) (hsp2 2 (by decide)) (by omega)
  clear hb2 hk2 hsp2
  by_cases hc9 : y = 0
  · skip
    refine wp_cond_true (show Act.eval a2 (.tmp 9) = .bool true by rw [eval_of t9_2, I9_2]; simp [sgn_zero, hc9]) ?_
    refine wp_seq ?_
    refine fx3 (fun r => r = r4_1) (fun _ _ => True) (l := regionOf Tryz.f32 2) false (by kernel_rfl) 3 28 w.heap.size [2, 3, 4]
      [Xrat _ _ 0 0, Sx.any _, Xval _ _ (.bool false)]
      (Sx.and (XhI r2_1 (show ¬ (r2_1 = r4_1) by have := n2_2.lt; omega) v1 (Xnum _ _ z)) (Sx.and (XhI r3_1 (show ¬ (r3_1 = r4_1) by have := n3_2.lt; omega) v2 (Xnum _ _ y)) (Sx.any _))) [(4, none)] [stXR 1 4 (Xrat _ _ 0 0) r4_1 zaR (Xrat _ _ 0 0)]
      (by kernel_rfl) (by kernel_rfl) (by kernel_rfl) hs2 (And.intro (And.intro n2_2 i2_2) (And.intro (And.intro n3_2 i3_2) trivial)) hB2.size (fac (fun _ _ => trivial) fan) (show ([1] : List Nat).Nodup by decide) (fac (.inr (And.intro (show (4 : Nat) ∈ ([2, 3, 4] : List Nat) by decide) (And.intro (.head _) (getD_of t4_2)))) fan) (fac (And.intro n4_2 i4_2) fan) (fac (fun _ => ⟨r4_1, getD_of t4_2, n4_2.lt⟩) fan) (dis_one rfl) (fac (fun i hi => by cases hi) fan) ?_ ?_ ?_
    · intro i hi hns a w' hb hiv hk hp hold
      obtain ⟨⟨n2, i2⟩, ⟨n3, i3⟩, _⟩ := hiv
      match i, hi with
      | 0, _ => exact s_bldRz  (fun _ h => h) (gf rfl)
      | 1, _ => exact absurd rfl (hns _ (.head _))
      | 2, _ => exact s_cassign rfl (gf rfl)
      | _ + 3, h => exact absurd h (by omega)
    · refine fac ?_ (fan)
      · intro a w' hb hiv hk hp ho hf
        exact sX_R ((hk 4 (by decide)).trans t4_2) ho.1 (hp 0 rfl) (hp 0 rfl) b4_1.1 (by simp) trivial
    intro a3 w3 hb3 hd3 hs3 hk3 hiv3 hsp3 hst3 hds3
    have hB3 := hB2.trans hb3
    replace hd3 := hd3.trans hd2
    obtain ⟨⟨n2_3, i2_3⟩, ⟨n3_3, i3_3⟩, _⟩ := hiv3
    have t2_3 := (hk3 2 (by decide)).trans t2_2
    have t3_3 := (hk3 3 (by decide)).trans t3_2
    have t4_3 := (hk3 4 (by decide)).trans t4_2
    obtain ⟨v4_3, n4_3, I4_3⟩ := txR (hst3 _ (.head _)) t4_3
    obtain ⟨v5_3, t5_3, I5_3⟩ : ∃ v, a3.tmps[5]? = some v ∧ v = (.bool false) := tv_get (k := 5) (hsp3 2 (by decide) (fac (nq rfl) fan)) (by omega)
    clear hb3 hk3 hsp3 hst3 hds3
    refine wp_ret ?_
    repeat first | refine then_ret ?_ | refine inBlock_ret ?_
    rw [I5_3] at t5_3
    refine bodyPost_ret (res_Rb rfl t4_3 t5_3 n4_3) hd3 ⟨_, rfl, hB3, ?_⟩
    exact ⟨_, _, _, _, rfl, I4_3, by simp; omega, fun _ => by first | exact ⟨rfl, rfl⟩ | omega, fun _ => by first | exact ⟨rfl, rfl⟩ | omega, fun _ => by first | exact ⟨rfl, rfl⟩ | omega⟩
  · skip
    refine wp_cond_false (show Act.eval a2 (.tmp 9) = .bool false by rw [eval_of t9_2, I9_2]; simp [sgn_zero, hc9]) ?_
    refine wp_skip ?_
    change Code.wp _ _ _ _ _
    refine wp_seq ?_
    refine wp_seq ?_
    refine fx3n (fun _ _ => True) (l := regionOf Tryz.f32 3) false (by kernel_rfl) 3 28 w.heap.size [2, 3, 4, 5] [Xnum _ _ y, Xval _ _ (.int .i64 (sgn (y))), Xval _ _ (.bool (decide ((sgn (y)) < 0)))] (Sx.and (XhI r2_1 (fun h => h) v1 (Xnum _ _ z)) (Sx.and (XhI r3_1 (fun h => h) v2 (Xnum _ _ y)) (Sx.and (XhR r4_1 (fun h => h) zaR (Xrat _ _ 0 0)) (Sx.any _)))) (by kernel_rfl) (by kernel_rfl) (by kernel_rfl) hs2 (And.intro (And.intro n2_2 i2_2) (And.intro (And.intro n3_2 i3_2) (And.intro (And.intro n4_2 i4_2) trivial))) hB2.size ?_ ?_
    · intro i hi a w' hb hiv hk hp
      obtain ⟨⟨n2, i2⟩, ⟨n3, i3⟩, ⟨n4, i4⟩, _⟩ := hiv
      have k3 := (hk 3 (by decide)).trans t3_2
      match i, hi with
      | 0, _ => exact s_load k3 (load_bx n3) i3 gt
      | 1, _ => exact s_call1 enter_Sign (sign_ct _ (y) w' (hp 0 rfl)) gt
      | 2, _ => exact s_lss (hp 1 rfl) rfl rfl gt
      | _ + 3, h => exact absurd h (by omega)
    intro a3 w3 hb3 hd3 hs3 hk3 hiv3 hsp3
    have hB3 := hB2.trans hb3
    replace hd3 := hd3.trans hd2
    obtain ⟨⟨n2_3, i2_3⟩, ⟨n3_3, i3_3⟩, ⟨n4_3, i4_3⟩, _⟩ := hiv3
    have t2_3 := (hk3 2 (by decide)).trans t2_2
    have t3_3 := (hk3 3 (by decide)).trans t3_2
    have t4_3 := (hk3 4 (by decide)).trans t4_2
    have t5_3 := (hk3 5 (by decide)).trans t5_2
    obtain ⟨v13_3, t13_3, I13_3⟩ : ∃ v, a3.tmps[13]? = some v ∧ v = (.bool (decide ((sgn (y)) < 0))) := tv_get (k := 13) (hsp3 2 (by decide)) (by omega)
    clear hb3 hk3 hsp3
    by_cases hc13 : y < 0
    · skip
      refine wp_cond_true (show Act.eval a3 (.tmp 13) = .bool true by rw [eval_of t13_3, I13_3]; simp [sgn_neg, hc13]) ?_
      refine fx3 (fun r => r = r2_1 ∨ r = r3_1) (fun _ _ => True) (l := regionOf Tryz.f32 4) true (by kernel_rfl) 6 28 w.heap.size [2, 3, 4, 5]
        [Xnum _ _ z, Xnum _ _ (-z), Xnum _ _ y, Xnum _ _ (-y), Sx.any _, Sx.any _]
        (Sx.and (XhR r4_1 (show ¬ (r4_1 = r2_1 ∨ r4_1 = r3_1) by have := n4_3.lt; omega) zaR (Xrat _ _ 0 0)) (Sx.any _)) [(2, none), (3, none)] [stXI 4 2 (Xnum _ _ (-z)) r2_1 v1 (Xnum _ _ z), stXI 5 3 (Xnum _ _ (-y)) r3_1 v2 (Xnum _ _ y)]
        (by kernel_rfl) (by kernel_rfl) (by kernel_rfl) hs3 (And.intro (And.intro n4_3 i4_3) trivial) hB3.size (fac (fun _ _ => trivial) (fac (fun _ _ => trivial) fan)) (show ([4, 5] : List Nat).Nodup by decide) (fac (.inr (And.intro (show (2 : Nat) ∈ ([2, 3, 4, 5] : List Nat) by decide) (And.intro (.head _) (getD_of t2_3)))) (fac (.inr (And.intro (show (3 : Nat) ∈ ([2, 3, 4, 5] : List Nat) by decide) (And.intro (.tail _ (.head _)) (getD_of t3_3)))) fan)) (fac (And.intro n2_3 i2_3) (fac (And.intro n3_3 i3_3) fan)) (fac (fun _ => ⟨r2_1, getD_of t2_3, n2_3.lt⟩) (fac (fun _ => ⟨r3_1, getD_of t3_3, n3_3.lt⟩) fan)) (dis_two t2_3 t3_3 ne2_3_1 rfl) (fac (fun i hi => by cases hi) (fac (fun i hi => by cases hi) fan)) ?_ ?_ ?_
      · intro i hi hns a w' hb hiv hk hp hold
        obtain ⟨⟨n4, i4⟩, _⟩ := hiv
        have k2 := (hk 2 (by decide)).trans t2_3
        have k3 := (hk 3 (by decide)).trans t3_3
        match i, hi with
        | 0, _ =>
          obtain ⟨n2, i2⟩ := hold _ (.head _) (by kernel_rfl)
          exact s_load k2 (load_bx n2) i2 (gf rfl)
        | 1, _ => exact s_call1 enter_Neg (neg_any _ (z) w' (hp 0 rfl) (Int.lt_of_lt_of_le hz (pw_mono (by decide)))) (gf rfl)
        | 2, _ =>
          obtain ⟨n3, i3⟩ := hold _ (.tail _ (.head _)) (by kernel_rfl)
          exact s_load k3 (load_bx n3) i3 (gf rfl)
        | 3, _ => exact s_call1 enter_Neg (neg_any _ (y) w' (hp 2 rfl) (Int.lt_of_lt_of_le hy (pw_mono (by decide)))) (gf rfl)
        | 4, _ => exact absurd rfl (hns _ (.head _))
        | 5, _ => exact absurd rfl (hns _ (.tail _ (.head _)))
        | _ + 6, h => exact absurd h (by omega)
      · refine fac ?_ (fac ?_ (fan))
        · intro a w' hb hiv hk hp ho hf
          exact sX_I ((hk 2 (by decide)).trans t2_3) ho.1 (hp 1 rfl) (hp 1 rfl) b2_1.1 (by simp) trivial
        · intro a w' hb hiv hk hp ho hf
          exact sX_I ((hk 3 (by decide)).trans t3_3) ho.1 (hp 3 rfl) (hp 3 rfl) b3_1.1 (by simp) trivial
      intro a4 w4 hb4 hd4 hs4 hk4 hiv4 hsp4 hst4 hds4
      have hB4 := hB3.trans hb4
      replace hd4 := hd4.trans hd3
      obtain ⟨⟨n4_4, i4_4⟩, _⟩ := hiv4
      have t2_4 := (hk4 2 (by decide)).trans t2_3
      have t3_4 := (hk4 3 (by decide)).trans t3_3
      have t4_4 := (hk4 4 (by decide)).trans t4_3
      have t5_4 := (hk4 5 (by decide)).trans t5_3
      obtain ⟨v2_4, n2_4, I2_4⟩ := txI (hst4 _ (.head _)) t2_4
      obtain ⟨v3_4, n3_4, I3_4⟩ := txI (hst4 _ (.tail _ (.head _))) t3_4
      clear hb4 hk4 hsp4 hst4 hds4
      change Code.wp _ _ _ _ _
      refine wp_seq ?_
      refine fxN (fun r => w4.heap.size ≤ r) (fun _ _ => True) (l := regionOf Tryz.f32 5) false (by kernel_rfl) 5 28 w.heap.size [2, 3, 4, 5]
        [Xnum _ _ (-z), Xnum _ _ (-y), Xnum _ _ (Int.gcd (-z) (-y) : Int), Sx.box _ w4.heap.size 26, Sx.any _]
        (Sx.and (XhI r2_1 (Nat.not_le_of_lt n2_4.lt) v2_4 (Xnum _ _ (-z))) (Sx.and (XhI r3_1 (Nat.not_le_of_lt n3_4.lt) v3_4 (Xnum _ _ (-y))) (Sx.and (XhR r4_1 (Nat.not_le_of_lt n4_4.lt) zaR (Xrat _ _ 0 0)) (Sx.any _)))) [(6, some 3)] [stNI 4 6 (Xnum _ _ (Int.gcd (-z) (-y) : Int))] (by kernel_rfl) (by kernel_rfl) (by kernel_rfl) hs4 (And.intro (And.intro n2_4 I2_4) (And.intro (And.intro n3_4 I3_4) (And.intro (And.intro n4_4 i4_4) trivial))) hB4.size (show ([4] : List Nat).Nodup by decide) (fac nst fan) (fac (nby rfl) fan) ?_ ?_ ?_
      · intro i hi hns a w' hb hiv hk hp hold
        obtain ⟨⟨n2, i2⟩, ⟨n3, i3⟩, ⟨n4, i4⟩, _⟩ := hiv
        have k2 := (hk 2 (by decide)).trans t2_4
        have k3 := (hk 3 (by decide)).trans t3_4
        match i, hi with
        | 0, _ => exact s_load k2 (load_bx n2) i2 (gf rfl)
        | 1, _ => exact s_load k3 (load_bx n3) i3 (gf rfl)
        | 2, _ => exact s_call2 enter_Gcd (gcd_any quoLong_any _ _ (-z) (-y) w' (hp 0 rfl) (hp 1 rfl) (le4 (neg_pw hz) (by decide)) (le4 (neg_pw hy) (by decide))) (gf rfl)
        | 3, _ => exact sA_I hb.size hb.size (fac (zI w') fan)
        | 4, _ => exact absurd rfl (hns _ (.head _))
        | _ + 5, h => exact absurd h (by omega)
      · refine fac ?_ (fan)
        · intro a w' hb hiv hk hp ho hf
          exact sN_I (hp 3 rfl) (hp 2 rfl) (hp 2 rfl) hB4.size (hf 3 (.head _)) (fun _ _ => trivial)
      intro a5 w5 hb5 hd5 hs5 hk5 hiv5 hsp5 hst5 hds5
      have hB5 := hB4.trans hb5
      replace hd5 := hd5.trans hd4
      obtain ⟨⟨n2_5, i2_5⟩, ⟨n3_5, i3_5⟩, ⟨n4_5, i4_5⟩, _⟩ := hiv5
      have t2_5 := (hk5 2 (by decide)).trans t2_4
      have t3_5 := (hk5 3 (by decide)).trans t3_4
      have t4_5 := (hk5 4 (by decide)).trans t4_4
      have t5_5 := (hk5 5 (by decide)).trans t5_4
      obtain ⟨r6_5, v6_5, t6_5, b6_5, n6_5, I6_5⟩ := tnI (k := 6) (hst5 _ (.head _)) (hsp5 3 (by decide) (fac (nq rfl) fan)) hB4.size (by omega)
      have ne2_6_5 : r2_1 ≠ r6_5 := by have := n2_4.lt; have := b6_5.2; omega
      have ne3_6_5 : r3_1 ≠ r6_5 := by have := n3_4.lt; have := b6_5.2; omega
      have ne4_6_5 : r4_1 ≠ r6_5 := by have := n4_4.lt; have := b6_5.2; omega
      clear hb5 hk5 hsp5 hst5 hds5
      refine wp_seq ?_
      refine fx3 (fun r => r = r4_1) (fun _ _ => True) (l := regionOf Tryz.f32 6) true (by kernel_rfl) 9 28 w.heap.size [2, 3, 4, 6]
        [Xnum _ _ (-z), Xnum _ _ (Int.gcd (-z) (-y) : Int), Xnum _ _ (-z / ((Int.gcd (-z) (-y) : Int))), Xnum _ _ (-y), Xnum _ _ (Int.gcd (-z) (-y) : Int), Xnum _ _ (-y / ((Int.gcd (-z) (-y) : Int))), Xrat _ _ (-z / ((Int.gcd (-z) (-y) : Int))) (lowB (-y / ((Int.gcd (-z) (-y) : Int)))), Sx.any _, Xval _ _ (.bool true)]
        (Sx.and (XhI r2_1 (show ¬ (r2_1 = r4_1) by have := n2_5.lt; omega) v2_4 (Xnum _ _ (-z))) (Sx.and (XhI r3_1 (show ¬ (r3_1 = r4_1) by have := n3_5.lt; omega) v3_4 (Xnum _ _ (-y))) (Sx.and (XhI r6_5 (show ¬ (r6_5 = r4_1) by have := n6_5.lt; omega) v6_5 (Xnum _ _ (Int.gcd (-z) (-y) : Int))) (Sx.any _)))) [(4, none)] [stXR 7 4 (Xrat _ _ (-z / ((Int.gcd (-z) (-y) : Int))) (lowB (-y / ((Int.gcd (-z) (-y) : Int))))) r4_1 zaR (Xrat _ _ 0 0)]
        (by kernel_rfl) (by kernel_rfl) (by kernel_rfl) hs5 (And.intro (And.intro n2_5 i2_5) (And.intro (And.intro n3_5 i3_5) (And.intro (And.intro n6_5 I6_5) trivial))) hB5.size (fac (fun _ _ => trivial) fan) (show ([7] : List Nat).Nodup by decide) (fac (.inr (And.intro (show (4 : Nat) ∈ ([2, 3, 4, 6] : List Nat) by decide) (And.intro (.head _) (getD_of t4_5)))) fan) (fac (And.intro n4_5 i4_5) fan) (fac (fun _ => ⟨r4_1, getD_of t4_5, n4_5.lt⟩) fan) (dis_one rfl) (fac (fun i hi => by cases hi) fan) ?_ ?_ ?_
      · intro i hi hns a w' hb hiv hk hp hold
        obtain ⟨⟨n2, i2⟩, ⟨n3, i3⟩, ⟨n6, i6⟩, _⟩ := hiv
        have k2 := (hk 2 (by decide)).trans t2_5
        have k3 := (hk 3 (by decide)).trans t3_5
        have k6 := (hk 6 (by decide)).trans t6_5
        match i, hi with
        | 0, _ => exact s_load k2 (load_bx n2) i2 (gf rfl)
        | 1, _ => exact s_load k6 (load_bx n6) i6 (gf rfl)
        | 2, _ => exact s_call2 enter_part (part_any _ _ (-z) ((Int.gcd (-z) (-y) : Int)) (le3n (neg_pw hz) (by decide)) (le3n (gcd_lt2 (neg_pw hz) (neg_pw hy)) (by decide)) w' (hp 0 rfl) (hp 1 rfl)) (gf rfl)
        | 3, _ => exact s_load k3 (load_bx n3) i3 (gf rfl)
        | 4, _ => exact s_load k6 (load_bx n6) i6 (gf rfl)
        | 5, _ => exact s_call2 enter_part (part_any _ _ (-y) ((Int.gcd (-z) (-y) : Int)) (le3n (neg_pw hy) (by decide)) (le3n (gcd_lt2 (neg_pw hz) (neg_pw hy)) (by decide)) w' (hp 3 rfl) (hp 4 rfl)) (gf rfl)
        | 6, _ => exact s_call2 enter_low (low_any _ _ (-z / ((Int.gcd (-z) (-y) : Int))) (-y / ((Int.gcd (-z) (-y) : Int))) (le3n (ediv_lt (neg_pw hz)) (by decide)) (le3n (ediv_lt (neg_pw hy)) (by decide)) w' (hp 2 rfl) (hp 5 rfl)) (gf rfl)
        | 7, _ => exact absurd rfl (hns _ (.head _))
        | 8, _ => exact s_cassign rfl (gf rfl)
        | _ + 9, h => exact absurd h (by omega)
      · refine fac ?_ (fan)
        · intro a w' hb hiv hk hp ho hf
          exact sX_R ((hk 4 (by decide)).trans t4_5) ho.1 (hp 6 rfl) (hp 6 rfl) b4_1.1 (by simp) trivial
      intro a6 w6 hb6 hd6 hs6 hk6 hiv6 hsp6 hst6 hds6
      have hB6 := hB5.trans hb6
      replace hd6 := hd6.trans hd5
      obtain ⟨⟨n2_6, i2_6⟩, ⟨n3_6, i3_6⟩, ⟨n6_6, i6_6⟩, _⟩ := hiv6
      have t4_6 := (hk6 4 (by decide)).trans t4_5
      obtain ⟨v4_6, n4_6, I4_6⟩ := txR (hst6 _ (.head _)) t4_6
      obtain ⟨v5_6, t5_6, I5_6⟩ : ∃ v, a6.tmps[5]? = some v ∧ v = (.bool true) := tv_get (k := 5) (hsp6 8 (by decide) (fac (nq rfl) fan)) (by omega)
      clear hb6 hk6 hsp6 hst6 hds6
      refine wp_ret ?_
      repeat first | refine then_ret ?_ | refine inBlock_ret ?_
      rw [I5_6] at t5_6
      refine bodyPost_ret (res_Rb rfl t4_6 t5_6 n4_6) hd6 ⟨_, rfl, hB6, ?_⟩
      exact ⟨_, _, _, _, rfl, I4_6, by simp; omega, fun _ => by first | exact ⟨rfl, rfl⟩ | omega, fun _ => by first | exact ⟨rfl, rfl⟩ | omega, fun _ => by first | exact ⟨rfl, rfl⟩ | omega⟩
    · skip
      refine wp_cond_false (show Act.eval a3 (.tmp 13) = .bool false by rw [eval_of t13_3, I13_3]; simp [sgn_neg, hc13]) ?_
      refine wp_skip ?_
      change Code.wp _ _ _ _ _
      refine wp_seq ?_
      refine fxN (fun r => w3.heap.size ≤ r) (fun _ _ => True) (l := regionOf Tryz.f32 5) false (by kernel_rfl) 5 28 w.heap.size [2, 3, 4, 5]
        [Xnum _ _ z, Xnum _ _ y, Xnum _ _ (Int.gcd (z) (y) : Int), Sx.box _ w3.heap.size 26, Sx.any _]
        (Sx.and (XhI r2_1 (Nat.not_le_of_lt n2_3.lt) v1 (Xnum _ _ z)) (Sx.and (XhI r3_1 (Nat.not_le_of_lt n3_3.lt) v2 (Xnum _ _ y)) (Sx.and (XhR r4_1 (Nat.not_le_of_lt n4_3.lt) zaR (Xrat _ _ 0 0)) (Sx.any _)))) [(6, some 3)] [stNI 4 6 (Xnum _ _ (Int.gcd (z) (y) : Int))] (by kernel_rfl) (by kernel_rfl) (by kernel_rfl) hs3 (And.intro (And.intro n2_3 i2_3) (And.intro (And.intro n3_3 i3_3) (And.intro (And.intro n4_3 i4_3) trivial))) hB3.size (show ([4] : List Nat).Nodup by decide) (fac nst fan) (fac (nby rfl) fan) ?_ ?_ ?_
      · intro i hi hns a w' hb hiv hk hp hold
        obtain ⟨⟨n2, i2⟩, ⟨n3, i3⟩, ⟨n4, i4⟩, _⟩ := hiv
        have k2 := (hk 2 (by decide)).trans t2_3
        have k3 := (hk 3 (by decide)).trans t3_3
        match i, hi with
        | 0, _ => exact s_load k2 (load_bx n2) i2 (gf rfl)
        | 1, _ => exact s_load k3 (load_bx n3) i3 (gf rfl)
        | 2, _ => exact s_call2 enter_Gcd (gcd_any quoLong_any _ _ (z) (y) w' (hp 0 rfl) (hp 1 rfl) (le4 hz (by decide)) (le4 hy (by decide))) (gf rfl)
        | 3, _ => exact sA_I hb.size hb.size (fac (zI w') fan)
        | 4, _ => exact absurd rfl (hns _ (.head _))
        | _ + 5, h => exact absurd h (by omega)
      · refine fac ?_ (fan)
        · intro a w' hb hiv hk hp ho hf
          exact sN_I (hp 3 rfl) (hp 2 rfl) (hp 2 rfl) hB3.size (hf 3 (.head _)) (fun _ _ => trivial)
      intro a4 w4 hb4 hd4 hs4 hk4 hiv4 hsp4 hst4 hds4
      have hB4 := hB3.trans hb4
      replace hd4 := hd4.trans hd3
      obtain ⟨⟨n2_4, i2_4⟩, ⟨n3_4, i3_4⟩, ⟨n4_4, i4_4⟩, _⟩ := hiv4
      have t2_4 := (hk4 2 (by decide)).trans t2_3
      have t3_4 := (hk4 3 (by decide)).trans t3_3
      have t4_4 := (hk4 4 (by decide)).trans t4_3
      have t5_4 := (hk4 5 (by decide)).trans t5_3
      obtain ⟨r6_4, v6_4, t6_4, b6_4, n6_4, I6_4⟩ := tnI (k := 6) (hst4 _ (.head _)) (hsp4 3 (by decide) (fac (nq rfl) fan)) hB3.size (by omega)
      have ne2_6_4 : r2_1 ≠ r6_4 := by have := n2_3.lt; have := b6_4.2; omega
      have ne3_6_4 : r3_1 ≠ r6_4 := by have := n3_3.lt; have := b6_4.2; omega
      have ne4_6_4 : r4_1 ≠ r6_4 := by have := n4_3.lt; have := b6_4.2; omega
      clear hb4 hk4 hsp4 hst4 hds4
      refine wp_seq ?_
      refine fx3 (fun r => r = r4_1) (fun _ _ => True) (l := regionOf Tryz.f32 6) true (by kernel_rfl) 9 28 w.heap.size [2, 3, 4, 6]
        [Xnum _ _ z, Xnum _ _ (Int.gcd (z) (y) : Int), Xnum _ _ (z / ((Int.gcd (z) (y) : Int))), Xnum _ _ y, Xnum _ _ (Int.gcd (z) (y) : Int), Xnum _ _ (y / ((Int.gcd (z) (y) : Int))), Xrat _ _ (z / ((Int.gcd (z) (y) : Int))) (lowB (y / ((Int.gcd (z) (y) : Int)))), Sx.any _, Xval _ _ (.bool true)]
        (Sx.and (XhI r2_1 (show ¬ (r2_1 = r4_1) by have := n2_4.lt; omega) v1 (Xnum _ _ z)) (Sx.and (XhI r3_1 (show ¬ (r3_1 = r4_1) by have := n3_4.lt; omega) v2 (Xnum _ _ y)) (Sx.and (XhI r6_4 (show ¬ (r6_4 = r4_1) by have := n6_4.lt; omega) v6_4 (Xnum _ _ (Int.gcd (z) (y) : Int))) (Sx.any _)))) [(4, none)] [stXR 7 4 (Xrat _ _ (z / ((Int.gcd (z) (y) : Int))) (lowB (y / ((Int.gcd (z) (y) : Int))))) r4_1 zaR (Xrat _ _ 0 0)]
        (by kernel_rfl) (by kernel_rfl) (by kernel_rfl) hs4 (And.intro (And.intro n2_4 i2_4) (And.intro (And.intro n3_4 i3_4) (And.intro (And.intro n6_4 I6_4) trivial))) hB4.size (fac (fun _ _ => trivial) fan) (show ([7] : List Nat).Nodup by decide) (fac (.inr (And.intro (show (4 : Nat) ∈ ([2, 3, 4, 6] : List Nat) by decide) (And.intro (.head _) (getD_of t4_4)))) fan) (fac (And.intro n4_4 i4_4) fan) (fac (fun _ => ⟨r4_1, getD_of t4_4, n4_4.lt⟩) fan) (dis_one rfl) (fac (fun i hi => by cases hi) fan) ?_ ?_ ?_
      · intro i hi hns a w' hb hiv hk hp hold
        obtain ⟨⟨n2, i2⟩, ⟨n3, i3⟩, ⟨n6, i6⟩, _⟩ := hiv
        have k2 := (hk 2 (by decide)).trans t2_4
        have k3 := (hk 3 (by decide)).trans t3_4
        have k6 := (hk 6 (by decide)).trans t6_4
        match i, hi with
        | 0, _ => exact s_load k2 (load_bx n2) i2 (gf rfl)
        | 1, _ => exact s_load k6 (load_bx n6) i6 (gf rfl)
        | 2, _ => exact s_call2 enter_part (part_any _ _ (z) ((Int.gcd (z) (y) : Int)) (le3n hz (by decide)) (le3n (gcd_lt2 hz hy) (by decide)) w' (hp 0 rfl) (hp 1 rfl)) (gf rfl)
        | 3, _ => exact s_load k3 (load_bx n3) i3 (gf rfl)
        | 4, _ => exact s_load k6 (load_bx n6) i6 (gf rfl)
        | 5, _ => exact s_call2 enter_part (part_any _ _ (y) ((Int.gcd (z) (y) : Int)) (le3n hy (by decide)) (le3n (gcd_lt2 hz hy) (by decide)) w' (hp 3 rfl) (hp 4 rfl)) (gf rfl)
        | 6, _ => exact s_call2 enter_low (low_any _ _ (z / ((Int.gcd (z) (y) : Int))) (y / ((Int.gcd (z) (y) : Int))) (le3n (ediv_lt hz) (by decide)) (le3n (ediv_lt hy) (by decide)) w' (hp 2 rfl) (hp 5 rfl)) (gf rfl)
        | 7, _ => exact absurd rfl (hns _ (.head _))
        | 8, _ => exact s_cassign rfl (gf rfl)
        | _ + 9, h => exact absurd h (by omega)
      · refine fac ?_ (fan)
        · intro a w' hb hiv hk hp ho hf
          exact sX_R ((hk 4 (by decide)).trans t4_4) ho.1 (hp 6 rfl) (hp 6 rfl) b4_1.1 (by simp) trivial
      intro a5 w5 hb5 hd5 hs5 hk5 hiv5 hsp5 hst5 hds5
      have hB5 := hB4.trans hb5
      replace hd5 := hd5.trans hd4
      obtain ⟨⟨n2_5, i2_5⟩, ⟨n3_5, i3_5⟩, ⟨n6_5, i6_5⟩, _⟩ := hiv5
      have t4_5 := (hk5 4 (by decide)).trans t4_4
      obtain ⟨v4_5, n4_5, I4_5⟩ := txR (hst5 _ (.head _)) t4_5
      obtain ⟨v5_5, t5_5, I5_5⟩ : ∃ v, a5.tmps[5]? = some v ∧ v = (.bool true) := tv_get (k := 5) (hsp5 8 (by decide) (fac (nq rfl) fan)) (by omega)
      clear hb5 hk5 hsp5 hst5 hds5
      refine wp_ret ?_
      repeat first | refine then_ret ?_ | refine inBlock_ret ?_
      rw [I5_5] at t5_5
      refine bodyPost_ret (res_Rb rfl t4_5 t5_5 n4_5) hd5 ⟨_, rfl, hB5, ?_⟩
      exact ⟨_, _, _, _, rfl, I4_5, by simp; omega, fun _ => by first | exact ⟨rfl, rfl⟩ | omega, fun _ => by first | exact ⟨rfl, rfl⟩ | omega, fun _ => by first | exact ⟨rfl, rfl⟩ | omega⟩

set_option maxRecDepth 100000 in
set_option maxHeartbeats 1600000 in
theorem rinv_raw (v1 : Value) (p b : Int) (gp : (p.natAbs : Int) < pw 700) (gb : (b.natAbs : Int) < pw 700) (w : World) (i0 : IsR w v1 p b) :
    Calls Tryz.prog 9 #[v1] w fun e w' => ∃ r, e = .returned r ∧ Below w.heap.size w w' ∧ ∃ x ok p2 b2, r = .tuple #[x, .bool ok] ∧ IsR w' x p2 b2 ∧ (ok = decide (p ≠ 0)) ∧ (p = 0 → p2 = 0 ∧ b2 = 0) ∧ (0 < p → p2 = bel b ∧ b2 = lowB p) ∧ (p < 0 → p2 = -(bel b) ∧ b2 = lowB (-p)) := by
  refine calls_act (fn := Tryz.f9) (by kernel_rfl) rfl (N := 24) (by kernel_rfl) (by simp) ?_
  intro a0 hs0 hd0 hx0
  have t0 : a0.tmps[0]? = some v1 := hx0 0 _ rfl
  clear hx0
  have hB0 : Below w.heap.size w w := Below.refl _ _
  refine wp_seq ?_
  refine fxN (fun _ => False) (fun _ _ => True) (l := regionOf Tryz.f9 0) false (by kernel_rfl) 3 24 w.heap.size [0]
    [XoR _ w.heap.size v1 (Xrat _ _ p b), XoR _ w.heap.size zaR (Xrat _ _ 0 0), Xval _ _ (.bool false)]
    (Sx.and (Sx.at (Xrat _ _ p b) v1) (Sx.any _)) [(1, some 0), (2, some 1)] [] (by kernel_rfl) (by kernel_rfl) (by kernel_rfl) hs0 (And.intro i0 trivial) hB0.size List.nodup_nil fan (fac (npR rfl) (fac (npR rfl) fan)) ?_ ?_ ?_
  · intro i hi hns a w' hb hiv hk hp hold
    obtain ⟨i0, _⟩ := hiv
    have k0 := (hk 0 (by decide)).trans t0
    match i, hi with
    | 0, _ => exact sB_R hb.size k0 i0 i0 rfl
    | 1, _ => exact sO_R hb.size isR_zero rfl
    | 2, _ => exact s_cassign rfl (gf rfl)
    | _ + 3, h => exact absurd h (by omega)
  · exact fan
  intro a1 w1 hb1 hd1 hs1 hk1 hiv1 hsp1 hst1 hds1
  have hB1 := hB0.trans hb1
  replace hd1 := hd1.trans hd0
  obtain ⟨i0_1, _⟩ := hiv1
  obtain ⟨r1_1, t1_1, b1_1, n1_1, I1_1⟩ := toR (k := 1) (hsp1 0 (by decide) fan) hB0.size (by omega)
  obtain ⟨r2_1, t2_1, b2_1, n2_1, I2_1⟩ := toR (k := 2) (hsp1 1 (by decide) fan) hB0.size (by omega)
  obtain ⟨v3_1, t3_1, I3_1⟩ : ∃ v, a1.tmps[3]? = some v ∧ v = (.bool false) := tv_get (k := 3) (hsp1 2 (by decide) fan) (by omega)
  have ne1_2_1 : r1_1 ≠ r2_1 := ne_ptr (hds1 (1, some 0) (.head _) (2, some 1) (.tail _ (.head _)) (by decide)) t1_1 t2_1
  clear hb1 hk1 hsp1 hst1 hds1
  refine wp_seq ?_
  refine wp_seq ?_
  refine fx3n (fun _ _ => True) (l := regionOf Tryz.f9 1) false (by kernel_rfl) 3 24 w.heap.size [1, 2, 3] [Xval _ _ (.pointer (some ⟨r1_1, 0, none⟩)), Xnum _ _ p, Xval _ _ (.int .i64 (sgn (p)))] (Sx.and (XhR r1_1 (fun h => h) v1 (Xrat _ _ p b)) (Sx.and (XhR r2_1 (fun h => h) zaR (Xrat _ _ 0 0)) (Sx.any _))) (by kernel_rfl) (by kernel_rfl) (by kernel_rfl) hs1 (And.intro (And.intro n1_1 I1_1) (And.intro (And.intro n2_1 I2_1) trivial)) hB1.size ?_ ?_
  · intro i hi a w' hb hiv hk hp
    obtain ⟨⟨n1, i1⟩, ⟨n2, i2⟩, _⟩ := hiv
    have k1 := (hk 1 (by decide)).trans t1_1
    match i, hi with
    | 0, _ => exact s_field k1 field_R0 rfl gt
    | 1, _ =>
      obtain ⟨u, hr, hu⟩ := ldR0 n1 i1
      exact s_loadP (hp 0 rfl) hr hu gt
    | 2, _ => exact s_call1 enter_Sign (sign_ct _ (p) w' (hp 1 rfl)) gt
    | _ + 3, h => exact absurd h (by omega)
  intro a2 w2 hb2 hd2 hs2 hk2 hiv2 hsp2
  have hB2 := hB1.trans hb2
  replace hd2 := hd2.trans hd1
  obtain ⟨⟨n1_2, i1_2⟩, ⟨n2_2, i2_2⟩, _⟩ := hiv2
  have t1_2 := (hk2 1 (by decide)).trans t1_1
  have t2_2 := (hk2 2 (by decide)).trans t2_1
  have t3_2 := (hk2 3 (by decide)).trans t3_1
  obtain ⟨v6_2, t6_2, I6_2⟩ : ∃ v, a2.tmps[6]? = some v ∧ v = (.int .i64 (sgn (p))) := tv_get (k := 6) (hsp2 2 (by decide)) (by omega)
  clear hb2 hk2 hsp2
  refine wp_block ?_
  refine wp_seq ?_
  refine fx3n (fun _ _ => True) (l := regionOf Tryz.f9 2) false (by kernel_rfl) 2 24 w.heap.size [1, 2, 3, 6] [Xval _ _ (.bool ((sgn (p)) == (-1))), Xval _ _ (.bool ((sgn (p)) == (-1)))] (Sx.and (XhR r1_1 (fun h => h) v1 (Xrat _ _ p b)) (Sx.and (XhR r2_1 (fun h => h) zaR (Xrat _ _ 0 0)) (Sx.any _))) (by kernel_rfl) (by kernel_rfl) (by kernel_rfl) hs2 (And.intro (And.intro n1_2 i1_2) (And.intro (And.intro n2_2 i2_2) trivial)) hB2.size ?_ ?_
  · intro i hi a w' hb hiv hk hp
    obtain ⟨⟨n1, i1⟩, ⟨n2, i2⟩, _⟩ := hiv
    have k6 := (hk 6 (by decide)).trans t6_2
    match i, hi with
    | 0, _ => exact s_eql ((getD_of k6).trans I6_2) rfl rfl gt
    | 1, _ => exact s_assign (hp 0 rfl) gt
    | _ + 2, h => exact absurd h (by omega)
  intro a3 w3 hb3 hd3 hs3 hk3 hiv3 hsp3
  have hB3 := hB2.trans hb3
  replace hd3 := hd3.trans hd2
  obtain ⟨⟨n1_3, i1_3⟩, ⟨n2_3, i2_3⟩, _⟩ := hiv3
  have t1_3 := (hk3 1 (by decide)).trans t1_2
  have t2_3 := (hk3 2 (by decide)).trans t2_2
  have t3_3 := (hk3 3 (by decide)).trans t3_2
  have t6_3 := (hk3 6 (by decide)).trans t6_2
  obtain ⟨v7_3, t7_3, I7_3⟩ : ∃ v, a3.tmps[7]? = some v ∧ v = (.bool ((sgn (p)) == (-1))) := tv_get (k := 7) (hsp3 1 (by decide)) (by omega)
  clear hb3 hk3 hsp3
  by_cases hc7 : p < 0
  · skip
    refine wp_cond_true (show Act.eval a3 (.tmp 7) = .bool true by rw [eval_of t7_3, I7_3]; simp [sgn_m1, hc7]) ?_
    refine wp_seq ?_
    refine fx3 (fun r => r = r2_1) (fun _ _ => True) (l := regionOf Tryz.f9 3) true (by kernel_rfl) 9 24 w.heap.size [1, 2]
      [Xrat _ _ p b, Xnum _ _ (bel (b)), Xnum _ _ (-(bel (b))), Xval _ _ (.pointer (some ⟨r1_1, 0, none⟩)), Xnum _ _ p, Xnum _ _ (-p), Xrat _ _ (-(bel (b))) (lowB (-p)), Sx.any _, Xval _ _ (.bool true)]
      (Sx.and (XhR r1_1 (show ¬ (r1_1 = r2_1) by have := n1_3.lt; omega) v1 (Xrat _ _ p b)) (Sx.any _)) [(2, none)] [stXR 7 2 (Xrat _ _ (-(bel (b))) (lowB (-p))) r2_1 zaR (Xrat _ _ 0 0)]
      (by kernel_rfl) (by kernel_rfl) (by kernel_rfl) hs3 (And.intro (And.intro n1_3 i1_3) trivial) hB3.size (fac (fun _ _ => trivial) fan) (show ([7] : List Nat).Nodup by decide) (fac (.inr (And.intro (show (2 : Nat) ∈ ([1, 2] : List Nat) by decide) (And.intro (.head _) (getD_of t2_3)))) fan) (fac (And.intro n2_3 i2_3) fan) (fac (fun _ => ⟨r2_1, getD_of t2_3, n2_3.lt⟩) fan) (dis_one rfl) (fac (fun i hi => by cases hi) fan) ?_ ?_ ?_
    · intro i hi hns a w' hb hiv hk hp hold
      obtain ⟨⟨n1, i1⟩, _⟩ := hiv
      have k1 := (hk 1 (by decide)).trans t1_3
      match i, hi with
      | 0, _ => exact s_load k1 (load_R n1) i1 (gf rfl)
      | 1, _ => exact s_call1 enter_bel (below_any _ (p) (b) (le3n gb (by decide)) w' (hp 0 rfl)) (gf rfl)
      | 2, _ => exact s_call1 enter_Neg (neg_any _ (bel (b)) w' (hp 1 rfl) (Int.lt_of_lt_of_le (bel_lt gb) (pw_mono (by decide)))) (gf rfl)
      | 3, _ => exact s_field k1 field_R0 rfl (gf rfl)
      | 4, _ =>
        obtain ⟨u, hr, hu⟩ := ldR0 n1 i1
        exact s_loadP (hp 3 rfl) hr hu (gf rfl)
      | 5, _ => exact s_call1 enter_Neg (neg_any _ (p) w' (hp 4 rfl) (Int.lt_of_lt_of_le gp (pw_mono (by decide)))) (gf rfl)
      | 6, _ => exact s_call2 enter_low (low_any _ _ (-(bel (b))) (-p) (le3n (neg_pw (bel_lt gb)) (by decide)) (le3n (neg_pw gp) (by decide)) w' (hp 2 rfl) (hp 5 rfl)) (gf rfl)
      | 7, _ => exact absurd rfl (hns _ (.head _))
      | 8, _ => exact s_cassign rfl (gf rfl)
      | _ + 9, h => exact absurd h (by omega)
    · refine fac ?_ (fan)
      · intro a w' hb hiv hk hp ho hf
        exact sX_R ((hk 2 (by decide)).trans t2_3) ho.1 (hp 6 rfl) (hp 6 rfl) b2_1.1 (by simp) trivial
    intro a4 w4 hb4 hd4 hs4 hk4 hiv4 hsp4 hst4 hds4
    have hB4 := hB3.trans hb4
    replace hd4 := hd4.trans hd3
    obtain ⟨⟨n1_4, i1_4⟩, _⟩ := hiv4
    have t2_4 := (hk4 2 (by decide)).trans t2_3
    obtain ⟨v2_4, n2_4, I2_4⟩ := txR (hst4 _ (.head _)) t2_4
    obtain ⟨v3_4, t3_4, I3_4⟩ : ∃ v, a4.tmps[3]? = some v ∧ v = (.bool true) := tv_get (k := 3) (hsp4 8 (by decide) (fac (nq rfl) fan)) (by omega)
    clear hb4 hk4 hsp4 hst4 hds4
    refine wp_ret ?_
    repeat first | refine then_ret ?_ | refine inBlock_ret ?_
    rw [I3_4] at t3_4
    refine bodyPost_ret (res_Rb rfl t2_4 t3_4 n2_4) hd4 ⟨_, rfl, hB4, ?_⟩
    exact ⟨_, _, _, _, rfl, I2_4, by simp; omega, fun _ => by first | exact ⟨rfl, rfl⟩ | omega, fun _ => by first | exact ⟨rfl, rfl⟩ | omega, fun _ => by first | exact ⟨rfl, rfl⟩ | omega⟩
  · skip
    refine wp_cond_false (show Act.eval a3 (.tmp 7) = .bool false by rw [eval_of t7_3, I7_3]; simp [sgn_m1, hc7]) ?_
    refine wp_seq ?_
    refine fx3n (fun _ _ => True) (l := regionOf Tryz.f9 4) false (by kernel_rfl) 2 24 w.heap.size [1, 2, 3, 6] [Xval _ _ (.bool ((sgn (p)) == 1)), Xval _ _ (.bool ((sgn (p)) == 1))] (Sx.and (XhR r1_1 (fun h => h) v1 (Xrat _ _ p b)) (Sx.and (XhR r2_1 (fun h => h) zaR (Xrat _ _ 0 0)) (Sx.any _))) (by kernel_rfl) (by kernel_rfl) (by kernel_rfl) hs3 (And.intro (And.intro n1_3 i1_3) (And.intro (And.intro n2_3 i2_3) trivial)) hB3.size ?_ ?_
    · intro i hi a w' hb hiv hk hp
      obtain ⟨⟨n1, i1⟩, ⟨n2, i2⟩, _⟩ := hiv
      have k6 := (hk 6 (by decide)).trans t6_3
      match i, hi with
      | 0, _ => exact s_eql ((getD_of k6).trans I6_2) rfl rfl gt
      | 1, _ => exact s_assign (hp 0 rfl) gt
      | _ + 2, h => exact absurd h (by omega)
    intro a4 w4 hb4 hd4 hs4 hk4 hiv4 hsp4
    have hB4 := hB3.trans hb4
    replace hd4 := hd4.trans hd3
    obtain ⟨⟨n1_4, i1_4⟩, ⟨n2_4, i2_4⟩, _⟩ := hiv4
    have t1_4 := (hk4 1 (by decide)).trans t1_3
    have t2_4 := (hk4 2 (by decide)).trans t2_3
    have t3_4 := (hk4 3 (by decide)).trans t3_3
    obtain ⟨v16_4, t16_4, I16_4⟩ : ∃ v, a4.tmps[16]? = some v ∧ v = (.bool ((sgn (p)) == 1)) := tv_get (k := 16) (hsp4 1 (by decide)) (by omega)
    clear hb4 hk4 hsp4
    by_cases hc16 : 0 < p
    · skip
      refine wp_cond_true (show Act.eval a4 (.tmp 16) = .bool true by rw [eval_of t16_4, I16_4]; simp [sgn_p1, hc16]) ?_
      refine wp_seq ?_
      refine fx3 (fun r => r = r2_1) (fun _ _ => True) (l := regionOf Tryz.f9 5) true (by kernel_rfl) 7 24 w.heap.size [1, 2]
        [Xrat _ _ p b, Xnum _ _ (bel (b)), Xrat _ _ p b, Xnum _ _ p, Xrat _ _ (bel (b)) (lowB (p)), Sx.any _, Xval _ _ (.bool true)]
        (Sx.and (XhR r1_1 (show ¬ (r1_1 = r2_1) by have := n1_4.lt; omega) v1 (Xrat _ _ p b)) (Sx.any _)) [(2, none)] [stXR 5 2 (Xrat _ _ (bel (b)) (lowB (p))) r2_1 zaR (Xrat _ _ 0 0)]
        (by kernel_rfl) (by kernel_rfl) (by kernel_rfl) hs4 (And.intro (And.intro n1_4 i1_4) trivial) hB4.size (fac (fun _ _ => trivial) fan) (show ([5] : List Nat).Nodup by decide) (fac (.inr (And.intro (show (2 : Nat) ∈ ([1, 2] : List Nat) by decide) (And.intro (.head _) (getD_of t2_4)))) fan) (fac (And.intro n2_4 i2_4) fan) (fac (fun _ => ⟨r2_1, getD_of t2_4, n2_4.lt⟩) fan) (dis_one rfl) (fac (fun i hi => by cases hi) fan) ?_ ?_ ?_
      · intro i hi hns a w' hb hiv hk hp hold
        obtain ⟨⟨n1, i1⟩, _⟩ := hiv
        have k1 := (hk 1 (by decide)).trans t1_4
        match i, hi with
        | 0, _ => exact s_load k1 (load_R n1) i1 (gf rfl)
        | 1, _ => exact s_call1 enter_bel (below_any _ (p) (b) (le3n gb (by decide)) w' (hp 0 rfl)) (gf rfl)
        | 2, _ => exact s_load k1 (load_R n1) i1 (gf rfl)
        | 3, _ => exact s_call1 enter_top (top_any _ (p) (b) (le3n gp (by decide)) w' (hp 2 rfl)) (gf rfl)
        | 4, _ => exact s_call2 enter_low (low_any _ _ (bel (b)) (p) (le3n (bel_lt gb) (by decide)) (le3n gp (by decide)) w' (hp 1 rfl) (hp 3 rfl)) (gf rfl)
        | 5, _ => exact absurd rfl (hns _ (.head _))
        | 6, _ => exact s_cassign rfl (gf rfl)
        | _ + 7, h => exact absurd h (by omega)
      · refine fac ?_ (fan)
        · intro a w' hb hiv hk hp ho hf
          exact sX_R ((hk 2 (by decide)).trans t2_4) ho.1 (hp 4 rfl) (hp 4 rfl) b2_1.1 (by simp) trivial
      intro a5 w5 hb5 hd5 hs5 hk5 hiv5 hsp5 hst5 hds5
      have hB5 := hB4.trans hb5
      replace hd5 := hd5.trans hd4
      obtain ⟨⟨n1_5, i1_5⟩, _⟩ := hiv5
      have t2_5 := (hk5 2 (by decide)).trans t2_4
      obtain ⟨v2_5, n2_5, I2_5⟩ := txR (hst5 _ (.head _)) t2_5
      obtain ⟨v3_5, t3_5, I3_5⟩ : ∃ v, a5.tmps[3]? = some v ∧ v = (.bool true) := tv_get (k := 3) (hsp5 6 (by decide) (fac (nq rfl) fan)) (by omega)
      clear hb5 hk5 hsp5 hst5 hds5
      refine wp_ret ?_
      repeat first | refine then_ret ?_ | refine inBlock_ret ?_
      rw [I3_5] at t3_5
      refine bodyPost_ret (res_Rb rfl t2_5 t3_5 n2_5) hd5 ⟨_, rfl, hB5, ?_⟩
      exact ⟨_, _, _, _, rfl, I2_5, by simp; omega, fun _ => by first | exact ⟨rfl, rfl⟩ | omega, fun _ => by first | exact ⟨rfl, rfl⟩ | omega, fun _ => by first | exact ⟨rfl, rfl⟩ | omega⟩
    · skip
      refine wp_cond_false (show Act.eval a4 (.tmp 16) = .bool false by rw [eval_of t16_4, I16_4]; simp [sgn_p1, hc16]) ?_
      refine wp_skip ?_
      change Code.wp _ _ _ _ _
      refine wp_seq ?_
      refine fx3 (fun r => r = r2_1) (fun _ _ => True) (l := regionOf Tryz.f9 6) false (by kernel_rfl) 3 24 w.heap.size [2]
        [Xrat _ _ 0 0, Sx.any _, Xval _ _ (.bool false)]
        (Sx.any _) [(2, none)] [stXR 1 2 (Xrat _ _ 0 0) r2_1 zaR (Xrat _ _ 0 0)]
        (by kernel_rfl) (by kernel_rfl) (by kernel_rfl) hs4 trivial hB4.size (fac (fun _ _ => trivial) fan) (show ([1] : List Nat).Nodup by decide) (fac (.inr (And.intro (show (2 : Nat) ∈ ([2] : List Nat) by decide) (And.intro (.head _) (getD_of t2_4)))) fan) (fac (And.intro n2_4 i2_4) fan) (fac (fun _ => ⟨r2_1, getD_of t2_4, n2_4.lt⟩) fan) (dis_one rfl) (fac (fun i hi => by cases hi) fan) ?_ ?_ ?_
      · intro i hi hns a w' hb hiv hk hp hold
        obtain ⟨_⟩ := hiv
        match i, hi with
        | 0, _ => exact s_bldRz  (fun _ h => h) (gf rfl)
        | 1, _ => exact absurd rfl (hns _ (.head _))
        | 2, _ => exact s_cassign rfl (gf rfl)
        | _ + 3, h => exact absurd h (by omega)
      · refine fac ?_ (fan)
        · intro a w' hb hiv hk hp ho hf
          exact sX_R ((hk 2 (by decide)).trans t2_4) ho.1 (hp 0 rfl) (hp 0 rfl) b2_1.1 (by simp) trivial
      intro a5 w5 hb5 hd5 hs5 hk5 hiv5 hsp5 hst5 hds5
      have hB5 := hB4.trans hb5
      replace hd5 := hd5.trans hd4
      have t2_5 := (hk5 2 (by decide)).trans t2_4
      obtain ⟨v2_5, n2_5, I2_5⟩ := txR (hst5 _ (.head _)) t2_5
      obtain ⟨v3_5, t3_5, I3_5⟩ : ∃ v, a5.tmps[3]? = some v ∧ v = (.bool false) := tv_get (k := 3) (hsp5 2 (by decide) (fac (nq rfl) fan)) (by omega)
      clear hb5 hk5 hsp5 hst5 hds5 hiv5
      refine wp_ret ?_
      repeat first | refine then_ret ?_ | refine inBlock_ret ?_
      rw [I3_5] at t3_5
      refine bodyPost_ret (res_Rb rfl t2_5 t3_5 n2_5) hd5 ⟨_, rfl, hB5, ?_⟩
      exact ⟨_, _, _, _, rfl, I2_5, by simp; omega, fun _ => by first | exact ⟨rfl, rfl⟩ | omega, fun _ => by first | exact ⟨rfl, rfl⟩ | omega, fun _ => by first | exact ⟨rfl, rfl⟩ | omega⟩

end Go.Proofs.YtlcfldkmojpkpaaGreatDoor

/- The document's fractions, by program. -/
namespace Go.Proofs.YtlcfldkmojpkpaaGreatDoor
open Go Go.RowKit

theorem T4.pw_one1 : (((1 : Int).natAbs : Nat) : Int) < T4.pw 1 := by decide
theorem enter_frac : Enters Tryz.prog 35 := ⟨fun xs w => by go_simp⟩
theorem T4.le7 {z : Int} {k : Nat} (h : (z.natAbs : Int) < T4.pw k) (hk : k ≤ 700) : (z.natAbs : Int) < T4.pw 700 := Int.lt_of_lt_of_le h (T4.pw_mono hk)
theorem quoN_ct (va vb : Value) (za zb : Int) (w : World) (hA : IsN w va za) (hB : IsN w vb zb) (hza : (za.natAbs : Int) < T4.pw 3000) (hzb : (zb.natAbs : Int) < T4.pw 3000) :
    Calls Tryz.prog 10 #[va, vb] w fun e w' => ∃ r, e = .returned r ∧ Below w.heap.size w w' ∧ ∃ xx yy, r = .tuple #[xx, yy] ∧ IsN w' xx (za / zb) ∧ IsN w' yy (za % zb) := by
  refine Calls.mono (quoN_any va vb za zb w hA hB hza hzb) ?_
  rintro e w' ⟨r1, r2, rfl, hb, h1, h2⟩
  exact ⟨_, rfl, hb, r1, r2, rfl, h1, h2⟩
theorem signN_ct (v : Value) (z : Int) (w : World) (h : IsN w v z) : Calls Tryz.prog 64 #[v] w fun e w' => ∃ r, e = .returned r ∧ Below w.heap.size w w' ∧ r = .int .i64 (sgn z) :=
  Calls.mono (signN_any v z w h) fun _ _ ⟨h1, h2⟩ => ⟨_, h1, h2, rfl⟩
theorem cmpN_ct (va vb : Value) (za zb : Int) (w : World) (hA : IsN w va za) (hB : IsN w vb zb) (hza : (za.natAbs : Int) < T4.pw 9000) (hzb : (zb.natAbs : Int) < T4.pw 9000) :
    Calls Tryz.prog 53 #[va, vb] w fun e w' => ∃ r, e = .returned r ∧ Below w.heap.size w w' ∧ r = .int .i64 (sgn (za - zb)) :=
  Calls.mono (cmpN_any va vb za zb w hA hB hza hzb) fun _ _ ⟨h1, h2⟩ => ⟨_, h1, h2, rfl⟩

/-- The document's fraction of two numbers: its top, its below. -/
def frT (z y : Int) : Int := if y = 0 then 0 else if y < 0 then (-z) / (Int.gcd (-z) (-y) : Int) else z / (Int.gcd z y : Int)
def frB (z y : Int) : Int := if y = 0 then 1 else if y < 0 then (-y) / (Int.gcd (-z) (-y) : Int) else y / (Int.gcd z y : Int)
set_option maxRecDepth 100000 in
set_option maxHeartbeats 1600000 in
theorem frac_any (v1 v2 : Value) (z y : Int) (hz : (z.natAbs : Int) < T4.pw 700) (hy : (y.natAbs : Int) < T4.pw 700) (w : World) (i0 : IsN w v1 z) (i1 : IsN w v2 y) :
    Calls Tryz.prog 35 #[v1, v2] w fun e w' => ∃ r, e = .returned r ∧ Below w.heap.size w w' ∧ ∃ xx yy, r = .tuple #[xx, yy] ∧ IsQ w' xx (frT z y) (frB z y) ∧ yy = .bool (decide (y ≠ 0)) := by
  refine calls_act (fn := Tryz.f35) (by kernel_rfl) rfl (N := 41) (by kernel_rfl) (by simp) ?_
  intro a0 hs0 hd0 hx0
  have t0 : a0.tmps[0]? = some v1 := hx0 0 _ rfl
  have t1 : a0.tmps[1]? = some v2 := hx0 1 _ rfl
  clear hx0
  have hB0 : Below w.heap.size w w := Below.refl _ _
  refine wp_seq ?_
  refine fxN (fun _ => False) Zr (l := regionOf Tryz.f35 0) false (by kernel_rfl) 4 41 w.heap.size [0, 1]
    [XoN _ w.heap.size v1 (Xdoc _ _ (fun _ _ h => h) z), XoN _ w.heap.size v2 (Xdoc _ _ (fun _ _ h => h) y), XoQ _ w.heap.size zaQ (Xfr _ _ (fun _ _ h => h) 0 0), Xval _ _ (.bool false)]
    (Sx.and (Sx.at (Xdoc _ _ (fun _ _ h => h) z) v1) (Sx.and (Sx.at (Xdoc _ _ (fun _ _ h => h) y) v2) (Sx.any _))) [(2, some 0), (3, some 1), (4, some 2)] [] (by kernel_rfl) (by kernel_rfl) (by kernel_rfl) hs0 (And.intro i0 (And.intro i1 trivial)) hB0.size List.nodup_nil fan (fac (npN rfl) (fac (npN rfl) (fac (npQ rfl) fan))) ?_ ?_ ?_
  · intro i hi hns a w' hb hiv hk hp hold
    obtain ⟨i0, i1, _⟩ := hiv
    have k0 := (hk 0 (by decide)).trans t0
    have k1 := (hk 1 (by decide)).trans t1
    match i, hi with
    | 0, _ => exact sB_N hb.size k0 i0 i0 rfl
    | 1, _ => exact sB_N hb.size k1 i1 i1 rfl
    | 2, _ => exact sO_Q hb.size isQ_zero rfl
    | 3, _ => exact s_cassign rfl (gf rfl)
    | _ + 4, h => exact absurd h (by omega)
  · exact fan
  intro a1 w1 hb1 hd1 hs1 hk1 hiv1 hsp1 hst1 hds1
  have hB1 := hB0.trans hb1
  replace hd1 := hd1.trans hd0
  obtain ⟨i0_1, i1_1, _⟩ := hiv1
  obtain ⟨r2_1, t2_1, b2_1, n2_1, I2_1⟩ := toN (k := 2) (hsp1 0 (by decide) fan) hB0.size (by omega)
  obtain ⟨r3_1, t3_1, b3_1, n3_1, I3_1⟩ := toN (k := 3) (hsp1 1 (by decide) fan) hB0.size (by omega)
  obtain ⟨r4_1, t4_1, b4_1, n4_1, I4_1⟩ := toQ (k := 4) (hsp1 2 (by decide) fan) hB0.size (by omega)
  obtain ⟨v5_1, t5_1, I5_1⟩ : ∃ v, a1.tmps[5]? = some v ∧ v = (.bool false) := tv_get (k := 5) (hsp1 3 (by decide) fan) (by omega)
  have ne2_3_1 : r2_1 ≠ r3_1 := ne_ptr (hds1 (2, some 0) (.head _) (3, some 1) (.tail _ (.head _)) (by decide)) t2_1 t3_1
  have ne2_4_1 : r2_1 ≠ r4_1 := ne_ptr (hds1 (2, some 0) (.head _) (4, some 2) (.tail _ (.tail _ (.head _))) (by decide)) t2_1 t4_1
  have ne3_4_1 : r3_1 ≠ r4_1 := ne_ptr (hds1 (3, some 1) (.tail _ (.head _)) (4, some 2) (.tail _ (.tail _ (.head _))) (by decide)) t3_1 t4_1
  clear hb1 hk1 hsp1 hst1 hds1
  refine wp_seq ?_
  refine wp_seq ?_
  refine fx3n Zr (l := regionOf Tryz.f35 1) false (by kernel_rfl) 3 41 w.heap.size [2, 3, 4, 5] [Xdoc _ _ (fun _ _ h => h) y, Xval _ _ (.int .i64 (sgn (y))), Xval _ _ (.bool ((sgn (y)) == 0))] (Sx.and (XhN r2_1 (fun h => h) v1 (Xdoc _ _ (fun _ _ h => h) z)) (Sx.and (XhN r3_1 (fun h => h) v2 (Xdoc _ _ (fun _ _ h => h) y)) (Sx.and (XhQ r4_1 (fun h => h) zaQ (Xfr _ _ (fun _ _ h => h) 0 0)) (Sx.any _)))) (by kernel_rfl) (by kernel_rfl) (by kernel_rfl) hs1 (And.intro (And.intro n2_1 I2_1) (And.intro (And.intro n3_1 I3_1) (And.intro (And.intro n4_1 I4_1) trivial))) hB1.size ?_ ?_
  · intro i hi a w' hb hiv hk hp
    obtain ⟨⟨n2, i2⟩, ⟨n3, i3⟩, ⟨n4, i4⟩, _⟩ := hiv
    have k3 := (hk 3 (by decide)).trans t3_1
    match i, hi with
    | 0, _ => exact s_load k3 (load_NB n3) i3 gt
    | 1, _ => exact s_call1 enter_signN (signN_ct _ (y) w' (hp 0 rfl)) gt
    | 2, _ => exact s_eql (hp 1 rfl) rfl rfl gt
    | _ + 3, h => exact absurd h (by omega)
  intro a2 w2 hb2 hd2 hs2 hk2 hiv2 hsp2
  have hB2 := hB1.trans hb2
  replace hd2 := hd2.trans hd1
  obtain ⟨⟨n2_2, i2_2⟩, ⟨n3_2, i3_2⟩, ⟨n4_2, i4_2⟩, _⟩ := hiv2
  have t2_2 := (hk2 2 (by decide)).trans t2_1
  have t3_2 := (hk2 3 (by decide)).trans t3_1
  have t4_2 := (hk2 4 (by decide)).trans t4_1
  have t5_2 := (hk2 5 (by decide)).trans t5_1
  obtain ⟨v13_2, t13_2, I13_2⟩ : ∃ v, a2.tmps[13]? = some v ∧ v = (.bool ((sgn (y)) == 0)) := tv_get (k := 13) (hsp2 2 (by decide)) (by omega)
  clear hb2 hk2 hsp2
  by_cases hc13 : y = 0
  · skip
    refine wp_cond_true (show Act.eval a2 (.tmp 13) = .bool true by rw [eval_of t13_2, I13_2]; simp [sgn_zero, hc13]) ?_
    refine wp_seq ?_
    refine fx3 (fun r => r = r4_1) Zr (l := regionOf Tryz.f35 2) false (by kernel_rfl) 4 41 w.heap.size [2, 3, 4]
      [Xdoc _ _ (fun _ _ h => h) 1, Xfr _ _ (fun _ _ h => h) 0 1, Sx.any _, Xval _ _ (.bool false)]
      (Sx.and (XhN r2_1 (show ¬ (r2_1 = r4_1) by have := n2_2.lt; omega) v1 (Xdoc _ _ (fun _ _ h => h) z)) (Sx.and (XhN r3_1 (show ¬ (r3_1 = r4_1) by have := n3_2.lt; omega) v2 (Xdoc _ _ (fun _ _ h => h) y)) (Sx.any _))) [(4, none)] [stXQ 2 4 (Xfr _ _ (fun _ _ h => h) 0 1) r4_1 zaQ (Xfr _ _ (fun _ _ h => h) 0 0)]
      (by kernel_rfl) (by kernel_rfl) (by kernel_rfl) hs2 (And.intro (And.intro n2_2 i2_2) (And.intro (And.intro n3_2 i3_2) trivial)) hB2.size (fac (fun _ _ => trivial) fan) (show ([2] : List Nat).Nodup by decide) (fac (.inr (And.intro (show (4 : Nat) ∈ ([2, 3, 4] : List Nat) by decide) (And.intro (.head _) (getD_of t4_2)))) fan) (fac (And.intro n4_2 i4_2) fan) (fac (fun _ => ⟨r4_1, getD_of t4_2, n4_2.lt⟩) fan) (dis_one rfl) (fac (fun i hi => by cases hi) fan) ?_ ?_ ?_
    · intro i hi hns a w' hb hiv hk hp hold
      obtain ⟨⟨n2, i2⟩, ⟨n3, i3⟩, _⟩ := hiv
      match i, hi with
      | 0, _ => exact s_callC enter_ofN (ofN_any 1 w' (by decide) (by decide)) (gf rfl)
      | 1, _ => exact s_bldQ1 (hp 0 rfl) (fun _ h => h) (gf rfl)
      | 2, _ => exact absurd rfl (hns _ (.head _))
      | 3, _ => exact s_cassign rfl (gf rfl)
      | _ + 4, h => exact absurd h (by omega)
    · refine fac ?_ (fan)
      · intro a w' hb hiv hk hp ho hf
        exact sX_Q ((hk 4 (by decide)).trans t4_2) ho.1 (hp 1 rfl) (hp 1 rfl) b4_1.1 (by simp) ho.1.zr0
    intro a3 w3 hb3 hd3 hs3 hk3 hiv3 hsp3 hst3 hds3
    have hB3 := hB2.trans hb3
    replace hd3 := hd3.trans hd2
    obtain ⟨⟨n2_3, i2_3⟩, ⟨n3_3, i3_3⟩, _⟩ := hiv3
    have t2_3 := (hk3 2 (by decide)).trans t2_2
    have t3_3 := (hk3 3 (by decide)).trans t3_2
    have t4_3 := (hk3 4 (by decide)).trans t4_2
    obtain ⟨v4_3, n4_3, I4_3⟩ := txQ (hst3 _ (.head _)) t4_3
    obtain ⟨v5_3, t5_3, I5_3⟩ : ∃ v, a3.tmps[5]? = some v ∧ v = (.bool false) := tv_get (k := 5) (hsp3 3 (by decide) (fac (nq rfl) fan)) (by omega)
    clear hb3 hk3 hsp3 hst3 hds3
    refine wp_ret ?_
    repeat first | refine then_ret ?_ | refine inBlock_ret ?_
    rw [I5_3] at t5_3
    refine bodyPost_ret (res_Qb rfl t4_3 t5_3 n4_3) hd3 ⟨_, rfl, hB3, ?_⟩
    exact ⟨_, _, rfl, by unfold frT frB; rw [if_pos hc13, if_pos hc13]; exact I4_3, by simp [hc13]⟩
  · skip
    refine wp_cond_false (show Act.eval a2 (.tmp 13) = .bool false by rw [eval_of t13_2, I13_2]; simp [sgn_zero, hc13]) ?_
    refine wp_skip ?_
    change Code.wp _ _ _ _ _
    refine wp_seq ?_
    refine wp_seq ?_
    refine fx3n Zr (l := regionOf Tryz.f35 3) false (by kernel_rfl) 3 41 w.heap.size [2, 3, 4, 5] [Xdoc _ _ (fun _ _ h => h) y, Xval _ _ (.int .i64 (sgn (y))), Xval _ _ (.bool (decide ((sgn (y)) < 0)))] (Sx.and (XhN r2_1 (fun h => h) v1 (Xdoc _ _ (fun _ _ h => h) z)) (Sx.and (XhN r3_1 (fun h => h) v2 (Xdoc _ _ (fun _ _ h => h) y)) (Sx.and (XhQ r4_1 (fun h => h) zaQ (Xfr _ _ (fun _ _ h => h) 0 0)) (Sx.any _)))) (by kernel_rfl) (by kernel_rfl) (by kernel_rfl) hs2 (And.intro (And.intro n2_2 i2_2) (And.intro (And.intro n3_2 i3_2) (And.intro (And.intro n4_2 i4_2) trivial))) hB2.size ?_ ?_
    · intro i hi a w' hb hiv hk hp
      obtain ⟨⟨n2, i2⟩, ⟨n3, i3⟩, ⟨n4, i4⟩, _⟩ := hiv
      have k3 := (hk 3 (by decide)).trans t3_2
      match i, hi with
      | 0, _ => exact s_load k3 (load_NB n3) i3 gt
      | 1, _ => exact s_call1 enter_signN (signN_ct _ (y) w' (hp 0 rfl)) gt
      | 2, _ => exact s_lss (hp 1 rfl) rfl rfl gt
      | _ + 3, h => exact absurd h (by omega)
    intro a3 w3 hb3 hd3 hs3 hk3 hiv3 hsp3
    have hB3 := hB2.trans hb3
    replace hd3 := hd3.trans hd2
    obtain ⟨⟨n2_3, i2_3⟩, ⟨n3_3, i3_3⟩, ⟨n4_3, i4_3⟩, _⟩ := hiv3
    have t2_3 := (hk3 2 (by decide)).trans t2_2
    have t3_3 := (hk3 3 (by decide)).trans t3_2
    have t4_3 := (hk3 4 (by decide)).trans t4_2
    have t5_3 := (hk3 5 (by decide)).trans t5_2
    obtain ⟨v18_3, t18_3, I18_3⟩ : ∃ v, a3.tmps[18]? = some v ∧ v = (.bool (decide ((sgn (y)) < 0))) := tv_get (k := 18) (hsp3 2 (by decide)) (by omega)
    clear hb3 hk3 hsp3
    by_cases hc18 : y < 0
    · skip
      refine wp_cond_true (show Act.eval a3 (.tmp 18) = .bool true by rw [eval_of t18_3, I18_3]; simp [sgn_neg, hc18]) ?_
      refine fx3 (fun r => r = r2_1 ∨ r = r3_1) Zr (l := regionOf Tryz.f35 4) true (by kernel_rfl) 6 41 w.heap.size [2, 3, 4, 5]
        [Xdoc _ _ (fun _ _ h => h) z, Xdoc _ _ (fun _ _ h => h) (-z), Xdoc _ _ (fun _ _ h => h) y, Xdoc _ _ (fun _ _ h => h) (-y), Sx.any _, Sx.any _]
        (Sx.and (XhQ r4_1 (show ¬ (r4_1 = r2_1 ∨ r4_1 = r3_1) by have := n4_3.lt; omega) zaQ (Xfr _ _ (fun _ _ h => h) 0 0)) (Sx.any _)) [(2, none), (3, none)] [stXN 4 2 (Xdoc _ _ (fun _ _ h => h) (-z)) r2_1 v1 (Xdoc _ _ (fun _ _ h => h) z), stXN 5 3 (Xdoc _ _ (fun _ _ h => h) (-y)) r3_1 v2 (Xdoc _ _ (fun _ _ h => h) y)]
        (by kernel_rfl) (by kernel_rfl) (by kernel_rfl) hs3 (And.intro (And.intro n4_3 i4_3) trivial) hB3.size (fac (fun _ _ => trivial) (fac (fun _ _ => trivial) fan)) (show ([4, 5] : List Nat).Nodup by decide) (fac (.inr (And.intro (show (2 : Nat) ∈ ([2, 3, 4, 5] : List Nat) by decide) (And.intro (.head _) (getD_of t2_3)))) (fac (.inr (And.intro (show (3 : Nat) ∈ ([2, 3, 4, 5] : List Nat) by decide) (And.intro (.tail _ (.head _)) (getD_of t3_3)))) fan)) (fac (And.intro n2_3 i2_3) (fac (And.intro n3_3 i3_3) fan)) (fac (fun _ => ⟨r2_1, getD_of t2_3, n2_3.lt⟩) (fac (fun _ => ⟨r3_1, getD_of t3_3, n3_3.lt⟩) fan)) (dis_two t2_3 t3_3 ne2_3_1 rfl) (fac (fun i hi => by cases hi) (fac (fun i hi => by cases hi) fan)) ?_ ?_ ?_
      · intro i hi hns a w' hb hiv hk hp hold
        obtain ⟨⟨n4, i4⟩, _⟩ := hiv
        have k2 := (hk 2 (by decide)).trans t2_3
        have k3 := (hk 3 (by decide)).trans t3_3
        match i, hi with
        | 0, _ =>
          obtain ⟨n2, i2⟩ := hold _ (.head _) (by kernel_rfl)
          exact s_load k2 (load_NB n2) i2 (gf rfl)
        | 1, _ => exact s_call1 enter_negN (negN_any _ (z) w' (hp 0 rfl)) (gf rfl)
        | 2, _ =>
          obtain ⟨n3, i3⟩ := hold _ (.tail _ (.head _)) (by kernel_rfl)
          exact s_load k3 (load_NB n3) i3 (gf rfl)
        | 3, _ => exact s_call1 enter_negN (negN_any _ (y) w' (hp 2 rfl)) (gf rfl)
        | 4, _ => exact absurd rfl (hns _ (.head _))
        | 5, _ => exact absurd rfl (hns _ (.tail _ (.head _)))
        | _ + 6, h => exact absurd h (by omega)
      · refine fac ?_ (fac ?_ (fan))
        · intro a w' hb hiv hk hp ho hf
          exact sX_N ((hk 2 (by decide)).trans t2_3) ho.1 (hp 1 rfl) (hp 1 rfl) b2_1.1 (by simp) ho.1.zr0
        · intro a w' hb hiv hk hp ho hf
          exact sX_N ((hk 3 (by decide)).trans t3_3) ho.1 (hp 3 rfl) (hp 3 rfl) b3_1.1 (by simp) ho.1.zr0
      intro a4 w4 hb4 hd4 hs4 hk4 hiv4 hsp4 hst4 hds4
      have hB4 := hB3.trans hb4
      replace hd4 := hd4.trans hd3
      obtain ⟨⟨n4_4, i4_4⟩, _⟩ := hiv4
      have t2_4 := (hk4 2 (by decide)).trans t2_3
      have t3_4 := (hk4 3 (by decide)).trans t3_3
      have t4_4 := (hk4 4 (by decide)).trans t4_3
      have t5_4 := (hk4 5 (by decide)).trans t5_3
      obtain ⟨v2_4, n2_4, I2_4⟩ := txN (hst4 _ (.head _)) t2_4
      obtain ⟨v3_4, n3_4, I3_4⟩ := txN (hst4 _ (.tail _ (.head _))) t3_4
      clear hb4 hk4 hsp4 hst4 hds4
      change Code.wp _ _ _ _ _
      refine wp_seq ?_
      refine fxN (fun r => w4.heap.size ≤ r) Zr (l := regionOf Tryz.f35 5) false (by kernel_rfl) 5 41 w.heap.size [2, 3, 4, 5]
        [Xdoc _ _ (fun _ _ h => h) (-z), Xdoc _ _ (fun _ _ h => h) (-y), Xdoc _ _ (fun _ _ h => h) (Int.gcd (-z) (-y) : Int), Sx.box _ w4.heap.size 31, Sx.any _]
        (Sx.and (XhN r2_1 (Nat.not_le_of_lt n2_4.lt) v2_4 (Xdoc _ _ (fun _ _ h => h) (-z))) (Sx.and (XhN r3_1 (Nat.not_le_of_lt n3_4.lt) v3_4 (Xdoc _ _ (fun _ _ h => h) (-y))) (Sx.and (XhQ r4_1 (Nat.not_le_of_lt n4_4.lt) zaQ (Xfr _ _ (fun _ _ h => h) 0 0)) (Sx.any _)))) [(6, some 3)] [stNN 4 6 (Xdoc _ _ (fun _ _ h => h) (Int.gcd (-z) (-y) : Int))] (by kernel_rfl) (by kernel_rfl) (by kernel_rfl) hs4 (And.intro (And.intro n2_4 I2_4) (And.intro (And.intro n3_4 I3_4) (And.intro (And.intro n4_4 i4_4) trivial))) hB4.size (show ([4] : List Nat).Nodup by decide) (fac nst fan) (fac (nby rfl) fan) ?_ ?_ ?_
      · intro i hi hns a w' hb hiv hk hp hold
        obtain ⟨⟨n2, i2⟩, ⟨n3, i3⟩, ⟨n4, i4⟩, _⟩ := hiv
        have k2 := (hk 2 (by decide)).trans t2_4
        have k3 := (hk 3 (by decide)).trans t3_4
        match i, hi with
        | 0, _ => exact s_load k2 (load_NB n2) i2 (gf rfl)
        | 1, _ => exact s_load k3 (load_NB n3) i3 (gf rfl)
        | 2, _ => exact s_call2 enter_gcdN (gcdN_any _ _ (-z) (-y) w' (hp 0 rfl) (hp 1 rfl) (T4.le3 (T4.neg_lt hz) (by decide)) (T4.le3 (T4.neg_lt hy) (by decide))) (gf rfl)
        | 3, _ => exact sA_N hb.size hb.size (fac (zN w') fan)
        | 4, _ => exact absurd rfl (hns _ (.head _))
        | _ + 5, h => exact absurd h (by omega)
      · refine fac ?_ (fan)
        · intro a w' hb hiv hk hp ho hf
          exact sN_N (hp 3 rfl) (hp 2 rfl) (hp 2 rfl) hB4.size (hf 3 (.head _)) (fun _ h => h)
      intro a5 w5 hb5 hd5 hs5 hk5 hiv5 hsp5 hst5 hds5
      have hB5 := hB4.trans hb5
      replace hd5 := hd5.trans hd4
      obtain ⟨⟨n2_5, i2_5⟩, ⟨n3_5, i3_5⟩, ⟨n4_5, i4_5⟩, _⟩ := hiv5
      have t2_5 := (hk5 2 (by decide)).trans t2_4
      have t3_5 := (hk5 3 (by decide)).trans t3_4
      have t4_5 := (hk5 4 (by decide)).trans t4_4
      have t5_5 := (hk5 5 (by decide)).trans t5_4
      obtain ⟨r6_5, v6_5, t6_5, b6_5, n6_5, I6_5⟩ := tnN (k := 6) (hst5 _ (.head _)) (hsp5 3 (by decide) (fac (nq rfl) fan)) hB4.size (by omega)
      have ne2_6_5 : r2_1 ≠ r6_5 := by have := n2_4.lt; have := b6_5.2; omega
      have ne3_6_5 : r3_1 ≠ r6_5 := by have := n3_4.lt; have := b6_5.2; omega
      have ne4_6_5 : r4_1 ≠ r6_5 := by have := n4_4.lt; have := b6_5.2; omega
      clear hb5 hk5 hsp5 hst5 hds5
      refine wp_seq ?_
      refine fxN (fun r => w5.heap.size ≤ r) Zr (l := regionOf Tryz.f35 6) false (by kernel_rfl) 10 41 w.heap.size [2, 3, 4, 5, 6]
        [Xdoc _ _ (fun _ _ h => h) (-z), Xdoc _ _ (fun _ _ h => h) (Int.gcd (-z) (-y) : Int), Xtup (Xdoc _ _ (fun _ _ h => h) (-z / ((Int.gcd (-z) (-y) : Int)))) (Xdoc _ _ (fun _ _ h => h) (-z % ((Int.gcd (-z) (-y) : Int)))), Xtup (Xdoc _ _ (fun _ _ h => h) (-z / ((Int.gcd (-z) (-y) : Int)))) (Xdoc _ _ (fun _ _ h => h) (-z % ((Int.gcd (-z) (-y) : Int)))), Xdoc _ _ (fun _ _ h => h) (-z / ((Int.gcd (-z) (-y) : Int))), Xdoc _ _ (fun _ _ h => h) (-z % ((Int.gcd (-z) (-y) : Int))), Sx.box _ w5.heap.size 31, Sx.box _ w5.heap.size 31, Sx.any _, Sx.any _]
        (Sx.and (XhN r2_1 (Nat.not_le_of_lt n2_5.lt) v2_4 (Xdoc _ _ (fun _ _ h => h) (-z))) (Sx.and (XhN r3_1 (Nat.not_le_of_lt n3_5.lt) v3_4 (Xdoc _ _ (fun _ _ h => h) (-y))) (Sx.and (XhQ r4_1 (Nat.not_le_of_lt n4_5.lt) zaQ (Xfr _ _ (fun _ _ h => h) 0 0)) (Sx.and (XhN r6_5 (Nat.not_le_of_lt n6_5.lt) v6_5 (Xdoc _ _ (fun _ _ h => h) (Int.gcd (-z) (-y) : Int))) (Sx.any _))))) [(7, some 6), (8, some 7)] [stNN 8 7 (Xdoc _ _ (fun _ _ h => h) (-z / ((Int.gcd (-z) (-y) : Int)))), stNN 9 8 (Xdoc _ _ (fun _ _ h => h) (-z % ((Int.gcd (-z) (-y) : Int))))] (by kernel_rfl) (by kernel_rfl) (by kernel_rfl) hs5 (And.intro (And.intro n2_5 i2_5) (And.intro (And.intro n3_5 i3_5) (And.intro (And.intro n4_5 i4_5) (And.intro (And.intro n6_5 I6_5) trivial)))) hB5.size (show ([8, 9] : List Nat).Nodup by decide) (fac nst (fac nst fan)) (fac (nby rfl) (fac (nby rfl) fan)) ?_ ?_ ?_
      · intro i hi hns a w' hb hiv hk hp hold
        obtain ⟨⟨n2, i2⟩, ⟨n3, i3⟩, ⟨n4, i4⟩, ⟨n6, i6⟩, _⟩ := hiv
        have k2 := (hk 2 (by decide)).trans t2_5
        have k6 := (hk 6 (by decide)).trans t6_5
        match i, hi with
        | 0, _ => exact s_load k2 (load_NB n2) i2 (gf rfl)
        | 1, _ => exact s_load k6 (load_NB n6) i6 (gf rfl)
        | 2, _ => exact s_call2 enter_quoN (quoN_ct _ _ (-z) ((Int.gcd (-z) (-y) : Int)) w' (hp 0 rfl) (hp 1 rfl) (T4.le3 (T4.neg_lt hz) (by decide)) (T4.le3 (T4.gcd_lt2 (T4.neg_lt hz) (T4.neg_lt hy)) (by decide))) (gf rfl)
        | 3, _ => exact s_move (hp 2 rfl) (gf rfl)
        | 4, _ => exact s_ext0 (hp 3 rfl) (gf rfl)
        | 5, _ => exact s_ext1 (hp 3 rfl) (gf rfl)
        | 6, _ => exact sA_N hb.size hb.size (fac (zN w') (fac (zN w') fan))
        | 7, _ => exact sA_N hb.size hb.size (fac (zN w') (fac (zN w') fan))
        | 8, _ => exact absurd rfl (hns _ (.head _))
        | 9, _ => exact absurd rfl (hns _ (.tail _ (.head _)))
        | _ + 10, h => exact absurd h (by omega)
      · refine fac ?_ (fac ?_ (fan))
        · intro a w' hb hiv hk hp ho hf
          exact sN_N (hp 6 rfl) (hp 4 rfl) (hp 4 rfl) hB5.size (hf 6 (.head _)) (fun _ h => h)
        · intro a w' hb hiv hk hp ho hf
          exact sN_N (hp 7 rfl) (hp 5 rfl) (hp 5 rfl) hB5.size (hf 7 (.tail _ (.head _))) (fun _ h => h)
      intro a6 w6 hb6 hd6 hs6 hk6 hiv6 hsp6 hst6 hds6
      have hB6 := hB5.trans hb6
      replace hd6 := hd6.trans hd5
      obtain ⟨⟨n2_6, i2_6⟩, ⟨n3_6, i3_6⟩, ⟨n4_6, i4_6⟩, ⟨n6_6, i6_6⟩, _⟩ := hiv6
      have t3_6 := (hk6 3 (by decide)).trans t3_5
      have t4_6 := (hk6 4 (by decide)).trans t4_5
      have t5_6 := (hk6 5 (by decide)).trans t5_5
      have t6_6 := (hk6 6 (by decide)).trans t6_5
      obtain ⟨r7_6, v7_6, t7_6, b7_6, n7_6, I7_6⟩ := tnN (k := 7) (hst6 _ (.head _)) (hsp6 6 (by decide) (fac (nq rfl) (fac (nq rfl) fan))) hB5.size (by omega)
      have ne3_7_6 : r3_1 ≠ r7_6 := by have := n3_5.lt; have := b7_6.2; omega
      have ne4_7_6 : r4_1 ≠ r7_6 := by have := n4_5.lt; have := b7_6.2; omega
      clear hb6 hk6 hsp6 hst6 hds6
      refine wp_seq ?_
      refine fxN (fun r => w6.heap.size ≤ r) Zr (l := regionOf Tryz.f35 7) false (by kernel_rfl) 10 41 w.heap.size [3, 4, 5, 6, 7]
        [Xdoc _ _ (fun _ _ h => h) (-y), Xdoc _ _ (fun _ _ h => h) (Int.gcd (-z) (-y) : Int), Xtup (Xdoc _ _ (fun _ _ h => h) (-y / ((Int.gcd (-z) (-y) : Int)))) (Xdoc _ _ (fun _ _ h => h) (-y % ((Int.gcd (-z) (-y) : Int)))), Xtup (Xdoc _ _ (fun _ _ h => h) (-y / ((Int.gcd (-z) (-y) : Int)))) (Xdoc _ _ (fun _ _ h => h) (-y % ((Int.gcd (-z) (-y) : Int)))), Xdoc _ _ (fun _ _ h => h) (-y / ((Int.gcd (-z) (-y) : Int))), Xdoc _ _ (fun _ _ h => h) (-y % ((Int.gcd (-z) (-y) : Int))), Sx.box _ w6.heap.size 31, Sx.box _ w6.heap.size 31, Sx.any _, Sx.any _]
        (Sx.and (XhN r3_1 (Nat.not_le_of_lt n3_6.lt) v3_4 (Xdoc _ _ (fun _ _ h => h) (-y))) (Sx.and (XhQ r4_1 (Nat.not_le_of_lt n4_6.lt) zaQ (Xfr _ _ (fun _ _ h => h) 0 0)) (Sx.and (XhN r6_5 (Nat.not_le_of_lt n6_6.lt) v6_5 (Xdoc _ _ (fun _ _ h => h) (Int.gcd (-z) (-y) : Int))) (Sx.and (XhN r7_6 (Nat.not_le_of_lt n7_6.lt) v7_6 (Xdoc _ _ (fun _ _ h => h) (-z / ((Int.gcd (-z) (-y) : Int))))) (Sx.any _))))) [(9, some 6), (10, some 7)] [stNN 8 9 (Xdoc _ _ (fun _ _ h => h) (-y / ((Int.gcd (-z) (-y) : Int)))), stNN 9 10 (Xdoc _ _ (fun _ _ h => h) (-y % ((Int.gcd (-z) (-y) : Int))))] (by kernel_rfl) (by kernel_rfl) (by kernel_rfl) hs6 (And.intro (And.intro n3_6 i3_6) (And.intro (And.intro n4_6 i4_6) (And.intro (And.intro n6_6 i6_6) (And.intro (And.intro n7_6 I7_6) trivial)))) hB6.size (show ([8, 9] : List Nat).Nodup by decide) (fac nst (fac nst fan)) (fac (nby rfl) (fac (nby rfl) fan)) ?_ ?_ ?_
      · intro i hi hns a w' hb hiv hk hp hold
        obtain ⟨⟨n3, i3⟩, ⟨n4, i4⟩, ⟨n6, i6⟩, ⟨n7, i7⟩, _⟩ := hiv
        have k3 := (hk 3 (by decide)).trans t3_6
        have k6 := (hk 6 (by decide)).trans t6_6
        match i, hi with
        | 0, _ => exact s_load k3 (load_NB n3) i3 (gf rfl)
        | 1, _ => exact s_load k6 (load_NB n6) i6 (gf rfl)
        | 2, _ => exact s_call2 enter_quoN (quoN_ct _ _ (-y) ((Int.gcd (-z) (-y) : Int)) w' (hp 0 rfl) (hp 1 rfl) (T4.le3 (T4.neg_lt hy) (by decide)) (T4.le3 (T4.gcd_lt2 (T4.neg_lt hz) (T4.neg_lt hy)) (by decide))) (gf rfl)
        | 3, _ => exact s_move (hp 2 rfl) (gf rfl)
        | 4, _ => exact s_ext0 (hp 3 rfl) (gf rfl)
        | 5, _ => exact s_ext1 (hp 3 rfl) (gf rfl)
        | 6, _ => exact sA_N hb.size hb.size (fac (zN w') (fac (zN w') fan))
        | 7, _ => exact sA_N hb.size hb.size (fac (zN w') (fac (zN w') fan))
        | 8, _ => exact absurd rfl (hns _ (.head _))
        | 9, _ => exact absurd rfl (hns _ (.tail _ (.head _)))
        | _ + 10, h => exact absurd h (by omega)
      · refine fac ?_ (fac ?_ (fan))
        · intro a w' hb hiv hk hp ho hf
          exact sN_N (hp 6 rfl) (hp 4 rfl) (hp 4 rfl) hB6.size (hf 6 (.head _)) (fun _ h => h)
        · intro a w' hb hiv hk hp ho hf
          exact sN_N (hp 7 rfl) (hp 5 rfl) (hp 5 rfl) hB6.size (hf 7 (.tail _ (.head _))) (fun _ h => h)
      intro a7 w7 hb7 hd7 hs7 hk7 hiv7 hsp7 hst7 hds7
      have hB7 := hB6.trans hb7
      replace hd7 := hd7.trans hd6
      obtain ⟨⟨n3_7, i3_7⟩, ⟨n4_7, i4_7⟩, ⟨n6_7, i6_7⟩, ⟨n7_7, i7_7⟩, _⟩ := hiv7
      have t4_7 := (hk7 4 (by decide)).trans t4_6
      have t5_7 := (hk7 5 (by decide)).trans t5_6
      have t7_7 := (hk7 7 (by decide)).trans t7_6
      obtain ⟨r9_7, v9_7, t9_7, b9_7, n9_7, I9_7⟩ := tnN (k := 9) (hst7 _ (.head _)) (hsp7 6 (by decide) (fac (nq rfl) (fac (nq rfl) fan))) hB6.size (by omega)
      have ne4_9_7 : r4_1 ≠ r9_7 := by have := n4_6.lt; have := b9_7.2; omega
      clear hb7 hk7 hsp7 hst7 hds7
      refine wp_seq ?_
      refine fx3 (fun r => r = r4_1) Zr (l := regionOf Tryz.f35 8) false (by kernel_rfl) 5 41 w.heap.size [4, 7, 9]
        [Xdoc _ _ (fun _ _ h => h) (-z / ((Int.gcd (-z) (-y) : Int))), Xdoc _ _ (fun _ _ h => h) (-y / ((Int.gcd (-z) (-y) : Int))), Xfr _ _ (fun _ _ h => h) (-z / ((Int.gcd (-z) (-y) : Int))) (-y / ((Int.gcd (-z) (-y) : Int))), Sx.any _, Xval _ _ (.bool true)]
        (Sx.and (XhN r7_6 (show ¬ (r7_6 = r4_1) by have := n7_7.lt; omega) v7_6 (Xdoc _ _ (fun _ _ h => h) (-z / ((Int.gcd (-z) (-y) : Int))))) (Sx.and (XhN r9_7 (show ¬ (r9_7 = r4_1) by have := n9_7.lt; omega) v9_7 (Xdoc _ _ (fun _ _ h => h) (-y / ((Int.gcd (-z) (-y) : Int))))) (Sx.any _))) [(4, none)] [stXQ 3 4 (Xfr _ _ (fun _ _ h => h) (-z / ((Int.gcd (-z) (-y) : Int))) (-y / ((Int.gcd (-z) (-y) : Int)))) r4_1 zaQ (Xfr _ _ (fun _ _ h => h) 0 0)]
        (by kernel_rfl) (by kernel_rfl) (by kernel_rfl) hs7 (And.intro (And.intro n7_7 i7_7) (And.intro (And.intro n9_7 I9_7) trivial)) hB7.size (fac (fun _ _ => trivial) fan) (show ([3] : List Nat).Nodup by decide) (fac (.inr (And.intro (show (4 : Nat) ∈ ([4, 7, 9] : List Nat) by decide) (And.intro (.head _) (getD_of t4_7)))) fan) (fac (And.intro n4_7 i4_7) fan) (fac (fun _ => ⟨r4_1, getD_of t4_7, n4_7.lt⟩) fan) (dis_one rfl) (fac (fun i hi => by cases hi) fan) ?_ ?_ ?_
      · intro i hi hns a w' hb hiv hk hp hold
        obtain ⟨⟨n7, i7⟩, ⟨n9, i9⟩, _⟩ := hiv
        have k7 := (hk 7 (by decide)).trans t7_7
        have k9 := (hk 9 (by decide)).trans t9_7
        match i, hi with
        | 0, _ => exact s_load k7 (load_NB n7) i7 (gf rfl)
        | 1, _ => exact s_load k9 (load_NB n9) i9 (gf rfl)
        | 2, _ => exact s_bldQ (hp 0 rfl) (hp 1 rfl) (fun _ h => h) (gf rfl)
        | 3, _ => exact absurd rfl (hns _ (.head _))
        | 4, _ => exact s_cassign rfl (gf rfl)
        | _ + 5, h => exact absurd h (by omega)
      · refine fac ?_ (fan)
        · intro a w' hb hiv hk hp ho hf
          exact sX_Q ((hk 4 (by decide)).trans t4_7) ho.1 (hp 2 rfl) (hp 2 rfl) b4_1.1 (by simp) ho.1.zr0
      intro a8 w8 hb8 hd8 hs8 hk8 hiv8 hsp8 hst8 hds8
      have hB8 := hB7.trans hb8
      replace hd8 := hd8.trans hd7
      obtain ⟨⟨n7_8, i7_8⟩, ⟨n9_8, i9_8⟩, _⟩ := hiv8
      have t4_8 := (hk8 4 (by decide)).trans t4_7
      obtain ⟨v4_8, n4_8, I4_8⟩ := txQ (hst8 _ (.head _)) t4_8
      obtain ⟨v5_8, t5_8, I5_8⟩ : ∃ v, a8.tmps[5]? = some v ∧ v = (.bool true) := tv_get (k := 5) (hsp8 4 (by decide) (fac (nq rfl) fan)) (by omega)
      clear hb8 hk8 hsp8 hst8 hds8
      refine wp_ret ?_
      repeat first | refine then_ret ?_ | refine inBlock_ret ?_
      rw [I5_8] at t5_8
      refine bodyPost_ret (res_Qb rfl t4_8 t5_8 n4_8) hd8 ⟨_, rfl, hB8, ?_⟩
      exact ⟨_, _, rfl, by unfold frT frB; rw [if_neg hc13, if_neg hc13, if_pos hc18, if_pos hc18]; exact I4_8, by simp [hc13]⟩
    · skip
      refine wp_cond_false (show Act.eval a3 (.tmp 18) = .bool false by rw [eval_of t18_3, I18_3]; simp [sgn_neg, hc18]) ?_
      refine wp_skip ?_
      change Code.wp _ _ _ _ _
      refine wp_seq ?_
      refine fxN (fun r => w3.heap.size ≤ r) Zr (l := regionOf Tryz.f35 5) false (by kernel_rfl) 5 41 w.heap.size [2, 3, 4, 5]
        [Xdoc _ _ (fun _ _ h => h) z, Xdoc _ _ (fun _ _ h => h) y, Xdoc _ _ (fun _ _ h => h) (Int.gcd (z) (y) : Int), Sx.box _ w3.heap.size 31, Sx.any _]
        (Sx.and (XhN r2_1 (Nat.not_le_of_lt n2_3.lt) v1 (Xdoc _ _ (fun _ _ h => h) z)) (Sx.and (XhN r3_1 (Nat.not_le_of_lt n3_3.lt) v2 (Xdoc _ _ (fun _ _ h => h) y)) (Sx.and (XhQ r4_1 (Nat.not_le_of_lt n4_3.lt) zaQ (Xfr _ _ (fun _ _ h => h) 0 0)) (Sx.any _)))) [(6, some 3)] [stNN 4 6 (Xdoc _ _ (fun _ _ h => h) (Int.gcd (z) (y) : Int))] (by kernel_rfl) (by kernel_rfl) (by kernel_rfl) hs3 (And.intro (And.intro n2_3 i2_3) (And.intro (And.intro n3_3 i3_3) (And.intro (And.intro n4_3 i4_3) trivial))) hB3.size (show ([4] : List Nat).Nodup by decide) (fac nst fan) (fac (nby rfl) fan) ?_ ?_ ?_
      · intro i hi hns a w' hb hiv hk hp hold
        obtain ⟨⟨n2, i2⟩, ⟨n3, i3⟩, ⟨n4, i4⟩, _⟩ := hiv
        have k2 := (hk 2 (by decide)).trans t2_3
        have k3 := (hk 3 (by decide)).trans t3_3
        match i, hi with
        | 0, _ => exact s_load k2 (load_NB n2) i2 (gf rfl)
        | 1, _ => exact s_load k3 (load_NB n3) i3 (gf rfl)
        | 2, _ => exact s_call2 enter_gcdN (gcdN_any _ _ (z) (y) w' (hp 0 rfl) (hp 1 rfl) (T4.le3 hz (by decide)) (T4.le3 hy (by decide))) (gf rfl)
        | 3, _ => exact sA_N hb.size hb.size (fac (zN w') fan)
        | 4, _ => exact absurd rfl (hns _ (.head _))
        | _ + 5, h => exact absurd h (by omega)
      · refine fac ?_ (fan)
        · intro a w' hb hiv hk hp ho hf
          exact sN_N (hp 3 rfl) (hp 2 rfl) (hp 2 rfl) hB3.size (hf 3 (.head _)) (fun _ h => h)
      intro a4 w4 hb4 hd4 hs4 hk4 hiv4 hsp4 hst4 hds4
      have hB4 := hB3.trans hb4
      replace hd4 := hd4.trans hd3
      obtain ⟨⟨n2_4, i2_4⟩, ⟨n3_4, i3_4⟩, ⟨n4_4, i4_4⟩, _⟩ := hiv4
      have t2_4 := (hk4 2 (by decide)).trans t2_3
      have t3_4 := (hk4 3 (by decide)).trans t3_3
      have t4_4 := (hk4 4 (by decide)).trans t4_3
      have t5_4 := (hk4 5 (by decide)).trans t5_3
      obtain ⟨r6_4, v6_4, t6_4, b6_4, n6_4, I6_4⟩ := tnN (k := 6) (hst4 _ (.head _)) (hsp4 3 (by decide) (fac (nq rfl) fan)) hB3.size (by omega)
      have ne2_6_4 : r2_1 ≠ r6_4 := by have := n2_3.lt; have := b6_4.2; omega
      have ne3_6_4 : r3_1 ≠ r6_4 := by have := n3_3.lt; have := b6_4.2; omega
      have ne4_6_4 : r4_1 ≠ r6_4 := by have := n4_3.lt; have := b6_4.2; omega
      clear hb4 hk4 hsp4 hst4 hds4
      refine wp_seq ?_
      refine fxN (fun r => w4.heap.size ≤ r) Zr (l := regionOf Tryz.f35 6) false (by kernel_rfl) 10 41 w.heap.size [2, 3, 4, 5, 6]
        [Xdoc _ _ (fun _ _ h => h) z, Xdoc _ _ (fun _ _ h => h) (Int.gcd (z) (y) : Int), Xtup (Xdoc _ _ (fun _ _ h => h) (z / ((Int.gcd (z) (y) : Int)))) (Xdoc _ _ (fun _ _ h => h) (z % ((Int.gcd (z) (y) : Int)))), Xtup (Xdoc _ _ (fun _ _ h => h) (z / ((Int.gcd (z) (y) : Int)))) (Xdoc _ _ (fun _ _ h => h) (z % ((Int.gcd (z) (y) : Int)))), Xdoc _ _ (fun _ _ h => h) (z / ((Int.gcd (z) (y) : Int))), Xdoc _ _ (fun _ _ h => h) (z % ((Int.gcd (z) (y) : Int))), Sx.box _ w4.heap.size 31, Sx.box _ w4.heap.size 31, Sx.any _, Sx.any _]
        (Sx.and (XhN r2_1 (Nat.not_le_of_lt n2_4.lt) v1 (Xdoc _ _ (fun _ _ h => h) z)) (Sx.and (XhN r3_1 (Nat.not_le_of_lt n3_4.lt) v2 (Xdoc _ _ (fun _ _ h => h) y)) (Sx.and (XhQ r4_1 (Nat.not_le_of_lt n4_4.lt) zaQ (Xfr _ _ (fun _ _ h => h) 0 0)) (Sx.and (XhN r6_4 (Nat.not_le_of_lt n6_4.lt) v6_4 (Xdoc _ _ (fun _ _ h => h) (Int.gcd (z) (y) : Int))) (Sx.any _))))) [(7, some 6), (8, some 7)] [stNN 8 7 (Xdoc _ _ (fun _ _ h => h) (z / ((Int.gcd (z) (y) : Int)))), stNN 9 8 (Xdoc _ _ (fun _ _ h => h) (z % ((Int.gcd (z) (y) : Int))))] (by kernel_rfl) (by kernel_rfl) (by kernel_rfl) hs4 (And.intro (And.intro n2_4 i2_4) (And.intro (And.intro n3_4 i3_4) (And.intro (And.intro n4_4 i4_4) (And.intro (And.intro n6_4 I6_4) trivial)))) hB4.size (show ([8, 9] : List Nat).Nodup by decide) (fac nst (fac nst fan)) (fac (nby rfl) (fac (nby rfl) fan)) ?_ ?_ ?_
      · intro i hi hns a w' hb hiv hk hp hold
        obtain ⟨⟨n2, i2⟩, ⟨n3, i3⟩, ⟨n4, i4⟩, ⟨n6, i6⟩, _⟩ := hiv
        have k2 := (hk 2 (by decide)).trans t2_4
        have k6 := (hk 6 (by decide)).trans t6_4
        match i, hi with
        | 0, _ => exact s_load k2 (load_NB n2) i2 (gf rfl)
        | 1, _ => exact s_load k6 (load_NB n6) i6 (gf rfl)
        | 2, _ => exact s_call2 enter_quoN (quoN_ct _ _ (z) ((Int.gcd (z) (y) : Int)) w' (hp 0 rfl) (hp 1 rfl) (T4.le3 hz (by decide)) (T4.le3 (T4.gcd_lt2 hz hy) (by decide))) (gf rfl)
        | 3, _ => exact s_move (hp 2 rfl) (gf rfl)
        | 4, _ => exact s_ext0 (hp 3 rfl) (gf rfl)
        | 5, _ => exact s_ext1 (hp 3 rfl) (gf rfl)
        | 6, _ => exact sA_N hb.size hb.size (fac (zN w') (fac (zN w') fan))
        | 7, _ => exact sA_N hb.size hb.size (fac (zN w') (fac (zN w') fan))
        | 8, _ => exact absurd rfl (hns _ (.head _))
        | 9, _ => exact absurd rfl (hns _ (.tail _ (.head _)))
        | _ + 10, h => exact absurd h (by omega)
      · refine fac ?_ (fac ?_ (fan))
        · intro a w' hb hiv hk hp ho hf
          exact sN_N (hp 6 rfl) (hp 4 rfl) (hp 4 rfl) hB4.size (hf 6 (.head _)) (fun _ h => h)
        · intro a w' hb hiv hk hp ho hf
          exact sN_N (hp 7 rfl) (hp 5 rfl) (hp 5 rfl) hB4.size (hf 7 (.tail _ (.head _))) (fun _ h => h)
      intro a5 w5 hb5 hd5 hs5 hk5 hiv5 hsp5 hst5 hds5
      have hB5 := hB4.trans hb5
      replace hd5 := hd5.trans hd4
      obtain ⟨⟨n2_5, i2_5⟩, ⟨n3_5, i3_5⟩, ⟨n4_5, i4_5⟩, ⟨n6_5, i6_5⟩, _⟩ := hiv5
      have t3_5 := (hk5 3 (by decide)).trans t3_4
      have t4_5 := (hk5 4 (by decide)).trans t4_4
      have t5_5 := (hk5 5 (by decide)).trans t5_4
      have t6_5 := (hk5 6 (by decide)).trans t6_4
      obtain ⟨r7_5, v7_5, t7_5, b7_5, n7_5, I7_5⟩ := tnN (k := 7) (hst5 _ (.head _)) (hsp5 6 (by decide) (fac (nq rfl) (fac (nq rfl) fan))) hB4.size (by omega)
      have ne3_7_5 : r3_1 ≠ r7_5 := by have := n3_4.lt; have := b7_5.2; omega
      have ne4_7_5 : r4_1 ≠ r7_5 := by have := n4_4.lt; have := b7_5.2; omega
      clear hb5 hk5 hsp5 hst5 hds5
      refine wp_seq ?_
      refine fxN (fun r => w5.heap.size ≤ r) Zr (l := regionOf Tryz.f35 7) false (by kernel_rfl) 10 41 w.heap.size [3, 4, 5, 6, 7]
        [Xdoc _ _ (fun _ _ h => h) y, Xdoc _ _ (fun _ _ h => h) (Int.gcd (z) (y) : Int), Xtup (Xdoc _ _ (fun _ _ h => h) (y / ((Int.gcd (z) (y) : Int)))) (Xdoc _ _ (fun _ _ h => h) (y % ((Int.gcd (z) (y) : Int)))), Xtup (Xdoc _ _ (fun _ _ h => h) (y / ((Int.gcd (z) (y) : Int)))) (Xdoc _ _ (fun _ _ h => h) (y % ((Int.gcd (z) (y) : Int)))), Xdoc _ _ (fun _ _ h => h) (y / ((Int.gcd (z) (y) : Int))), Xdoc _ _ (fun _ _ h => h) (y % ((Int.gcd (z) (y) : Int))), Sx.box _ w5.heap.size 31, Sx.box _ w5.heap.size 31, Sx.any _, Sx.any _]
        (Sx.and (XhN r3_1 (Nat.not_le_of_lt n3_5.lt) v2 (Xdoc _ _ (fun _ _ h => h) y)) (Sx.and (XhQ r4_1 (Nat.not_le_of_lt n4_5.lt) zaQ (Xfr _ _ (fun _ _ h => h) 0 0)) (Sx.and (XhN r6_4 (Nat.not_le_of_lt n6_5.lt) v6_4 (Xdoc _ _ (fun _ _ h => h) (Int.gcd (z) (y) : Int))) (Sx.and (XhN r7_5 (Nat.not_le_of_lt n7_5.lt) v7_5 (Xdoc _ _ (fun _ _ h => h) (z / ((Int.gcd (z) (y) : Int))))) (Sx.any _))))) [(9, some 6), (10, some 7)] [stNN 8 9 (Xdoc _ _ (fun _ _ h => h) (y / ((Int.gcd (z) (y) : Int)))), stNN 9 10 (Xdoc _ _ (fun _ _ h => h) (y % ((Int.gcd (z) (y) : Int))))] (by kernel_rfl) (by kernel_rfl) (by kernel_rfl) hs5 (And.intro (And.intro n3_5 i3_5) (And.intro (And.intro n4_5 i4_5) (And.intro (And.intro n6_5 i6_5) (And.intro (And.intro n7_5 I7_5) trivial)))) hB5.size (show ([8, 9] : List Nat).Nodup by decide) (fac nst (fac nst fan)) (fac (nby rfl) (fac (nby rfl) fan)) ?_ ?_ ?_
      · intro i hi hns a w' hb hiv hk hp hold
        obtain ⟨⟨n3, i3⟩, ⟨n4, i4⟩, ⟨n6, i6⟩, ⟨n7, i7⟩, _⟩ := hiv
        have k3 := (hk 3 (by decide)).trans t3_5
        have k6 := (hk 6 (by decide)).trans t6_5
        match i, hi with
        | 0, _ => exact s_load k3 (load_NB n3) i3 (gf rfl)
        | 1, _ => exact s_load k6 (load_NB n6) i6 (gf rfl)
        | 2, _ => exact s_call2 enter_quoN (quoN_ct _ _ (y) ((Int.gcd (z) (y) : Int)) w' (hp 0 rfl) (hp 1 rfl) (T4.le3 hy (by decide)) (T4.le3 (T4.gcd_lt2 hz hy) (by decide))) (gf rfl)
        | 3, _ => exact s_move (hp 2 rfl) (gf rfl)
        | 4, _ => exact s_ext0 (hp 3 rfl) (gf rfl)
        | 5, _ => exact s_ext1 (hp 3 rfl) (gf rfl)
        | 6, _ => exact sA_N hb.size hb.size (fac (zN w') (fac (zN w') fan))
        | 7, _ => exact sA_N hb.size hb.size (fac (zN w') (fac (zN w') fan))
        | 8, _ => exact absurd rfl (hns _ (.head _))
        | 9, _ => exact absurd rfl (hns _ (.tail _ (.head _)))
        | _ + 10, h => exact absurd h (by omega)
      · refine fac ?_ (fac ?_ (fan))
        · intro a w' hb hiv hk hp ho hf
          exact sN_N (hp 6 rfl) (hp 4 rfl) (hp 4 rfl) hB5.size (hf 6 (.head _)) (fun _ h => h)
        · intro a w' hb hiv hk hp ho hf
          exact sN_N (hp 7 rfl) (hp 5 rfl) (hp 5 rfl) hB5.size (hf 7 (.tail _ (.head _))) (fun _ h => h)
      intro a6 w6 hb6 hd6 hs6 hk6 hiv6 hsp6 hst6 hds6
      have hB6 := hB5.trans hb6
      replace hd6 := hd6.trans hd5
      obtain ⟨⟨n3_6, i3_6⟩, ⟨n4_6, i4_6⟩, ⟨n6_6, i6_6⟩, ⟨n7_6, i7_6⟩, _⟩ := hiv6
      have t4_6 := (hk6 4 (by decide)).trans t4_5
      have t5_6 := (hk6 5 (by decide)).trans t5_5
      have t7_6 := (hk6 7 (by decide)).trans t7_5
      obtain ⟨r9_6, v9_6, t9_6, b9_6, n9_6, I9_6⟩ := tnN (k := 9) (hst6 _ (.head _)) (hsp6 6 (by decide) (fac (nq rfl) (fac (nq rfl) fan))) hB5.size (by omega)
      have ne4_9_6 : r4_1 ≠ r9_6 := by have := n4_5.lt; have := b9_6.2; omega
      clear hb6 hk6 hsp6 hst6 hds6
      refine wp_seq ?_
      refine fx3 (fun r => r = r4_1) Zr (l := regionOf Tryz.f35 8) false (by kernel_rfl) 5 41 w.heap.size [4, 7, 9]
        [Xdoc _ _ (fun _ _ h => h) (z / ((Int.gcd (z) (y) : Int))), Xdoc _ _ (fun _ _ h => h) (y / ((Int.gcd (z) (y) : Int))), Xfr _ _ (fun _ _ h => h) (z / ((Int.gcd (z) (y) : Int))) (y / ((Int.gcd (z) (y) : Int))), Sx.any _, Xval _ _ (.bool true)]
        (Sx.and (XhN r7_5 (show ¬ (r7_5 = r4_1) by have := n7_6.lt; omega) v7_5 (Xdoc _ _ (fun _ _ h => h) (z / ((Int.gcd (z) (y) : Int))))) (Sx.and (XhN r9_6 (show ¬ (r9_6 = r4_1) by have := n9_6.lt; omega) v9_6 (Xdoc _ _ (fun _ _ h => h) (y / ((Int.gcd (z) (y) : Int))))) (Sx.any _))) [(4, none)] [stXQ 3 4 (Xfr _ _ (fun _ _ h => h) (z / ((Int.gcd (z) (y) : Int))) (y / ((Int.gcd (z) (y) : Int)))) r4_1 zaQ (Xfr _ _ (fun _ _ h => h) 0 0)]
        (by kernel_rfl) (by kernel_rfl) (by kernel_rfl) hs6 (And.intro (And.intro n7_6 i7_6) (And.intro (And.intro n9_6 I9_6) trivial)) hB6.size (fac (fun _ _ => trivial) fan) (show ([3] : List Nat).Nodup by decide) (fac (.inr (And.intro (show (4 : Nat) ∈ ([4, 7, 9] : List Nat) by decide) (And.intro (.head _) (getD_of t4_6)))) fan) (fac (And.intro n4_6 i4_6) fan) (fac (fun _ => ⟨r4_1, getD_of t4_6, n4_6.lt⟩) fan) (dis_one rfl) (fac (fun i hi => by cases hi) fan) ?_ ?_ ?_
      · intro i hi hns a w' hb hiv hk hp hold
        obtain ⟨⟨n7, i7⟩, ⟨n9, i9⟩, _⟩ := hiv
        have k7 := (hk 7 (by decide)).trans t7_6
        have k9 := (hk 9 (by decide)).trans t9_6
        match i, hi with
        | 0, _ => exact s_load k7 (load_NB n7) i7 (gf rfl)
        | 1, _ => exact s_load k9 (load_NB n9) i9 (gf rfl)
        | 2, _ => exact s_bldQ (hp 0 rfl) (hp 1 rfl) (fun _ h => h) (gf rfl)
        | 3, _ => exact absurd rfl (hns _ (.head _))
        | 4, _ => exact s_cassign rfl (gf rfl)
        | _ + 5, h => exact absurd h (by omega)
      · refine fac ?_ (fan)
        · intro a w' hb hiv hk hp ho hf
          exact sX_Q ((hk 4 (by decide)).trans t4_6) ho.1 (hp 2 rfl) (hp 2 rfl) b4_1.1 (by simp) ho.1.zr0
      intro a7 w7 hb7 hd7 hs7 hk7 hiv7 hsp7 hst7 hds7
      have hB7 := hB6.trans hb7
      replace hd7 := hd7.trans hd6
      obtain ⟨⟨n7_7, i7_7⟩, ⟨n9_7, i9_7⟩, _⟩ := hiv7
      have t4_7 := (hk7 4 (by decide)).trans t4_6
      obtain ⟨v4_7, n4_7, I4_7⟩ := txQ (hst7 _ (.head _)) t4_7
      obtain ⟨v5_7, t5_7, I5_7⟩ : ∃ v, a7.tmps[5]? = some v ∧ v = (.bool true) := tv_get (k := 5) (hsp7 4 (by decide) (fac (nq rfl) fan)) (by omega)
      clear hb7 hk7 hsp7 hst7 hds7
      refine wp_ret ?_
      repeat first | refine then_ret ?_ | refine inBlock_ret ?_
      rw [I5_7] at t5_7
      refine bodyPost_ret (res_Qb rfl t4_7 t5_7 n4_7) hd7 ⟨_, rfl, hB7, ?_⟩
      exact ⟨_, _, rfl, by unfold frT frB; rw [if_neg hc13, if_neg hc13, if_neg hc18, if_neg hc18]; exact I4_7, by simp [hc13]⟩

set_option maxRecDepth 100000 in
set_option maxHeartbeats 1600000 in
theorem qadd_raw (v1 v2 : Value) (p b q c : Int) (gp : (p.natAbs : Int) < T4.pw 300) (gb : (b.natAbs : Int) < T4.pw 300) (gq : (q.natAbs : Int) < T4.pw 300) (gc : (c.natAbs : Int) < T4.pw 300) (w : World) (i0 : IsQ w v1 p b) (i1 : IsQ w v2 q c) :
    Calls Tryz.prog 13 #[v1, v2] w fun e w' => ∃ r, e = .returned r ∧ Below w.heap.size w w' ∧ IsQ w' r (frT (p * c + q * b) (b * c)) (frB (p * c + q * b) (b * c)) := by
  refine calls_act (fn := Tryz.f13) (by kernel_rfl) rfl (N := 28) (by kernel_rfl) (by simp) ?_
  intro a0 hs0 hd0 hx0
  have t0 : a0.tmps[0]? = some v1 := hx0 0 _ rfl
  have t1 : a0.tmps[1]? = some v2 := hx0 1 _ rfl
  clear hx0
  have hB0 : Below w.heap.size w w := Below.refl _ _
  refine wp_seq ?_
  refine fxN (fun _ => False) Zr (l := regionOf Tryz.f13 0) false (by kernel_rfl) 3 28 w.heap.size [0, 1]
    [XoQ _ w.heap.size v1 (Xfr _ _ (fun _ _ h => h) p b), XoQ _ w.heap.size v2 (Xfr _ _ (fun _ _ h => h) q c), XoQ _ w.heap.size zaQ (Xfr _ _ (fun _ _ h => h) 0 0)]
    (Sx.and (Sx.at (Xfr _ _ (fun _ _ h => h) p b) v1) (Sx.and (Sx.at (Xfr _ _ (fun _ _ h => h) q c) v2) (Sx.any _))) [(2, some 0), (3, some 1), (4, some 2)] [] (by kernel_rfl) (by kernel_rfl) (by kernel_rfl) hs0 (And.intro i0 (And.intro i1 trivial)) hB0.size List.nodup_nil fan (fac (npQ rfl) (fac (npQ rfl) (fac (npQ rfl) fan))) ?_ ?_ ?_
  · intro i hi hns a w' hb hiv hk hp hold
    obtain ⟨i0, i1, _⟩ := hiv
    have k0 := (hk 0 (by decide)).trans t0
    have k1 := (hk 1 (by decide)).trans t1
    match i, hi with
    | 0, _ => exact sB_Q hb.size k0 i0 i0 rfl
    | 1, _ => exact sB_Q hb.size k1 i1 i1 rfl
    | 2, _ => exact sO_Q hb.size isQ_zero rfl
    | _ + 3, h => exact absurd h (by omega)
  · exact fan
  intro a1 w1 hb1 hd1 hs1 hk1 hiv1 hsp1 hst1 hds1
  have hB1 := hB0.trans hb1
  replace hd1 := hd1.trans hd0
  obtain ⟨i0_1, i1_1, _⟩ := hiv1
  obtain ⟨r2_1, t2_1, b2_1, n2_1, I2_1⟩ := toQ (k := 2) (hsp1 0 (by decide) fan) hB0.size (by omega)
  obtain ⟨r3_1, t3_1, b3_1, n3_1, I3_1⟩ := toQ (k := 3) (hsp1 1 (by decide) fan) hB0.size (by omega)
  obtain ⟨r4_1, t4_1, b4_1, n4_1, I4_1⟩ := toQ (k := 4) (hsp1 2 (by decide) fan) hB0.size (by omega)
  have ne2_4_1 : r2_1 ≠ r4_1 := ne_ptr (hds1 (2, some 0) (.head _) (4, some 2) (.tail _ (.tail _ (.head _))) (by decide)) t2_1 t4_1
  have ne3_4_1 : r3_1 ≠ r4_1 := ne_ptr (hds1 (3, some 1) (.tail _ (.head _)) (4, some 2) (.tail _ (.tail _ (.head _))) (by decide)) t3_1 t4_1
  clear hb1 hk1 hsp1 hst1 hds1
  refine wp_seq ?_
  refine fxN (fun r => w1.heap.size ≤ r) Zr (l := regionOf Tryz.f13 1) true (by kernel_rfl) 23 28 w.heap.size [2, 3, 4]
    [Xval _ _ (.pointer (some ⟨r2_1, 0, none⟩)), Xdoc _ _ (fun _ _ h => h) p, Xval _ _ (.pointer (some ⟨r3_1, 2, none⟩)), Xdoc _ _ (fun _ _ h => h) c, Xdoc _ _ (fun _ _ h => h) (p * c), Xval _ _ (.pointer (some ⟨r3_1, 0, none⟩)), Xdoc _ _ (fun _ _ h => h) q, Xval _ _ (.pointer (some ⟨r2_1, 2, none⟩)), Xdoc _ _ (fun _ _ h => h) b, Xdoc _ _ (fun _ _ h => h) (q * b), Xdoc _ _ (fun _ _ h => h) ((p * c) + (q * b)), Xval _ _ (.pointer (some ⟨r2_1, 2, none⟩)), Xdoc _ _ (fun _ _ h => h) b, Xval _ _ (.pointer (some ⟨r3_1, 2, none⟩)), Xdoc _ _ (fun _ _ h => h) c, Xdoc _ _ (fun _ _ h => h) (b * c), Xtup (Xfr _ _ (fun _ _ h => h) (frT ((p * c) + (q * b)) (b * c)) (frB ((p * c) + (q * b)) (b * c))) (Xval _ _ (.bool (decide (b * c ≠ 0)))), Xtup (Xfr _ _ (fun _ _ h => h) (frT ((p * c) + (q * b)) (b * c)) (frB ((p * c) + (q * b)) (b * c))) (Xval _ _ (.bool (decide (b * c ≠ 0)))), Xfr _ _ (fun _ _ h => h) (frT ((p * c) + (q * b)) (b * c)) (frB ((p * c) + (q * b)) (b * c)), Xval _ _ (.bool (decide (b * c ≠ 0))), Sx.box _ w1.heap.size 33, Sx.any _, Xval _ _ (.bool (decide (b * c ≠ 0)))]
    (Sx.and (XhQ r2_1 (Nat.not_le_of_lt n2_1.lt) v1 (Xfr _ _ (fun _ _ h => h) p b)) (Sx.and (XhQ r3_1 (Nat.not_le_of_lt n3_1.lt) v2 (Xfr _ _ (fun _ _ h => h) q c)) (Sx.and (XhQ r4_1 (Nat.not_le_of_lt n4_1.lt) zaQ (Xfr _ _ (fun _ _ h => h) 0 0)) (Sx.any _)))) [(5, some 20)] [stNQ 21 5 (Xfr _ _ (fun _ _ h => h) (frT ((p * c) + (q * b)) (b * c)) (frB ((p * c) + (q * b)) (b * c)))] (by kernel_rfl) (by kernel_rfl) (by kernel_rfl) hs1 (And.intro (And.intro n2_1 I2_1) (And.intro (And.intro n3_1 I3_1) (And.intro (And.intro n4_1 I4_1) trivial))) hB1.size (show ([21] : List Nat).Nodup by decide) (fac nst fan) (fac (nby rfl) fan) ?_ ?_ ?_
  · intro i hi hns a w' hb hiv hk hp hold
    obtain ⟨⟨n2, i2⟩, ⟨n3, i3⟩, ⟨n4, i4⟩, _⟩ := hiv
    have k2 := (hk 2 (by decide)).trans t2_1
    have k3 := (hk 3 (by decide)).trans t3_1
    match i, hi with
    | 0, _ => exact s_field k2 field_Q0 rfl (gf rfl)
    | 1, _ =>
      obtain ⟨u, hr, hu⟩ := ldQ0 n2 i2
      exact s_loadP (hp 0 rfl) hr hu (gf rfl)
    | 2, _ => exact s_field k3 field_Q1 rfl (gf rfl)
    | 3, _ =>
      obtain ⟨u, hr, hu⟩ := ldQ1 n3 i3
      exact s_loadP (hp 2 rfl) hr hu (gf rfl)
    | 4, _ => exact s_call2 enter_mulN (mulN_any _ _ (p) (c) w' (hp 1 rfl) (hp 3 rfl) (T4.le4 gp (by decide)) (T4.le4 gc (by decide))) (gf rfl)
    | 5, _ => exact s_field k3 field_Q0 rfl (gf rfl)
    | 6, _ =>
      obtain ⟨u, hr, hu⟩ := ldQ0 n3 i3
      exact s_loadP (hp 5 rfl) hr hu (gf rfl)
    | 7, _ => exact s_field k2 field_Q1 rfl (gf rfl)
    | 8, _ =>
      obtain ⟨u, hr, hu⟩ := ldQ1 n2 i2
      exact s_loadP (hp 7 rfl) hr hu (gf rfl)
    | 9, _ => exact s_call2 enter_mulN (mulN_any _ _ (q) (b) w' (hp 6 rfl) (hp 8 rfl) (T4.le4 gq (by decide)) (T4.le4 gb (by decide))) (gf rfl)
    | 10, _ => exact s_call2 enter_addN (addN_any _ _ (p * c) (q * b) w' (hp 4 rfl) (hp 9 rfl) (T4.le9 (T4.mul_lt gp gc) (by decide)) (T4.le9 (T4.mul_lt gq gb) (by decide))) (gf rfl)
    | 11, _ => exact s_field k2 field_Q1 rfl (gf rfl)
    | 12, _ =>
      obtain ⟨u, hr, hu⟩ := ldQ1 n2 i2
      exact s_loadP (hp 11 rfl) hr hu (gf rfl)
    | 13, _ => exact s_field k3 field_Q1 rfl (gf rfl)
    | 14, _ =>
      obtain ⟨u, hr, hu⟩ := ldQ1 n3 i3
      exact s_loadP (hp 13 rfl) hr hu (gf rfl)
    | 15, _ => exact s_call2 enter_mulN (mulN_any _ _ (b) (c) w' (hp 12 rfl) (hp 14 rfl) (T4.le4 gb (by decide)) (T4.le4 gc (by decide))) (gf rfl)
    | 16, _ => exact s_call2 enter_frac (frac_any _ _ ((p * c) + (q * b)) (b * c) (T4.le7 (T4.add_lt2 (T4.mul_lt gp gc) (T4.mul_lt gq gb)) (by decide)) (T4.le7 (T4.mul_lt gb gc) (by decide)) w' (hp 10 rfl) (hp 15 rfl)) (gf rfl)
    | 17, _ => exact s_move (hp 16 rfl) (gf rfl)
    | 18, _ => exact s_ext0 (hp 17 rfl) (gf rfl)
    | 19, _ => exact s_ext1 (hp 17 rfl) (gf rfl)
    | 20, _ => exact sA_Q hb.size hb.size (fac (zQ w') fan)
    | 21, _ => exact absurd rfl (hns _ (.head _))
    | 22, _ => exact s_assign (hp 19 rfl) (gf rfl)
    | _ + 23, h => exact absurd h (by omega)
  · refine fac ?_ (fan)
    · intro a w' hb hiv hk hp ho hf
      exact sN_Q (hp 20 rfl) (hp 18 rfl) (hp 18 rfl) hB1.size (hf 20 (.head _)) (fun _ h => h)
  intro a2 w2 hb2 hd2 hs2 hk2 hiv2 hsp2 hst2 hds2
  have hB2 := hB1.trans hb2
  replace hd2 := hd2.trans hd1
  obtain ⟨⟨n2_2, i2_2⟩, ⟨n3_2, i3_2⟩, ⟨n4_2, i4_2⟩, _⟩ := hiv2
  have t4_2 := (hk2 4 (by decide)).trans t4_1
  obtain ⟨r5_2, v5_2, t5_2, b5_2, n5_2, I5_2⟩ := tnQ (k := 5) (hst2 _ (.head _)) (hsp2 20 (by decide) (fac (nq rfl) fan)) hB1.size (by omega)
  have ne4_5_2 : r4_1 ≠ r5_2 := by have := n4_1.lt; have := b5_2.2; omega
  clear hb2 hk2 hsp2 hst2 hds2
  refine wp_seq ?_
  refine fx3 (fun r => r = r4_1) Zr (l := regionOf Tryz.f13 2) false (by kernel_rfl) 2 28 w.heap.size [4, 5]
    [Xfr _ _ (fun _ _ h => h) (frT ((p * c) + (q * b)) (b * c)) (frB ((p * c) + (q * b)) (b * c)), Sx.any _]
    (Sx.and (XhQ r5_2 (show ¬ (r5_2 = r4_1) by have := n5_2.lt; omega) v5_2 (Xfr _ _ (fun _ _ h => h) (frT ((p * c) + (q * b)) (b * c)) (frB ((p * c) + (q * b)) (b * c)))) (Sx.any _)) [(4, none)] [stXQ 1 4 (Xfr _ _ (fun _ _ h => h) (frT ((p * c) + (q * b)) (b * c)) (frB ((p * c) + (q * b)) (b * c))) r4_1 zaQ (Xfr _ _ (fun _ _ h => h) 0 0)]
    (by kernel_rfl) (by kernel_rfl) (by kernel_rfl) hs2 (And.intro (And.intro n5_2 I5_2) trivial) hB2.size (fac (fun _ _ => trivial) fan) (show ([1] : List Nat).Nodup by decide) (fac (.inr (And.intro (show (4 : Nat) ∈ ([4, 5] : List Nat) by decide) (And.intro (.head _) (getD_of t4_2)))) fan) (fac (And.intro n4_2 i4_2) fan) (fac (fun _ => ⟨r4_1, getD_of t4_2, n4_2.lt⟩) fan) (dis_one rfl) (fac (fun i hi => by cases hi) fan) ?_ ?_ ?_
  · intro i hi hns a w' hb hiv hk hp hold
    obtain ⟨⟨n5, i5⟩, _⟩ := hiv
    have k5 := (hk 5 (by decide)).trans t5_2
    match i, hi with
    | 0, _ => exact s_load k5 (load_Q n5) i5 (gf rfl)
    | 1, _ => exact absurd rfl (hns _ (.head _))
    | _ + 2, h => exact absurd h (by omega)
  · refine fac ?_ (fan)
    · intro a w' hb hiv hk hp ho hf
      exact sX_Q ((hk 4 (by decide)).trans t4_2) ho.1 (hp 0 rfl) (hp 0 rfl) b4_1.1 (by simp) ho.1.zr0
  intro a3 w3 hb3 hd3 hs3 hk3 hiv3 hsp3 hst3 hds3
  have hB3 := hB2.trans hb3
  replace hd3 := hd3.trans hd2
  obtain ⟨⟨n5_3, i5_3⟩, _⟩ := hiv3
  have t4_3 := (hk3 4 (by decide)).trans t4_2
  obtain ⟨v4_3, n4_3, I4_3⟩ := txQ (hst3 _ (.head _)) t4_3
  clear hb3 hk3 hsp3 hst3 hds3
  refine wp_ret ?_
  repeat first | refine then_ret ?_ | refine inBlock_ret ?_
  refine bodyPost_ret (res_Q rfl t4_3 n4_3) hd3 ⟨_, rfl, hB3, ?_⟩
  exact I4_3

set_option maxRecDepth 100000 in
set_option maxHeartbeats 1600000 in
theorem qmul_raw (v1 v2 : Value) (p b q c : Int) (gp : (p.natAbs : Int) < T4.pw 300) (gb : (b.natAbs : Int) < T4.pw 300) (gq : (q.natAbs : Int) < T4.pw 300) (gc : (c.natAbs : Int) < T4.pw 300) (w : World) (i0 : IsQ w v1 p b) (i1 : IsQ w v2 q c) :
    Calls Tryz.prog 17 #[v1, v2] w fun e w' => ∃ r, e = .returned r ∧ Below w.heap.size w w' ∧ IsQ w' r (frT (p * q) (b * c)) (frB (p * q) (b * c)) := by
  refine calls_act (fn := Tryz.f17) (by kernel_rfl) rfl (N := 22) (by kernel_rfl) (by simp) ?_
  intro a0 hs0 hd0 hx0
  have t0 : a0.tmps[0]? = some v1 := hx0 0 _ rfl
  have t1 : a0.tmps[1]? = some v2 := hx0 1 _ rfl
  clear hx0
  have hB0 : Below w.heap.size w w := Below.refl _ _
  refine wp_seq ?_
  refine fxN (fun _ => False) Zr (l := regionOf Tryz.f17 0) false (by kernel_rfl) 3 22 w.heap.size [0, 1]
    [XoQ _ w.heap.size v1 (Xfr _ _ (fun _ _ h => h) p b), XoQ _ w.heap.size v2 (Xfr _ _ (fun _ _ h => h) q c), XoQ _ w.heap.size zaQ (Xfr _ _ (fun _ _ h => h) 0 0)]
    (Sx.and (Sx.at (Xfr _ _ (fun _ _ h => h) p b) v1) (Sx.and (Sx.at (Xfr _ _ (fun _ _ h => h) q c) v2) (Sx.any _))) [(2, some 0), (3, some 1), (4, some 2)] [] (by kernel_rfl) (by kernel_rfl) (by kernel_rfl) hs0 (And.intro i0 (And.intro i1 trivial)) hB0.size List.nodup_nil fan (fac (npQ rfl) (fac (npQ rfl) (fac (npQ rfl) fan))) ?_ ?_ ?_
  · intro i hi hns a w' hb hiv hk hp hold
    obtain ⟨i0, i1, _⟩ := hiv
    have k0 := (hk 0 (by decide)).trans t0
    have k1 := (hk 1 (by decide)).trans t1
    match i, hi with
    | 0, _ => exact sB_Q hb.size k0 i0 i0 rfl
    | 1, _ => exact sB_Q hb.size k1 i1 i1 rfl
    | 2, _ => exact sO_Q hb.size isQ_zero rfl
    | _ + 3, h => exact absurd h (by omega)
  · exact fan
  intro a1 w1 hb1 hd1 hs1 hk1 hiv1 hsp1 hst1 hds1
  have hB1 := hB0.trans hb1
  replace hd1 := hd1.trans hd0
  obtain ⟨i0_1, i1_1, _⟩ := hiv1
  obtain ⟨r2_1, t2_1, b2_1, n2_1, I2_1⟩ := toQ (k := 2) (hsp1 0 (by decide) fan) hB0.size (by omega)
  obtain ⟨r3_1, t3_1, b3_1, n3_1, I3_1⟩ := toQ (k := 3) (hsp1 1 (by decide) fan) hB0.size (by omega)
  obtain ⟨r4_1, t4_1, b4_1, n4_1, I4_1⟩ := toQ (k := 4) (hsp1 2 (by decide) fan) hB0.size (by omega)
  have ne2_4_1 : r2_1 ≠ r4_1 := ne_ptr (hds1 (2, some 0) (.head _) (4, some 2) (.tail _ (.tail _ (.head _))) (by decide)) t2_1 t4_1
  have ne3_4_1 : r3_1 ≠ r4_1 := ne_ptr (hds1 (3, some 1) (.tail _ (.head _)) (4, some 2) (.tail _ (.tail _ (.head _))) (by decide)) t3_1 t4_1
  clear hb1 hk1 hsp1 hst1 hds1
  refine wp_seq ?_
  refine fxN (fun r => w1.heap.size ≤ r) Zr (l := regionOf Tryz.f17 1) true (by kernel_rfl) 17 22 w.heap.size [2, 3, 4]
    [Xval _ _ (.pointer (some ⟨r2_1, 0, none⟩)), Xdoc _ _ (fun _ _ h => h) p, Xval _ _ (.pointer (some ⟨r3_1, 0, none⟩)), Xdoc _ _ (fun _ _ h => h) q, Xdoc _ _ (fun _ _ h => h) (p * q), Xval _ _ (.pointer (some ⟨r2_1, 2, none⟩)), Xdoc _ _ (fun _ _ h => h) b, Xval _ _ (.pointer (some ⟨r3_1, 2, none⟩)), Xdoc _ _ (fun _ _ h => h) c, Xdoc _ _ (fun _ _ h => h) (b * c), Xtup (Xfr _ _ (fun _ _ h => h) (frT (p * q) (b * c)) (frB (p * q) (b * c))) (Xval _ _ (.bool (decide (b * c ≠ 0)))), Xtup (Xfr _ _ (fun _ _ h => h) (frT (p * q) (b * c)) (frB (p * q) (b * c))) (Xval _ _ (.bool (decide (b * c ≠ 0)))), Xfr _ _ (fun _ _ h => h) (frT (p * q) (b * c)) (frB (p * q) (b * c)), Xval _ _ (.bool (decide (b * c ≠ 0))), Sx.box _ w1.heap.size 33, Sx.any _, Xval _ _ (.bool (decide (b * c ≠ 0)))]
    (Sx.and (XhQ r2_1 (Nat.not_le_of_lt n2_1.lt) v1 (Xfr _ _ (fun _ _ h => h) p b)) (Sx.and (XhQ r3_1 (Nat.not_le_of_lt n3_1.lt) v2 (Xfr _ _ (fun _ _ h => h) q c)) (Sx.and (XhQ r4_1 (Nat.not_le_of_lt n4_1.lt) zaQ (Xfr _ _ (fun _ _ h => h) 0 0)) (Sx.any _)))) [(5, some 14)] [stNQ 15 5 (Xfr _ _ (fun _ _ h => h) (frT (p * q) (b * c)) (frB (p * q) (b * c)))] (by kernel_rfl) (by kernel_rfl) (by kernel_rfl) hs1 (And.intro (And.intro n2_1 I2_1) (And.intro (And.intro n3_1 I3_1) (And.intro (And.intro n4_1 I4_1) trivial))) hB1.size (show ([15] : List Nat).Nodup by decide) (fac nst fan) (fac (nby rfl) fan) ?_ ?_ ?_
  · intro i hi hns a w' hb hiv hk hp hold
    obtain ⟨⟨n2, i2⟩, ⟨n3, i3⟩, ⟨n4, i4⟩, _⟩ := hiv
    have k2 := (hk 2 (by decide)).trans t2_1
    have k3 := (hk 3 (by decide)).trans t3_1
    match i, hi with
    | 0, _ => exact s_field k2 field_Q0 rfl (gf rfl)
    | 1, _ =>
      obtain ⟨u, hr, hu⟩ := ldQ0 n2 i2
      exact s_loadP (hp 0 rfl) hr hu (gf rfl)
    | 2, _ => exact s_field k3 field_Q0 rfl (gf rfl)
    | 3, _ =>
      obtain ⟨u, hr, hu⟩ := ldQ0 n3 i3
      exact s_loadP (hp 2 rfl) hr hu (gf rfl)
    | 4, _ => exact s_call2 enter_mulN (mulN_any _ _ (p) (q) w' (hp 1 rfl) (hp 3 rfl) (T4.le4 gp (by decide)) (T4.le4 gq (by decide))) (gf rfl)
    | 5, _ => exact s_field k2 field_Q1 rfl (gf rfl)
    | 6, _ =>
      obtain ⟨u, hr, hu⟩ := ldQ1 n2 i2
      exact s_loadP (hp 5 rfl) hr hu (gf rfl)
    | 7, _ => exact s_field k3 field_Q1 rfl (gf rfl)
    | 8, _ =>
      obtain ⟨u, hr, hu⟩ := ldQ1 n3 i3
      exact s_loadP (hp 7 rfl) hr hu (gf rfl)
    | 9, _ => exact s_call2 enter_mulN (mulN_any _ _ (b) (c) w' (hp 6 rfl) (hp 8 rfl) (T4.le4 gb (by decide)) (T4.le4 gc (by decide))) (gf rfl)
    | 10, _ => exact s_call2 enter_frac (frac_any _ _ (p * q) (b * c) (T4.le7 (T4.mul_lt gp gq) (by decide)) (T4.le7 (T4.mul_lt gb gc) (by decide)) w' (hp 4 rfl) (hp 9 rfl)) (gf rfl)
    | 11, _ => exact s_move (hp 10 rfl) (gf rfl)
    | 12, _ => exact s_ext0 (hp 11 rfl) (gf rfl)
    | 13, _ => exact s_ext1 (hp 11 rfl) (gf rfl)
    | 14, _ => exact sA_Q hb.size hb.size (fac (zQ w') fan)
    | 15, _ => exact absurd rfl (hns _ (.head _))
    | 16, _ => exact s_assign (hp 13 rfl) (gf rfl)
    | _ + 17, h => exact absurd h (by omega)
  · refine fac ?_ (fan)
    · intro a w' hb hiv hk hp ho hf
      exact sN_Q (hp 14 rfl) (hp 12 rfl) (hp 12 rfl) hB1.size (hf 14 (.head _)) (fun _ h => h)
  intro a2 w2 hb2 hd2 hs2 hk2 hiv2 hsp2 hst2 hds2
  have hB2 := hB1.trans hb2
  replace hd2 := hd2.trans hd1
  obtain ⟨⟨n2_2, i2_2⟩, ⟨n3_2, i3_2⟩, ⟨n4_2, i4_2⟩, _⟩ := hiv2
  have t4_2 := (hk2 4 (by decide)).trans t4_1
  obtain ⟨r5_2, v5_2, t5_2, b5_2, n5_2, I5_2⟩ := tnQ (k := 5) (hst2 _ (.head _)) (hsp2 14 (by decide) (fac (nq rfl) fan)) hB1.size (by omega)
  have ne4_5_2 : r4_1 ≠ r5_2 := by have := n4_1.lt; have := b5_2.2; omega
  clear hb2 hk2 hsp2 hst2 hds2
  refine wp_seq ?_
  refine fx3 (fun r => r = r4_1) Zr (l := regionOf Tryz.f17 2) false (by kernel_rfl) 2 22 w.heap.size [4, 5]
    [Xfr _ _ (fun _ _ h => h) (frT (p * q) (b * c)) (frB (p * q) (b * c)), Sx.any _]
    (Sx.and (XhQ r5_2 (show ¬ (r5_2 = r4_1) by have := n5_2.lt; omega) v5_2 (Xfr _ _ (fun _ _ h => h) (frT (p * q) (b * c)) (frB (p * q) (b * c)))) (Sx.any _)) [(4, none)] [stXQ 1 4 (Xfr _ _ (fun _ _ h => h) (frT (p * q) (b * c)) (frB (p * q) (b * c))) r4_1 zaQ (Xfr _ _ (fun _ _ h => h) 0 0)]
    (by kernel_rfl) (by kernel_rfl) (by kernel_rfl) hs2 (And.intro (And.intro n5_2 I5_2) trivial) hB2.size (fac (fun _ _ => trivial) fan) (show ([1] : List Nat).Nodup by decide) (fac (.inr (And.intro (show (4 : Nat) ∈ ([4, 5] : List Nat) by decide) (And.intro (.head _) (getD_of t4_2)))) fan) (fac (And.intro n4_2 i4_2) fan) (fac (fun _ => ⟨r4_1, getD_of t4_2, n4_2.lt⟩) fan) (dis_one rfl) (fac (fun i hi => by cases hi) fan) ?_ ?_ ?_
  · intro i hi hns a w' hb hiv hk hp hold
    obtain ⟨⟨n5, i5⟩, _⟩ := hiv
    have k5 := (hk 5 (by decide)).trans t5_2
    match i, hi with
    | 0, _ => exact s_load k5 (load_Q n5) i5 (gf rfl)
    | 1, _ => exact absurd rfl (hns _ (.head _))
    | _ + 2, h => exact absurd h (by omega)
  · refine fac ?_ (fan)
    · intro a w' hb hiv hk hp ho hf
      exact sX_Q ((hk 4 (by decide)).trans t4_2) ho.1 (hp 0 rfl) (hp 0 rfl) b4_1.1 (by simp) ho.1.zr0
  intro a3 w3 hb3 hd3 hs3 hk3 hiv3 hsp3 hst3 hds3
  have hB3 := hB2.trans hb3
  replace hd3 := hd3.trans hd2
  obtain ⟨⟨n5_3, i5_3⟩, _⟩ := hiv3
  have t4_3 := (hk3 4 (by decide)).trans t4_2
  obtain ⟨v4_3, n4_3, I4_3⟩ := txQ (hst3 _ (.head _)) t4_3
  clear hb3 hk3 hsp3 hst3 hds3
  refine wp_ret ?_
  repeat first | refine then_ret ?_ | refine inBlock_ret ?_
  refine bodyPost_ret (res_Q rfl t4_3 n4_3) hd3 ⟨_, rfl, hB3, ?_⟩
  exact I4_3

set_option maxRecDepth 100000 in
set_option maxHeartbeats 1600000 in
theorem qneg_raw (v1 : Value) (p b : Int) (_gp : (p.natAbs : Int) < T4.pw 300) (_gb : (b.natAbs : Int) < T4.pw 300) (w : World) (i0 : IsQ w v1 p b) :
    Calls Tryz.prog 15 #[v1] w fun e w' => ∃ r, e = .returned r ∧ Below w.heap.size w w' ∧ IsQ w' r (-p) b := by
  refine calls_act (fn := Tryz.f15) (by kernel_rfl) rfl (N := 9) (by kernel_rfl) (by simp) ?_
  intro a0 hs0 hd0 hx0
  have t0 : a0.tmps[0]? = some v1 := hx0 0 _ rfl
  clear hx0
  have hB0 : Below w.heap.size w w := Below.refl _ _
  refine wp_seq ?_
  refine fxN (fun _ => False) Zr (l := regionOf Tryz.f15 0) false (by kernel_rfl) 2 9 w.heap.size [0]
    [XoQ _ w.heap.size v1 (Xfr _ _ (fun _ _ h => h) p b), XoQ _ w.heap.size zaQ (Xfr _ _ (fun _ _ h => h) 0 0)]
    (Sx.and (Sx.at (Xfr _ _ (fun _ _ h => h) p b) v1) (Sx.any _)) [(1, some 0), (2, some 1)] [] (by kernel_rfl) (by kernel_rfl) (by kernel_rfl) hs0 (And.intro i0 trivial) hB0.size List.nodup_nil fan (fac (npQ rfl) (fac (npQ rfl) fan)) ?_ ?_ ?_
  · intro i hi hns a w' hb hiv hk hp hold
    obtain ⟨i0, _⟩ := hiv
    have k0 := (hk 0 (by decide)).trans t0
    match i, hi with
    | 0, _ => exact sB_Q hb.size k0 i0 i0 rfl
    | 1, _ => exact sO_Q hb.size isQ_zero rfl
    | _ + 2, h => exact absurd h (by omega)
  · exact fan
  intro a1 w1 hb1 hd1 hs1 hk1 hiv1 hsp1 hst1 hds1
  have hB1 := hB0.trans hb1
  replace hd1 := hd1.trans hd0
  obtain ⟨i0_1, _⟩ := hiv1
  obtain ⟨r1_1, t1_1, b1_1, n1_1, I1_1⟩ := toQ (k := 1) (hsp1 0 (by decide) fan) hB0.size (by omega)
  obtain ⟨r2_1, t2_1, b2_1, n2_1, I2_1⟩ := toQ (k := 2) (hsp1 1 (by decide) fan) hB0.size (by omega)
  have ne1_2_1 : r1_1 ≠ r2_1 := ne_ptr (hds1 (1, some 0) (.head _) (2, some 1) (.tail _ (.head _)) (by decide)) t1_1 t2_1
  clear hb1 hk1 hsp1 hst1 hds1
  refine wp_seq ?_
  refine fx3 (fun r => r = r2_1) Zr (l := regionOf Tryz.f15 1) true (by kernel_rfl) 7 9 w.heap.size [1, 2]
    [Xval _ _ (.pointer (some ⟨r1_1, 0, none⟩)), Xdoc _ _ (fun _ _ h => h) p, Xdoc _ _ (fun _ _ h => h) (-p), Xval _ _ (.pointer (some ⟨r1_1, 2, none⟩)), Xdoc _ _ (fun _ _ h => h) b, Xfr _ _ (fun _ _ h => h) (-p) b, Sx.any _]
    (Sx.and (XhQ r1_1 (show ¬ (r1_1 = r2_1) by have := n1_1.lt; omega) v1 (Xfr _ _ (fun _ _ h => h) p b)) (Sx.any _)) [(2, none)] [stXQ 6 2 (Xfr _ _ (fun _ _ h => h) (-p) b) r2_1 zaQ (Xfr _ _ (fun _ _ h => h) 0 0)]
    (by kernel_rfl) (by kernel_rfl) (by kernel_rfl) hs1 (And.intro (And.intro n1_1 I1_1) trivial) hB1.size (fac (fun _ _ => trivial) fan) (show ([6] : List Nat).Nodup by decide) (fac (.inr (And.intro (show (2 : Nat) ∈ ([1, 2] : List Nat) by decide) (And.intro (.head _) (getD_of t2_1)))) fan) (fac (And.intro n2_1 I2_1) fan) (fac (fun _ => ⟨r2_1, getD_of t2_1, n2_1.lt⟩) fan) (dis_one rfl) (fac (fun i hi => by cases hi) fan) ?_ ?_ ?_
  · intro i hi hns a w' hb hiv hk hp hold
    obtain ⟨⟨n1, i1⟩, _⟩ := hiv
    have k1 := (hk 1 (by decide)).trans t1_1
    match i, hi with
    | 0, _ => exact s_field k1 field_Q0 rfl (gf rfl)
    | 1, _ =>
      obtain ⟨u, hr, hu⟩ := ldQ0 n1 i1
      exact s_loadP (hp 0 rfl) hr hu (gf rfl)
    | 2, _ => exact s_call1 enter_negN (negN_any _ (p) w' (hp 1 rfl)) (gf rfl)
    | 3, _ => exact s_field k1 field_Q1 rfl (gf rfl)
    | 4, _ =>
      obtain ⟨u, hr, hu⟩ := ldQ1 n1 i1
      exact s_loadP (hp 3 rfl) hr hu (gf rfl)
    | 5, _ => exact s_bldQ (hp 2 rfl) (hp 4 rfl) (fun _ h => h) (gf rfl)
    | 6, _ => exact absurd rfl (hns _ (.head _))
    | _ + 7, h => exact absurd h (by omega)
  · refine fac ?_ (fan)
    · intro a w' hb hiv hk hp ho hf
      exact sX_Q ((hk 2 (by decide)).trans t2_1) ho.1 (hp 5 rfl) (hp 5 rfl) b2_1.1 (by simp) ho.1.zr0
  intro a2 w2 hb2 hd2 hs2 hk2 hiv2 hsp2 hst2 hds2
  have hB2 := hB1.trans hb2
  replace hd2 := hd2.trans hd1
  obtain ⟨⟨n1_2, i1_2⟩, _⟩ := hiv2
  have t2_2 := (hk2 2 (by decide)).trans t2_1
  obtain ⟨v2_2, n2_2, I2_2⟩ := txQ (hst2 _ (.head _)) t2_2
  clear hb2 hk2 hsp2 hst2 hds2
  refine wp_ret ?_
  repeat first | refine then_ret ?_ | refine inBlock_ret ?_
  refine bodyPost_ret (res_Q rfl t2_2 n2_2) hd2 ⟨_, rfl, hB2, ?_⟩
  exact I2_2

set_option maxRecDepth 100000 in
set_option maxHeartbeats 1600000 in
theorem qcmp_raw (v1 v2 : Value) (p b q c : Int) (gp : (p.natAbs : Int) < T4.pw 300) (gb : (b.natAbs : Int) < T4.pw 300) (gq : (q.natAbs : Int) < T4.pw 300) (gc : (c.natAbs : Int) < T4.pw 300) (w : World) (i0 : IsQ w v1 p b) (i1 : IsQ w v2 q c) :
    Calls Tryz.prog 20 #[v1, v2] w fun e w' => ∃ r, e = .returned r ∧ Below w.heap.size w w' ∧ r = .int .i64 (sgn (p * c - q * b)) := by
  refine calls_act (fn := Tryz.f20) (by kernel_rfl) rfl (N := 16) (by kernel_rfl) (by simp) ?_
  intro a0 hs0 hd0 hx0
  have t0 : a0.tmps[0]? = some v1 := hx0 0 _ rfl
  have t1 : a0.tmps[1]? = some v2 := hx0 1 _ rfl
  clear hx0
  have hB0 : Below w.heap.size w w := Below.refl _ _
  refine wp_seq ?_
  refine fxN (fun _ => False) Zr (l := regionOf Tryz.f20 0) false (by kernel_rfl) 3 16 w.heap.size [0, 1]
    [XoQ _ w.heap.size v1 (Xfr _ _ (fun _ _ h => h) p b), XoQ _ w.heap.size v2 (Xfr _ _ (fun _ _ h => h) q c), Xval _ _ (.int .i64 0)]
    (Sx.and (Sx.at (Xfr _ _ (fun _ _ h => h) p b) v1) (Sx.and (Sx.at (Xfr _ _ (fun _ _ h => h) q c) v2) (Sx.any _))) [(2, some 0), (3, some 1)] [] (by kernel_rfl) (by kernel_rfl) (by kernel_rfl) hs0 (And.intro i0 (And.intro i1 trivial)) hB0.size List.nodup_nil fan (fac (npQ rfl) (fac (npQ rfl) fan)) ?_ ?_ ?_
  · intro i hi hns a w' hb hiv hk hp hold
    obtain ⟨i0, i1, _⟩ := hiv
    have k0 := (hk 0 (by decide)).trans t0
    have k1 := (hk 1 (by decide)).trans t1
    match i, hi with
    | 0, _ => exact sB_Q hb.size k0 i0 i0 rfl
    | 1, _ => exact sB_Q hb.size k1 i1 i1 rfl
    | 2, _ => exact s_cassign rfl (gf rfl)
    | _ + 3, h => exact absurd h (by omega)
  · exact fan
  intro a1 w1 hb1 hd1 hs1 hk1 hiv1 hsp1 hst1 hds1
  have hB1 := hB0.trans hb1
  replace hd1 := hd1.trans hd0
  obtain ⟨i0_1, i1_1, _⟩ := hiv1
  obtain ⟨r2_1, t2_1, b2_1, n2_1, I2_1⟩ := toQ (k := 2) (hsp1 0 (by decide) fan) hB0.size (by omega)
  obtain ⟨r3_1, t3_1, b3_1, n3_1, I3_1⟩ := toQ (k := 3) (hsp1 1 (by decide) fan) hB0.size (by omega)
  obtain ⟨v4_1, t4_1, I4_1⟩ : ∃ v, a1.tmps[4]? = some v ∧ v = (.int .i64 0) := tv_get (k := 4) (hsp1 2 (by decide) fan) (by omega)
  clear hb1 hk1 hsp1 hst1 hds1
  refine wp_seq ?_
  refine fx3n Zr (l := regionOf Tryz.f20 1) true (by kernel_rfl) 12 16 w.heap.size [2, 3] [Xval _ _ (.pointer (some ⟨r2_1, 0, none⟩)), Xdoc _ _ (fun _ _ h => h) p, Xval _ _ (.pointer (some ⟨r3_1, 2, none⟩)), Xdoc _ _ (fun _ _ h => h) c, Xdoc _ _ (fun _ _ h => h) (p * c), Xval _ _ (.pointer (some ⟨r3_1, 0, none⟩)), Xdoc _ _ (fun _ _ h => h) q, Xval _ _ (.pointer (some ⟨r2_1, 2, none⟩)), Xdoc _ _ (fun _ _ h => h) b, Xdoc _ _ (fun _ _ h => h) (q * b), Xval _ _ (.int .i64 (sgn (p * c - (q * b)))), Xval _ _ (.int .i64 (sgn (p * c - (q * b))))] (Sx.and (XhQ r2_1 (fun h => h) v1 (Xfr _ _ (fun _ _ h => h) p b)) (Sx.and (XhQ r3_1 (fun h => h) v2 (Xfr _ _ (fun _ _ h => h) q c)) (Sx.any _))) (by kernel_rfl) (by kernel_rfl) (by kernel_rfl) hs1 (And.intro (And.intro n2_1 I2_1) (And.intro (And.intro n3_1 I3_1) trivial)) hB1.size ?_ ?_
  · intro i hi a w' hb hiv hk hp
    obtain ⟨⟨n2, i2⟩, ⟨n3, i3⟩, _⟩ := hiv
    have k2 := (hk 2 (by decide)).trans t2_1
    have k3 := (hk 3 (by decide)).trans t3_1
    match i, hi with
    | 0, _ => exact s_field k2 field_Q0 rfl gt
    | 1, _ =>
      obtain ⟨u, hr, hu⟩ := ldQ0 n2 i2
      exact s_loadP (hp 0 rfl) hr hu gt
    | 2, _ => exact s_field k3 field_Q1 rfl gt
    | 3, _ =>
      obtain ⟨u, hr, hu⟩ := ldQ1 n3 i3
      exact s_loadP (hp 2 rfl) hr hu gt
    | 4, _ => exact s_call2 enter_mulN (mulN_any _ _ (p) (c) w' (hp 1 rfl) (hp 3 rfl) (T4.le4 gp (by decide)) (T4.le4 gc (by decide))) gt
    | 5, _ => exact s_field k3 field_Q0 rfl gt
    | 6, _ =>
      obtain ⟨u, hr, hu⟩ := ldQ0 n3 i3
      exact s_loadP (hp 5 rfl) hr hu gt
    | 7, _ => exact s_field k2 field_Q1 rfl gt
    | 8, _ =>
      obtain ⟨u, hr, hu⟩ := ldQ1 n2 i2
      exact s_loadP (hp 7 rfl) hr hu gt
    | 9, _ => exact s_call2 enter_mulN (mulN_any _ _ (q) (b) w' (hp 6 rfl) (hp 8 rfl) (T4.le4 gq (by decide)) (T4.le4 gb (by decide))) gt
    | 10, _ => exact s_call2 enter_cmpN (cmpN_ct _ _ (p * c) (q * b) w' (hp 4 rfl) (hp 9 rfl) (T4.le9 (T4.mul_lt gp gc) (by decide)) (T4.le9 (T4.mul_lt gq gb) (by decide))) gt
    | 11, _ => exact s_assign (hp 10 rfl) gt
    | _ + 12, h => exact absurd h (by omega)
  intro a2 w2 hb2 hd2 hs2 hk2 hiv2 hsp2
  have hB2 := hB1.trans hb2
  replace hd2 := hd2.trans hd1
  obtain ⟨⟨n2_2, i2_2⟩, ⟨n3_2, i3_2⟩, _⟩ := hiv2
  obtain ⟨v4_2, t4_2, I4_2⟩ : ∃ v, a2.tmps[4]? = some v ∧ v = (.int .i64 (sgn (p * c - (q * b)))) := tv_get (k := 4) (hsp2 11 (by decide)) (by omega)
  clear hb2 hk2 hsp2
  refine wp_ret ?_
  repeat first | refine then_ret ?_ | refine inBlock_ret ?_
  refine bodyPost_ret (res_t rfl t4_2) hd2 ⟨_, rfl, hB2, ?_⟩
  exact I4_2

end Go.Proofs.YtlcfldkmojpkpaaGreatDoor

namespace Go.Proofs.YtlcfldkmojpkpaaGreatDoor
open Go Go.RowKit

theorem dd_len (m : Nat) : ∀ n, n < 10 ^ m → 1 ≤ m → (Lib.decDigits n).length ≤ m := by
  induction m with
  | zero => intro n _ h; omega
  | succ m ih =>
    intro n hn _
    rw [Lib.decDigits]
    split
    · simp
    · rename_i h
      have h1 : n / 10 < 10 ^ m := by
        rw [Nat.pow_succ] at hn
        omega
      have h2 : 1 ≤ m := by
        rcases Nat.eq_zero_or_pos m with e | e
        · subst e; simp at hn; omega
        · exact e
      have := ih _ h1 h2
      simp
      omega
theorem pw_eq10 (k : Nat) : pw k = (10 : Int) ^ (9 * k) := by
  induction k with
  | zero => rfl
  | succ k ih =>
    rw [show 9 * (k + 1) = 9 * k + 9 by omega, Int.pow_add, ← ih]
    show 1000000000 * pw k = _
    rw [show ((10 : Int) ^ 9) = 1000000000 by decide]
    omega
theorem itoa_le {z : Int} {m : Nat} (h : (z.natAbs : Int) < (10 : Int) ^ m) (hm : 1 ≤ m) : (Lib.itoa z).length ≤ m + 1 := by
  have h1 : z.natAbs < 10 ^ m := by
    have : ((10 ^ m : Nat) : Int) = (10 : Int) ^ m := by simp
    omega
  have h2 := dd_len m z.natAbs h1 hm
  unfold Lib.itoa
  split
  · simp; omega
  · rw [show z.toNat = z.natAbs by omega]; omega
theorem itoa_len {z : Int} {k : Nat} (h : (z.natAbs : Int) < pw k) (hk : k ≤ 3000) : (Lib.itoa z).length ≤ 30000 := by
  have := itoa_le (m := 9 * k + 1) (Int.lt_of_lt_of_le h (by rw [pw_eq10]; have h9 := Nat.pow_le_pow_right (show 0 < 10 by decide) (show 9 * k ≤ 9 * k + 1 by omega); exact_mod_cast h9)) (by omega)
  omega
theorem itoa_len4 {z : Int} {k : Nat} (h : (z.natAbs : Int) < T4.pw k) (hk : k ≤ 3000) : (Lib.itoa z).length ≤ 30000 := by
  have := itoa_le (m := 4 * k + 1) (Int.lt_of_lt_of_le h (by rw [T4.pw_eq10]; have h9 := Nat.pow_le_pow_right (show 0 < 10 by decide) (show 4 * k ≤ 4 * k + 1 by omega); exact_mod_cast h9)) (by omega)
  omega
theorem bsz (l : List UInt8) : (⟨l.toArray⟩ : ByteArray).size = l.length := by simp [ByteArray.size]
/-- A fraction's text, by its top and by what is laid for its below. -/
def rstr (p b : Int) : ByteArray := if b = 0 then ⟨(Lib.itoa p).toArray⟩ else ⟨(Lib.itoa p).toArray⟩ ++ ⟨#[47]⟩ ++ ⟨(Lib.itoa b).toArray⟩
theorem str_ct (v : Value) (z : Int) (w : World) (hT : Tab w) (h : IsI w v z) (hz : (z.natAbs : Int) < pw 4000) : Calls Tryz.prog 22 #[v] w fun e w' => ∃ r, e = .returned r ∧ Below w.heap.size w w' ∧ r = .string ⟨(Lib.itoa z).toArray⟩ :=
  Calls.mono (str_any v z w hT h hz) fun _ _ ⟨h1, h2⟩ => ⟨_, h1, h2, rfl⟩
theorem text_ct (v : Value) (z : Int) (w : World) (h : IsN w v z) (hz : (z.natAbs : Int) < T4.pw 4000) : Calls Tryz.prog 23 #[v] w fun e w' => ∃ r, e = .returned r ∧ Below w.heap.size w w' ∧ r = .string ⟨(Lib.itoa z).toArray⟩ :=
  Calls.mono (textN_any v z w h hz) fun _ _ ⟨h1, h2⟩ => ⟨_, h1, h2, rfl⟩
theorem sgn_sub_one (b : Int) : (sgn (b - 1) == 0) = decide (b = 1) := by
  rw [sgn_zero]
  by_cases h : b = 1
  · simp [h]
  · have : ¬ b - 1 = 0 := by omega
    simp [h, this]

set_option maxRecDepth 100000 in
set_option maxHeartbeats 1600000 in
theorem rstr_any (v1 : Value) (p b : Int) (gp : (p.natAbs : Int) < pw 1000) (gb : (b.natAbs : Int) < pw 1000) (w : World) (hT : Tab w) (i0 : IsR w v1 p b) :
    Calls Tryz.prog 28 #[v1] w fun e w' => ∃ r, e = .returned r ∧ Below w.heap.size w w' ∧ r = .string (rstr p b) := by
  refine calls_act (fn := Tryz.f28) (by kernel_rfl) rfl (N := 16) (by kernel_rfl) (by simp) ?_
  intro a0 hs0 hd0 hx0
  have t0 : a0.tmps[0]? = some v1 := hx0 0 _ rfl
  clear hx0
  have hB0 : Below w.heap.size w w := Below.refl _ _
  refine wp_seq ?_
  refine fxN (fun _ => False) (fun _ _ => True) (l := regionOf Tryz.f28 0) false (by kernel_rfl) 2 16 w.heap.size [0]
    [XoR _ w.heap.size v1 (Xrat _ _ p b), Xval _ _ (.string ⟨#[]⟩)]
    (Sx.and (Sx.at (Xrat _ _ p b) v1) (Sx.any _)) [(1, some 0)] [] (by kernel_rfl) (by kernel_rfl) (by kernel_rfl) hs0 (And.intro i0 trivial) hB0.size List.nodup_nil fan (fac (npR rfl) fan) ?_ ?_ ?_
  · intro i hi hns a w' hb hiv hk hp hold
    obtain ⟨i0, _⟩ := hiv
    have k0 := (hk 0 (by decide)).trans t0
    match i, hi with
    | 0, _ => exact sB_R hb.size k0 i0 i0 rfl
    | 1, _ => exact s_cassign rfl (gf rfl)
    | _ + 2, h => exact absurd h (by omega)
  · exact fan
  intro a1 w1 hb1 hd1 hs1 hk1 hiv1 hsp1 hst1 hds1
  have hB1 := hB0.trans hb1
  replace hd1 := hd1.trans hd0
  obtain ⟨i0_1, _⟩ := hiv1
  obtain ⟨r1_1, t1_1, b1_1, n1_1, I1_1⟩ := toR (k := 1) (hsp1 0 (by decide) fan) hB0.size (by omega)
  obtain ⟨v2_1, t2_1, I2_1⟩ : ∃ v, a1.tmps[2]? = some v ∧ v = (.string ⟨#[]⟩) := tv_get (k := 2) (hsp1 1 (by decide) fan) (by omega)
  clear hb1 hk1 hsp1 hst1 hds1
  refine wp_seq ?_
  refine wp_seq ?_
  refine fx3n (fun _ _ => True) (l := regionOf Tryz.f28 1) false (by kernel_rfl) 2 16 w.heap.size [1, 2] [Xrat _ _ p b, Xval _ _ (.bool (decide (b = 0)))] (Sx.and (XhR r1_1 (fun h => h) v1 (Xrat _ _ p b)) (Sx.any _)) (by kernel_rfl) (by kernel_rfl) (by kernel_rfl) hs1 (And.intro (And.intro n1_1 I1_1) trivial) hB1.size ?_ ?_
  · intro i hi a w' hb hiv hk hp
    obtain ⟨⟨n1, i1⟩, _⟩ := hiv
    have k1 := (hk 1 (by decide)).trans t1_1
    match i, hi with
    | 0, _ => exact s_load k1 (load_R n1) i1 gt
    | 1, _ => exact s_call1 enter_isw (isw_any _ (p) (b) w' (hp 0 rfl)) gt
    | _ + 2, h => exact absurd h (by omega)
  intro a2 w2 hb2 hd2 hs2 hk2 hiv2 hsp2
  have hB2 := hB1.trans hb2
  replace hd2 := hd2.trans hd1
  obtain ⟨⟨n1_2, i1_2⟩, _⟩ := hiv2
  have t1_2 := (hk2 1 (by decide)).trans t1_1
  have t2_2 := (hk2 2 (by decide)).trans t2_1
  obtain ⟨v4_2, t4_2, I4_2⟩ : ∃ v, a2.tmps[4]? = some v ∧ v = (.bool (decide (b = 0))) := tv_get (k := 4) (hsp2 1 (by decide)) (by omega)
  clear hb2 hk2 hsp2
  by_cases hc4 : b = 0
  · skip
    refine wp_cond_true (show Act.eval a2 (.tmp 4) = .bool true by rw [eval_of t4_2, I4_2]; simp [hc4]) ?_
    refine wp_seq ?_
    refine fx3n (fun _ _ => True) (l := regionOf Tryz.f28 2) false (by kernel_rfl) 4 16 w.heap.size [1] [Xval _ _ (.pointer (some ⟨r1_1, 0, none⟩)), Xnum _ _ p, Xval _ _ (.string ⟨(Lib.itoa (p)).toArray⟩), Xval _ _ (.string ⟨(Lib.itoa (p)).toArray⟩)] (Sx.and (XhR r1_1 (fun h => h) v1 (Xrat _ _ p b)) (Sx.any _)) (by kernel_rfl) (by kernel_rfl) (by kernel_rfl) hs2 (And.intro (And.intro n1_2 i1_2) trivial) hB2.size ?_ ?_
    · intro i hi a w' hb hiv hk hp
      obtain ⟨⟨n1, i1⟩, _⟩ := hiv
      have k1 := (hk 1 (by decide)).trans t1_2
      match i, hi with
      | 0, _ => exact s_field k1 field_R0 rfl gt
      | 1, _ =>
        obtain ⟨u, hr, hu⟩ := ldR0 n1 i1
        exact s_loadP (hp 0 rfl) hr hu gt
      | 2, _ => exact s_call1 enter_Str (str_ct _ (p) w' (hT.below (hB2.trans hb)) (hp 1 rfl) (le4 gp (by decide))) gt
      | 3, _ => exact s_assign (hp 2 rfl) gt
      | _ + 4, h => exact absurd h (by omega)
    intro a3 w3 hb3 hd3 hs3 hk3 hiv3 hsp3
    have hB3 := hB2.trans hb3
    replace hd3 := hd3.trans hd2
    obtain ⟨⟨n1_3, i1_3⟩, _⟩ := hiv3
    have t1_3 := (hk3 1 (by decide)).trans t1_2
    obtain ⟨v2_3, t2_3, I2_3⟩ : ∃ v, a3.tmps[2]? = some v ∧ v = (.string ⟨(Lib.itoa (p)).toArray⟩) := tv_get (k := 2) (hsp3 3 (by decide)) (by omega)
    clear hb3 hk3 hsp3
    refine wp_ret ?_
    repeat first | refine then_ret ?_ | refine inBlock_ret ?_
    refine bodyPost_ret (res_t rfl t2_3) hd3 ⟨_, rfl, hB3, ?_⟩
    unfold rstr
    rw [if_pos hc4]
    exact I2_3
  · skip
    refine wp_cond_false (show Act.eval a2 (.tmp 4) = .bool false by rw [eval_of t4_2, I4_2]; simp [hc4]) ?_
    refine wp_skip ?_
    change Code.wp _ _ _ _ _
    refine wp_seq ?_
    refine fx3n (fun _ _ => True) (l := regionOf Tryz.f28 3) true (by kernel_rfl) 9 16 w.heap.size [1] [Xval _ _ (.pointer (some ⟨r1_1, 0, none⟩)), Xnum _ _ p, Xval _ _ (.string ⟨(Lib.itoa (p)).toArray⟩), Xval _ _ (.string (⟨(Lib.itoa (p)).toArray⟩ ++ ⟨#[47]⟩)), Xval _ _ (.pointer (some ⟨r1_1, 2, none⟩)), Xnum _ _ b, Xval _ _ (.string ⟨(Lib.itoa (b)).toArray⟩), Xval _ _ (.string ((⟨(Lib.itoa (p)).toArray⟩ ++ ⟨#[47]⟩) ++ ⟨(Lib.itoa (b)).toArray⟩)), Xval _ _ (.string ((⟨(Lib.itoa (p)).toArray⟩ ++ ⟨#[47]⟩) ++ ⟨(Lib.itoa (b)).toArray⟩))] (Sx.and (XhR r1_1 (fun h => h) v1 (Xrat _ _ p b)) (Sx.any _)) (by kernel_rfl) (by kernel_rfl) (by kernel_rfl) hs2 (And.intro (And.intro n1_2 i1_2) trivial) hB2.size ?_ ?_
    · intro i hi a w' hb hiv hk hp
      obtain ⟨⟨n1, i1⟩, _⟩ := hiv
      have k1 := (hk 1 (by decide)).trans t1_2
      match i, hi with
      | 0, _ => exact s_field k1 field_R0 rfl gt
      | 1, _ =>
        obtain ⟨u, hr, hu⟩ := ldR0 n1 i1
        exact s_loadP (hp 0 rfl) hr hu gt
      | 2, _ => exact s_call1 enter_Str (str_ct _ (p) w' (hT.below (hB2.trans hb)) (hp 1 rfl) (le4 gp (by decide))) gt
      | 3, _ => exact s_cat (hp 2 rfl) rfl (by have h1 := itoa_len gp (by decide); have h2 := itoa_len gb (by decide); simp only [bsz, List.length_cons, List.length_nil]; omega) rfl gt
      | 4, _ => exact s_field k1 field_R1 rfl gt
      | 5, _ =>
        obtain ⟨u, hr, hu⟩ := ldR1 n1 i1
        exact s_loadP (hp 4 rfl) hr hu gt
      | 6, _ => exact s_call1 enter_Str (str_ct _ (b) w' (hT.below (hB2.trans hb)) (hp 5 rfl) (le4 gb (by decide))) gt
      | 7, _ => exact s_cat (hp 3 rfl) (hp 6 rfl) (by have h1 := itoa_len gp (by decide); have h2 := itoa_len gb (by decide); simp only [ByteArray.size_append, bsz, List.length_cons, List.length_nil]; omega) rfl gt
      | 8, _ => exact s_assign (hp 7 rfl) gt
      | _ + 9, h => exact absurd h (by omega)
    intro a3 w3 hb3 hd3 hs3 hk3 hiv3 hsp3
    have hB3 := hB2.trans hb3
    replace hd3 := hd3.trans hd2
    obtain ⟨⟨n1_3, i1_3⟩, _⟩ := hiv3
    obtain ⟨v2_3, t2_3, I2_3⟩ : ∃ v, a3.tmps[2]? = some v ∧ v = (.string ((⟨(Lib.itoa (p)).toArray⟩ ++ ⟨#[47]⟩) ++ ⟨(Lib.itoa (b)).toArray⟩)) := tv_get (k := 2) (hsp3 8 (by decide)) (by omega)
    clear hb3 hk3 hsp3
    refine wp_ret ?_
    repeat first | refine then_ret ?_ | refine inBlock_ret ?_
    refine bodyPost_ret (res_t rfl t2_3) hd3 ⟨_, rfl, hB3, ?_⟩
    unfold rstr
    rw [if_neg hc4]
    exact I2_3

set_option maxRecDepth 100000 in
set_option maxHeartbeats 1600000 in
theorem qtext_any (v1 : Value) (p b : Int) (gp : (p.natAbs : Int) < T4.pw 1000) (gb : (b.natAbs : Int) < T4.pw 1000) (h0 : b ≠ 0) (w : World) (i0 : IsQ w v1 p b) :
    Calls Tryz.prog 42 #[v1] w fun e w' => ∃ r, e = .returned r ∧ Below w.heap.size w w' ∧ r = .string (rstr p (lowB b)) := by
  refine calls_act (fn := Tryz.f42) (by kernel_rfl) rfl (N := 19) (by kernel_rfl) (by simp) ?_
  intro a0 hs0 hd0 hx0
  have t0 : a0.tmps[0]? = some v1 := hx0 0 _ rfl
  clear hx0
  have hB0 : Below w.heap.size w w := Below.refl _ _
  refine wp_seq ?_
  refine fxN (fun _ => False) Zr (l := regionOf Tryz.f42 0) false (by kernel_rfl) 2 19 w.heap.size [0]
    [XoQ _ w.heap.size v1 (Xfr _ _ (fun _ _ h => h) p b), Xval _ _ (.string ⟨#[]⟩)]
    (Sx.and (Sx.at (Xfr _ _ (fun _ _ h => h) p b) v1) (Sx.any _)) [(1, some 0)] [] (by kernel_rfl) (by kernel_rfl) (by kernel_rfl) hs0 (And.intro i0 trivial) hB0.size List.nodup_nil fan (fac (npQ rfl) fan) ?_ ?_ ?_
  · intro i hi hns a w' hb hiv hk hp hold
    obtain ⟨i0, _⟩ := hiv
    have k0 := (hk 0 (by decide)).trans t0
    match i, hi with
    | 0, _ => exact sB_Q hb.size k0 i0 i0 rfl
    | 1, _ => exact s_cassign rfl (gf rfl)
    | _ + 2, h => exact absurd h (by omega)
  · exact fan
  intro a1 w1 hb1 hd1 hs1 hk1 hiv1 hsp1 hst1 hds1
  have hB1 := hB0.trans hb1
  replace hd1 := hd1.trans hd0
  obtain ⟨i0_1, _⟩ := hiv1
  obtain ⟨r1_1, t1_1, b1_1, n1_1, I1_1⟩ := toQ (k := 1) (hsp1 0 (by decide) fan) hB0.size (by omega)
  obtain ⟨v2_1, t2_1, I2_1⟩ : ∃ v, a1.tmps[2]? = some v ∧ v = (.string ⟨#[]⟩) := tv_get (k := 2) (hsp1 1 (by decide) fan) (by omega)
  clear hb1 hk1 hsp1 hst1 hds1
  refine wp_seq ?_
  refine wp_seq ?_
  refine fx3n Zr (l := regionOf Tryz.f42 1) true (by kernel_rfl) 5 19 w.heap.size [1, 2] [Xval _ _ (.pointer (some ⟨r1_1, 2, none⟩)), Xdoc _ _ (fun _ _ h => h) b, Xdoc _ _ (fun _ _ h => h) 1, Xval _ _ (.int .i64 (sgn (b - 1))), Xval _ _ (.bool ((sgn (b - 1)) == 0))] (Sx.and (XhQ r1_1 (fun h => h) v1 (Xfr _ _ (fun _ _ h => h) p b)) (Sx.any _)) (by kernel_rfl) (by kernel_rfl) (by kernel_rfl) hs1 (And.intro (And.intro n1_1 I1_1) trivial) hB1.size ?_ ?_
  · intro i hi a w' hb hiv hk hp
    obtain ⟨⟨n1, i1⟩, _⟩ := hiv
    have k1 := (hk 1 (by decide)).trans t1_1
    match i, hi with
    | 0, _ => exact s_field k1 field_Q1 rfl gt
    | 1, _ =>
      obtain ⟨u, hr, hu⟩ := ldQ1 n1 i1
      exact s_loadP (hp 0 rfl) hr hu gt
    | 2, _ => exact s_callC enter_ofN (ofN_any 1 w' (by decide) (by decide)) gt
    | 3, _ => exact s_call2 enter_cmpN (cmpN_ct _ _ (b) (1) w' (hp 1 rfl) (hp 2 rfl) (T4.le9 gb (by decide)) (T4.le9 T4.pw_one1 (by decide))) gt
    | 4, _ => exact s_eql (hp 3 rfl) rfl rfl gt
    | _ + 5, h => exact absurd h (by omega)
  intro a2 w2 hb2 hd2 hs2 hk2 hiv2 hsp2
  have hB2 := hB1.trans hb2
  replace hd2 := hd2.trans hd1
  obtain ⟨⟨n1_2, i1_2⟩, _⟩ := hiv2
  have t1_2 := (hk2 1 (by decide)).trans t1_1
  have t2_2 := (hk2 2 (by decide)).trans t2_1
  obtain ⟨v7_2, t7_2, I7_2⟩ : ∃ v, a2.tmps[7]? = some v ∧ v = (.bool ((sgn (b - 1)) == 0)) := tv_get (k := 7) (hsp2 4 (by decide)) (by omega)
  clear hb2 hk2 hsp2
  by_cases hc7 : b = 1
  · skip
    refine wp_cond_true (show Act.eval a2 (.tmp 7) = .bool true by rw [eval_of t7_2, I7_2]; rw [sgn_sub_one]; simp [hc7]) ?_
    refine wp_seq ?_
    refine fx3n Zr (l := regionOf Tryz.f42 2) false (by kernel_rfl) 4 19 w.heap.size [1] [Xval _ _ (.pointer (some ⟨r1_1, 0, none⟩)), Xdoc _ _ (fun _ _ h => h) p, Xval _ _ (.string ⟨(Lib.itoa (p)).toArray⟩), Xval _ _ (.string ⟨(Lib.itoa (p)).toArray⟩)] (Sx.and (XhQ r1_1 (fun h => h) v1 (Xfr _ _ (fun _ _ h => h) p b)) (Sx.any _)) (by kernel_rfl) (by kernel_rfl) (by kernel_rfl) hs2 (And.intro (And.intro n1_2 i1_2) trivial) hB2.size ?_ ?_
    · intro i hi a w' hb hiv hk hp
      obtain ⟨⟨n1, i1⟩, _⟩ := hiv
      have k1 := (hk 1 (by decide)).trans t1_2
      match i, hi with
      | 0, _ => exact s_field k1 field_Q0 rfl gt
      | 1, _ =>
        obtain ⟨u, hr, hu⟩ := ldQ0 n1 i1
        exact s_loadP (hp 0 rfl) hr hu gt
      | 2, _ => exact s_call1 enter_textN (text_ct _ (p) w' (hp 1 rfl) (T4.le4 gp (by decide))) gt
      | 3, _ => exact s_assign (hp 2 rfl) gt
      | _ + 4, h => exact absurd h (by omega)
    intro a3 w3 hb3 hd3 hs3 hk3 hiv3 hsp3
    have hB3 := hB2.trans hb3
    replace hd3 := hd3.trans hd2
    obtain ⟨⟨n1_3, i1_3⟩, _⟩ := hiv3
    have t1_3 := (hk3 1 (by decide)).trans t1_2
    obtain ⟨v2_3, t2_3, I2_3⟩ : ∃ v, a3.tmps[2]? = some v ∧ v = (.string ⟨(Lib.itoa (p)).toArray⟩) := tv_get (k := 2) (hsp3 3 (by decide)) (by omega)
    clear hb3 hk3 hsp3
    refine wp_ret ?_
    repeat first | refine then_ret ?_ | refine inBlock_ret ?_
    refine bodyPost_ret (res_t rfl t2_3) hd3 ⟨_, rfl, hB3, ?_⟩
    unfold rstr
    rw [if_pos (show lowB b = 0 by unfold lowB; rw [if_pos hc7])]
    exact I2_3
  · skip
    refine wp_cond_false (show Act.eval a2 (.tmp 7) = .bool false by rw [eval_of t7_2, I7_2]; rw [sgn_sub_one]; simp [hc7]) ?_
    refine wp_skip ?_
    change Code.wp _ _ _ _ _
    refine wp_seq ?_
    refine fx3n Zr (l := regionOf Tryz.f42 3) true (by kernel_rfl) 9 19 w.heap.size [1] [Xval _ _ (.pointer (some ⟨r1_1, 0, none⟩)), Xdoc _ _ (fun _ _ h => h) p, Xval _ _ (.string ⟨(Lib.itoa (p)).toArray⟩), Xval _ _ (.string (⟨(Lib.itoa (p)).toArray⟩ ++ ⟨#[47]⟩)), Xval _ _ (.pointer (some ⟨r1_1, 2, none⟩)), Xdoc _ _ (fun _ _ h => h) b, Xval _ _ (.string ⟨(Lib.itoa (b)).toArray⟩), Xval _ _ (.string ((⟨(Lib.itoa (p)).toArray⟩ ++ ⟨#[47]⟩) ++ ⟨(Lib.itoa (b)).toArray⟩)), Xval _ _ (.string ((⟨(Lib.itoa (p)).toArray⟩ ++ ⟨#[47]⟩) ++ ⟨(Lib.itoa (b)).toArray⟩))] (Sx.and (XhQ r1_1 (fun h => h) v1 (Xfr _ _ (fun _ _ h => h) p b)) (Sx.any _)) (by kernel_rfl) (by kernel_rfl) (by kernel_rfl) hs2 (And.intro (And.intro n1_2 i1_2) trivial) hB2.size ?_ ?_
    · intro i hi a w' hb hiv hk hp
      obtain ⟨⟨n1, i1⟩, _⟩ := hiv
      have k1 := (hk 1 (by decide)).trans t1_2
      match i, hi with
      | 0, _ => exact s_field k1 field_Q0 rfl gt
      | 1, _ =>
        obtain ⟨u, hr, hu⟩ := ldQ0 n1 i1
        exact s_loadP (hp 0 rfl) hr hu gt
      | 2, _ => exact s_call1 enter_textN (text_ct _ (p) w' (hp 1 rfl) (T4.le4 gp (by decide))) gt
      | 3, _ => exact s_cat (hp 2 rfl) rfl (by have h1 := itoa_len4 gp (by decide); have h2 := itoa_len4 gb (by decide); simp only [bsz, List.length_cons, List.length_nil]; omega) rfl gt
      | 4, _ => exact s_field k1 field_Q1 rfl gt
      | 5, _ =>
        obtain ⟨u, hr, hu⟩ := ldQ1 n1 i1
        exact s_loadP (hp 4 rfl) hr hu gt
      | 6, _ => exact s_call1 enter_textN (text_ct _ (b) w' (hp 5 rfl) (T4.le4 gb (by decide))) gt
      | 7, _ => exact s_cat (hp 3 rfl) (hp 6 rfl) (by have h1 := itoa_len4 gp (by decide); have h2 := itoa_len4 gb (by decide); simp only [ByteArray.size_append, bsz, List.length_cons, List.length_nil]; omega) rfl gt
      | 8, _ => exact s_assign (hp 7 rfl) gt
      | _ + 9, h => exact absurd h (by omega)
    intro a3 w3 hb3 hd3 hs3 hk3 hiv3 hsp3
    have hB3 := hB2.trans hb3
    replace hd3 := hd3.trans hd2
    obtain ⟨⟨n1_3, i1_3⟩, _⟩ := hiv3
    obtain ⟨v2_3, t2_3, I2_3⟩ : ∃ v, a3.tmps[2]? = some v ∧ v = (.string ((⟨(Lib.itoa (p)).toArray⟩ ++ ⟨#[47]⟩) ++ ⟨(Lib.itoa (b)).toArray⟩)) := tv_get (k := 2) (hsp3 8 (by decide)) (by omega)
    clear hb3 hk3 hsp3
    refine wp_ret ?_
    repeat first | refine then_ret ?_ | refine inBlock_ret ?_
    refine bodyPost_ret (res_t rfl t2_3) hd3 ⟨_, rfl, hB3, ?_⟩
    unfold rstr
    rw [if_neg (show ¬ lowB b = 0 by unfold lowB; rw [if_neg hc7]; exact h0), show lowB b = b by unfold lowB; rw [if_neg hc7]]
    exact I2_3

end Go.Proofs.YtlcfldkmojpkpaaGreatDoor
