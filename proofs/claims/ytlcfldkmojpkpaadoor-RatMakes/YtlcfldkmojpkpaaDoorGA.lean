/- Package rat: sums, products, orders, by program. -/
import Derived.Test.YtlcfldkmojpkpaaDoorFF

/- Package rat: its walks, by program. -/
namespace Go.Proofs.YtlcfldkmojpkpaaDoor
open Go Go.RowKit

theorem enter_Quo : Enters Tryd.prog 36 := ⟨fun xs w => by go_simp⟩
theorem enter_Of : Enters Tryd.prog 19 := ⟨fun xs w => by go_simp⟩
theorem pw_one1 : (((1 : Int).natAbs : Nat) : Int) < pw 1 := by decide
theorem pw_one0 : (((0 : Int).natAbs : Nat) : Int) < pw 1 := by decide
theorem quo_ct (va vb : Value) (za zb : Int) (w : World) (hA : IsI w va za) (hB : IsI w vb zb) (hza : (za.natAbs : Int) < pw 4000) (hzb : (zb.natAbs : Int) < pw 4000) :
    Calls Tryd.prog 36 #[va, vb] w fun e w' => ∃ r, e = .returned r ∧ Below w.heap.size w w' ∧ ∃ x y, r = .tuple #[x, y] ∧ IsI w' x (za / zb) ∧ IsI w' y (za % zb) := by
  refine Calls.mono (quo_any quoLong_any va vb za zb w hA hB hza hzb) ?_
  rintro e w' ⟨r1, r2, rfl, hb, h1, h2⟩
  exact ⟨_, rfl, hb, r1, r2, rfl, h1, h2⟩
theorem sign_ct (v : Value) (z : Int) (w : World) (h : IsI w v z) : Calls Tryd.prog 10 #[v] w fun e w' => ∃ r, e = .returned r ∧ Below w.heap.size w w' ∧ r = .int .i64 (sgn z) :=
  Calls.mono (sign_any v z w h) fun _ _ ⟨h1, h2⟩ => ⟨_, h1, h2, rfl⟩
theorem cmp_ct (va vb : Value) (za zb : Int) (w : World) (hA : IsI w va za) (hB : IsI w vb zb) (hza : (za.natAbs : Int) < pw 4000) (hzb : (zb.natAbs : Int) < pw 4000) :
    Calls Tryd.prog 17 #[va, vb] w fun e w' => ∃ r, e = .returned r ∧ Below w.heap.size w w' ∧ r = .int .i64 (cmpI za zb) :=
  Calls.mono (cmp_any va vb za zb w hA hB hza hzb) fun _ _ ⟨h1, h2⟩ => ⟨_, h1, h2, rfl⟩
theorem of_ct (n : Int) (w : World) (h0 : -9223372036854775808 ≤ n) (h1 : n ≤ 9223372036854775807) : Calls Tryd.prog 19 #[.int .i64 n] w fun e w' => ∃ r, e = .returned r ∧ Below w.heap.size w w' ∧ IsI w' r n :=
  Calls.mono (of_any n w) fun _ _ ⟨e, h2⟩ => ⟨_, e, h2, .inl ⟨rfl, h0, h1⟩⟩

set_option maxRecDepth 100000 in
set_option maxHeartbeats 1600000 in
theorem own_any (v1 : Value) (z : Int) (hz : (z.natAbs : Int) < pw 3000) (w : World) (i0 : IsI w v1 z) :
    Calls Tryd.prog 34 #[v1] w fun e w' => ∃ r, e = .returned r ∧ Below w.heap.size w w' ∧ IsI w' r z := by
  refine calls_act (fn := Tryd.f34) (by kernel_rfl) rfl (N := 6) (by kernel_rfl) (by simp) ?_
  intro a0 hs0 hd0 hx0
  have t0 : a0.tmps[0]? = some v1 := hx0 0 _ rfl
  clear hx0
  have hB0 : Below w.heap.size w w := Below.refl _ _
  refine wp_seq ?_
  refine fxN (fun _ => False) (fun _ _ => True) (l := regionOf Tryd.f34 0) false (by kernel_rfl) 2 6 w.heap.size [0]
    [XoI _ w.heap.size v1 (Xnum _ _ z), XoI _ w.heap.size zaI (Xnum _ _ 0)]
    (Sx.and (Sx.at (Xnum _ _ z) v1) (Sx.any _)) [(1, some 0), (2, some 1)] [] (by kernel_rfl) (by kernel_rfl) (by kernel_rfl) hs0 (And.intro i0 trivial) hB0.size List.nodup_nil fan (fac (npI rfl) (fac (npI rfl) fan)) ?_ ?_ ?_
  · intro i hi hns a w' hb hiv hk hp hold
    obtain ⟨i0, _⟩ := hiv
    have k0 := (hk 0 (by decide)).trans t0
    match i, hi with
    | 0, _ => exact sB_I hb.size k0 i0 i0 rfl
    | 1, _ => exact sO_I hb.size isI_zero rfl
    | _ + 2, h => exact absurd h (by omega)
  · exact fan
  intro a1 w1 hb1 hd1 hs1 hk1 hiv1 hsp1 hst1 hds1
  have hB1 := hB0.trans hb1
  replace hd1 := hd1.trans hd0
  obtain ⟨i0_1, _⟩ := hiv1
  obtain ⟨r1_1, t1_1, b1_1, n1_1, I1_1⟩ := toI (k := 1) (hsp1 0 (by decide) fan) hB0.size (by omega)
  obtain ⟨r2_1, t2_1, b2_1, n2_1, I2_1⟩ := toI (k := 2) (hsp1 1 (by decide) fan) hB0.size (by omega)
  have ne1_2_1 : r1_1 ≠ r2_1 := ne_ptr (hds1 (1, some 0) (.head _) (2, some 1) (.tail _ (.head _)) (by decide)) t1_1 t2_1
  clear hb1 hk1 hsp1 hst1 hds1
  refine wp_seq ?_
  refine fx3 (fun r => r = r2_1) (fun _ _ => True) (l := regionOf Tryd.f34 1) false (by kernel_rfl) 4 6 w.heap.size [1, 2]
    [Xnum _ _ z, Xnum _ _ 0, Xnum _ _ (z + 0), Sx.any _]
    (Sx.and (XhI r1_1 (show ¬ (r1_1 = r2_1) by have := n1_1.lt; omega) v1 (Xnum _ _ z)) (Sx.any _)) [(2, none)] [stXI 3 2 (Xnum _ _ (z + 0)) r2_1 zaI (Xnum _ _ 0)]
    (by kernel_rfl) (by kernel_rfl) (by kernel_rfl) hs1 (And.intro (And.intro n1_1 I1_1) trivial) hB1.size (fac (fun _ _ => trivial) fan) (show ([3] : List Nat).Nodup by decide) (fac (.inr (And.intro (show (2 : Nat) ∈ ([1, 2] : List Nat) by decide) (And.intro (.head _) (getD_of t2_1)))) fan) (fac (And.intro n2_1 I2_1) fan) (fac (fun _ => ⟨r2_1, getD_of t2_1, n2_1.lt⟩) fan) (dis_one rfl) (fac (fun i hi => by cases hi) fan) ?_ ?_ ?_
  · intro i hi hns a w' hb hiv hk hp hold
    obtain ⟨⟨n1, i1⟩, _⟩ := hiv
    have k1 := (hk 1 (by decide)).trans t1_1
    match i, hi with
    | 0, _ => exact s_load k1 (load_bx n1) i1 (gf rfl)
    | 1, _ => exact s_bldI (isI_zero _) (gf rfl)
    | 2, _ => exact s_call2 enter_Add (add_any _ _ (z) (0) w' (hp 0 rfl) (hp 1 rfl) (le4 hz (by decide)) (le4 pw_one0 (by decide))) (gf rfl)
    | 3, _ => exact absurd rfl (hns _ (.head _))
    | _ + 4, h => exact absurd h (by omega)
  · refine fac ?_ (fan)
    · intro a w' hb hiv hk hp ho hf
      exact sX_I ((hk 2 (by decide)).trans t2_1) ho.1 (hp 2 rfl) (hp 2 rfl) b2_1.1 (by simp) trivial
  intro a2 w2 hb2 hd2 hs2 hk2 hiv2 hsp2 hst2 hds2
  have hB2 := hB1.trans hb2
  replace hd2 := hd2.trans hd1
  obtain ⟨⟨n1_2, i1_2⟩, _⟩ := hiv2
  have t2_2 := (hk2 2 (by decide)).trans t2_1
  obtain ⟨v2_2, n2_2, I2_2⟩ := txI (hst2 _ (.head _)) t2_2
  clear hb2 hk2 hsp2 hst2 hds2
  refine wp_ret ?_
  repeat first | refine then_ret ?_ | refine inBlock_ret ?_
  refine bodyPost_ret (res_I rfl t2_2 n2_2) hd2 ⟨_, rfl, hB2, ?_⟩
  have := I2_2
  rwa [Int.add_zero] at this

theorem le3n {z : Int} {k : Nat} (h : (z.natAbs : Int) < pw k) (hk : k ≤ 3000) : (z.natAbs : Int) < pw 3000 := Int.lt_of_lt_of_le h (pw_mono hk)
theorem le1n {z : Int} {k : Nat} (h : (z.natAbs : Int) < pw k) (hk : k ≤ 700) : (z.natAbs : Int) < pw 700 := Int.lt_of_lt_of_le h (pw_mono hk)
theorem enter_own : Enters Tryd.prog 34 := ⟨fun xs w => by go_simp⟩
theorem enter_part : Enters Tryd.prog 26 := ⟨fun xs w => by go_simp⟩
theorem enter_low : Enters Tryd.prog 25 := ⟨fun xs w => by go_simp⟩
theorem enter_isw : Enters Tryd.prog 21 := ⟨fun xs w => by go_simp⟩
theorem enter_bel : Enters Tryd.prog 12 := ⟨fun xs w => by go_simp⟩
theorem enter_top : Enters Tryd.prog 13 := ⟨fun xs w => by go_simp⟩
/-- What is laid for a below; what a below is that is laid. -/
def lowB (b : Int) : Int := if b = 1 then 0 else b
def bel (b : Int) : Int := if b = 0 then 1 else b
theorem lowB_lt {b : Int} {k : Nat} (h : (b.natAbs : Int) < pw k) : ((lowB b).natAbs : Int) < pw k := by
  unfold lowB
  split
  · exact pw_pos k
  · exact h
theorem bel_lt {b : Int} {k : Nat} (h : (b.natAbs : Int) < pw k) : ((bel b).natAbs : Int) < pw (k + 1) := by
  have h1 : pw (k + 1) = 1000000000 * pw k := rfl
  have := pw_pos k
  unfold bel
  split
  · simp; omega
  · omega
theorem cmp_one (b : Int) : (cmpI b 1 == 0) = decide (b = 1) := by
  unfold cmpI
  by_cases h : b = 1
  · simp [h]
  · by_cases h2 : b < 1
    · simp [h, h2]
    · have : 1 < b := by omega
      simp [h, h2, this]
theorem sgn_zero (b : Int) : (sgn b == 0) = decide (b = 0) := by
  unfold sgn
  by_cases h : b = 0
  · simp [h]
  · by_cases h2 : b < 0
    · simp [h, h2]
    · have : 0 < b := by omega
      simp [h, h2, this]
set_option maxRecDepth 100000 in
set_option maxHeartbeats 1600000 in
theorem part_any (v1 v2 : Value) (z y : Int) (hz : (z.natAbs : Int) < pw 3000) (hy : (y.natAbs : Int) < pw 3000) (w : World) (i0 : IsI w v1 z) (i1 : IsI w v2 y) :
    Calls Tryd.prog 26 #[v1, v2] w fun e w' => ∃ r, e = .returned r ∧ Below w.heap.size w w' ∧ IsI w' r (z / y) := by
  refine calls_act (fn := Tryd.f26) (by kernel_rfl) rfl (N := 14) (by kernel_rfl) (by simp) ?_
  intro a0 hs0 hd0 hx0
  have t0 : a0.tmps[0]? = some v1 := hx0 0 _ rfl
  have t1 : a0.tmps[1]? = some v2 := hx0 1 _ rfl
  clear hx0
  have hB0 : Below w.heap.size w w := Below.refl _ _
  refine wp_seq ?_
  refine fxN (fun _ => False) (fun _ _ => True) (l := regionOf Tryd.f26 0) false (by kernel_rfl) 3 14 w.heap.size [0, 1]
    [XoI _ w.heap.size v1 (Xnum _ _ z), XoI _ w.heap.size v2 (Xnum _ _ y), XoI _ w.heap.size zaI (Xnum _ _ 0)]
    (Sx.and (Sx.at (Xnum _ _ z) v1) (Sx.and (Sx.at (Xnum _ _ y) v2) (Sx.any _))) [(2, some 0), (3, some 1), (4, some 2)] [] (by kernel_rfl) (by kernel_rfl) (by kernel_rfl) hs0 (And.intro i0 (And.intro i1 trivial)) hB0.size List.nodup_nil fan (fac (npI rfl) (fac (npI rfl) (fac (npI rfl) fan))) ?_ ?_ ?_
  · intro i hi hns a w' hb hiv hk hp hold
    obtain ⟨i0, i1, _⟩ := hiv
    have k0 := (hk 0 (by decide)).trans t0
    have k1 := (hk 1 (by decide)).trans t1
    match i, hi with
    | 0, _ => exact sB_I hb.size k0 i0 i0 rfl
    | 1, _ => exact sB_I hb.size k1 i1 i1 rfl
    | 2, _ => exact sO_I hb.size isI_zero rfl
    | _ + 3, h => exact absurd h (by omega)
  · exact fan
  intro a1 w1 hb1 hd1 hs1 hk1 hiv1 hsp1 hst1 hds1
  have hB1 := hB0.trans hb1
  replace hd1 := hd1.trans hd0
  obtain ⟨i0_1, i1_1, _⟩ := hiv1
  obtain ⟨r2_1, t2_1, b2_1, n2_1, I2_1⟩ := toI (k := 2) (hsp1 0 (by decide) fan) hB0.size (by omega)
  obtain ⟨r3_1, t3_1, b3_1, n3_1, I3_1⟩ := toI (k := 3) (hsp1 1 (by decide) fan) hB0.size (by omega)
  obtain ⟨r4_1, t4_1, b4_1, n4_1, I4_1⟩ := toI (k := 4) (hsp1 2 (by decide) fan) hB0.size (by omega)
  have ne2_4_1 : r2_1 ≠ r4_1 := ne_ptr (hds1 (2, some 0) (.head _) (4, some 2) (.tail _ (.tail _ (.head _))) (by decide)) t2_1 t4_1
  have ne3_4_1 : r3_1 ≠ r4_1 := ne_ptr (hds1 (3, some 1) (.tail _ (.head _)) (4, some 2) (.tail _ (.tail _ (.head _))) (by decide)) t3_1 t4_1
  clear hb1 hk1 hsp1 hst1 hds1
  refine wp_seq ?_
  refine fxN (fun r => w1.heap.size ≤ r) (fun _ _ => True) (l := regionOf Tryd.f26 1) false (by kernel_rfl) 10 14 w.heap.size [2, 3, 4]
    [Xnum _ _ z, Xnum _ _ y, Xtup (Xnum _ _ (z / y)) (Xnum _ _ (z % y)), Xtup (Xnum _ _ (z / y)) (Xnum _ _ (z % y)), Xnum _ _ (z / y), Xnum _ _ (z % y), Sx.box _ w1.heap.size 26, Sx.box _ w1.heap.size 26, Sx.any _, Sx.any _]
    (Sx.and (XhI r2_1 (Nat.not_le_of_lt n2_1.lt) v1 (Xnum _ _ z)) (Sx.and (XhI r3_1 (Nat.not_le_of_lt n3_1.lt) v2 (Xnum _ _ y)) (Sx.and (XhI r4_1 (Nat.not_le_of_lt n4_1.lt) zaI (Xnum _ _ 0)) (Sx.any _)))) [(5, some 6), (6, some 7)] [stNI 8 5 (Xnum _ _ (z / y)), stNI 9 6 (Xnum _ _ (z % y))] (by kernel_rfl) (by kernel_rfl) (by kernel_rfl) hs1 (And.intro (And.intro n2_1 I2_1) (And.intro (And.intro n3_1 I3_1) (And.intro (And.intro n4_1 I4_1) trivial))) hB1.size (show ([8, 9] : List Nat).Nodup by decide) (fac nst (fac nst fan)) (fac (nby rfl) (fac (nby rfl) fan)) ?_ ?_ ?_
  · intro i hi hns a w' hb hiv hk hp hold
    obtain ⟨⟨n2, i2⟩, ⟨n3, i3⟩, ⟨n4, i4⟩, _⟩ := hiv
    have k2 := (hk 2 (by decide)).trans t2_1
    have k3 := (hk 3 (by decide)).trans t3_1
    match i, hi with
    | 0, _ => exact s_load k2 (load_bx n2) i2 (gf rfl)
    | 1, _ => exact s_load k3 (load_bx n3) i3 (gf rfl)
    | 2, _ => exact s_call2 enter_Quo (quo_ct _ _ (z) (y) w' (hp 0 rfl) (hp 1 rfl) (le4 hz (by decide)) (le4 hy (by decide))) (gf rfl)
    | 3, _ => exact s_move (hp 2 rfl) (gf rfl)
    | 4, _ => exact s_ext0 (hp 3 rfl) (gf rfl)
    | 5, _ => exact s_ext1 (hp 3 rfl) (gf rfl)
    | 6, _ => exact sA_I hb.size hb.size (fac (zI w') (fac (zI w') fan))
    | 7, _ => exact sA_I hb.size hb.size (fac (zI w') (fac (zI w') fan))
    | 8, _ => exact absurd rfl (hns _ (.head _))
    | 9, _ => exact absurd rfl (hns _ (.tail _ (.head _)))
    | _ + 10, h => exact absurd h (by omega)
  · refine fac ?_ (fac ?_ (fan))
    · intro a w' hb hiv hk hp ho hf
      exact sN_I (hp 6 rfl) (hp 4 rfl) (hp 4 rfl) hB1.size (hf 6 (.head _)) (fun _ _ => trivial)
    · intro a w' hb hiv hk hp ho hf
      exact sN_I (hp 7 rfl) (hp 5 rfl) (hp 5 rfl) hB1.size (hf 7 (.tail _ (.head _))) (fun _ _ => trivial)
  intro a2 w2 hb2 hd2 hs2 hk2 hiv2 hsp2 hst2 hds2
  have hB2 := hB1.trans hb2
  replace hd2 := hd2.trans hd1
  obtain ⟨⟨n2_2, i2_2⟩, ⟨n3_2, i3_2⟩, ⟨n4_2, i4_2⟩, _⟩ := hiv2
  have t4_2 := (hk2 4 (by decide)).trans t4_1
  obtain ⟨r5_2, v5_2, t5_2, b5_2, n5_2, I5_2⟩ := tnI (k := 5) (hst2 _ (.head _)) (hsp2 6 (by decide) (fac (nq rfl) (fac (nq rfl) fan))) hB1.size (by omega)
  have ne4_5_2 : r4_1 ≠ r5_2 := by have := n4_1.lt; have := b5_2.2; omega
  clear hb2 hk2 hsp2 hst2 hds2
  refine wp_seq ?_
  refine fx3 (fun r => r = r4_1) (fun _ _ => True) (l := regionOf Tryd.f26 2) false (by kernel_rfl) 2 14 w.heap.size [4, 5]
    [Xnum _ _ (z / y), Sx.any _]
    (Sx.and (XhI r5_2 (show ¬ (r5_2 = r4_1) by have := n5_2.lt; omega) v5_2 (Xnum _ _ (z / y))) (Sx.any _)) [(4, none)] [stXI 1 4 (Xnum _ _ (z / y)) r4_1 zaI (Xnum _ _ 0)]
    (by kernel_rfl) (by kernel_rfl) (by kernel_rfl) hs2 (And.intro (And.intro n5_2 I5_2) trivial) hB2.size (fac (fun _ _ => trivial) fan) (show ([1] : List Nat).Nodup by decide) (fac (.inr (And.intro (show (4 : Nat) ∈ ([4, 5] : List Nat) by decide) (And.intro (.head _) (getD_of t4_2)))) fan) (fac (And.intro n4_2 i4_2) fan) (fac (fun _ => ⟨r4_1, getD_of t4_2, n4_2.lt⟩) fan) (dis_one rfl) (fac (fun i hi => by cases hi) fan) ?_ ?_ ?_
  · intro i hi hns a w' hb hiv hk hp hold
    obtain ⟨⟨n5, i5⟩, _⟩ := hiv
    have k5 := (hk 5 (by decide)).trans t5_2
    match i, hi with
    | 0, _ => exact s_load k5 (load_bx n5) i5 (gf rfl)
    | 1, _ => exact absurd rfl (hns _ (.head _))
    | _ + 2, h => exact absurd h (by omega)
  · refine fac ?_ (fan)
    · intro a w' hb hiv hk hp ho hf
      exact sX_I ((hk 4 (by decide)).trans t4_2) ho.1 (hp 0 rfl) (hp 0 rfl) b4_1.1 (by simp) trivial
  intro a3 w3 hb3 hd3 hs3 hk3 hiv3 hsp3 hst3 hds3
  have hB3 := hB2.trans hb3
  replace hd3 := hd3.trans hd2
  obtain ⟨⟨n5_3, i5_3⟩, _⟩ := hiv3
  have t4_3 := (hk3 4 (by decide)).trans t4_2
  obtain ⟨v4_3, n4_3, I4_3⟩ := txI (hst3 _ (.head _)) t4_3
  clear hb3 hk3 hsp3 hst3 hds3
  refine wp_ret ?_
  repeat first | refine then_ret ?_ | refine inBlock_ret ?_
  refine bodyPost_ret (res_I rfl t4_3 n4_3) hd3 ⟨_, rfl, hB3, ?_⟩
  exact I4_3

set_option maxRecDepth 100000 in
set_option maxHeartbeats 1600000 in
theorem low_any (v1 v2 : Value) (z y : Int) (_hz : (z.natAbs : Int) < pw 3000) (hy : (y.natAbs : Int) < pw 3000) (w : World) (i0 : IsI w v1 z) (i1 : IsI w v2 y) :
    Calls Tryd.prog 25 #[v1, v2] w fun e w' => ∃ r, e = .returned r ∧ Below w.heap.size w w' ∧ IsR w' r z (lowB y) := by
  refine calls_act (fn := Tryd.f25) (by kernel_rfl) rfl (N := 14) (by kernel_rfl) (by simp) ?_
  intro a0 hs0 hd0 hx0
  have t0 : a0.tmps[0]? = some v1 := hx0 0 _ rfl
  have t1 : a0.tmps[1]? = some v2 := hx0 1 _ rfl
  clear hx0
  have hB0 : Below w.heap.size w w := Below.refl _ _
  refine wp_seq ?_
  refine fxN (fun _ => False) (fun _ _ => True) (l := regionOf Tryd.f25 0) false (by kernel_rfl) 3 14 w.heap.size [0, 1]
    [XoI _ w.heap.size v1 (Xnum _ _ z), XoI _ w.heap.size v2 (Xnum _ _ y), XoR _ w.heap.size zaR (Xrat _ _ 0 0)]
    (Sx.and (Sx.at (Xnum _ _ z) v1) (Sx.and (Sx.at (Xnum _ _ y) v2) (Sx.any _))) [(2, some 0), (3, some 1), (4, some 2)] [] (by kernel_rfl) (by kernel_rfl) (by kernel_rfl) hs0 (And.intro i0 (And.intro i1 trivial)) hB0.size List.nodup_nil fan (fac (npI rfl) (fac (npI rfl) (fac (npR rfl) fan))) ?_ ?_ ?_
  · intro i hi hns a w' hb hiv hk hp hold
    obtain ⟨i0, i1, _⟩ := hiv
    have k0 := (hk 0 (by decide)).trans t0
    have k1 := (hk 1 (by decide)).trans t1
    match i, hi with
    | 0, _ => exact sB_I hb.size k0 i0 i0 rfl
    | 1, _ => exact sB_I hb.size k1 i1 i1 rfl
    | 2, _ => exact sO_R hb.size isR_zero rfl
    | _ + 3, h => exact absurd h (by omega)
  · exact fan
  intro a1 w1 hb1 hd1 hs1 hk1 hiv1 hsp1 hst1 hds1
  have hB1 := hB0.trans hb1
  replace hd1 := hd1.trans hd0
  obtain ⟨i0_1, i1_1, _⟩ := hiv1
  obtain ⟨r2_1, t2_1, b2_1, n2_1, I2_1⟩ := toI (k := 2) (hsp1 0 (by decide) fan) hB0.size (by omega)
  obtain ⟨r3_1, t3_1, b3_1, n3_1, I3_1⟩ := toI (k := 3) (hsp1 1 (by decide) fan) hB0.size (by omega)
  obtain ⟨r4_1, t4_1, b4_1, n4_1, I4_1⟩ := toR (k := 4) (hsp1 2 (by decide) fan) hB0.size (by omega)
  have ne2_4_1 : r2_1 ≠ r4_1 := ne_ptr (hds1 (2, some 0) (.head _) (4, some 2) (.tail _ (.tail _ (.head _))) (by decide)) t2_1 t4_1
  have ne3_4_1 : r3_1 ≠ r4_1 := ne_ptr (hds1 (3, some 1) (.tail _ (.head _)) (4, some 2) (.tail _ (.tail _ (.head _))) (by decide)) t3_1 t4_1
  clear hb1 hk1 hsp1 hst1 hds1
  refine wp_seq ?_
  refine wp_seq ?_
  refine fx3n (fun _ _ => True) (l := regionOf Tryd.f25 1) true (by kernel_rfl) 4 14 w.heap.size [2, 3, 4] [Xnum _ _ y, Xnum _ _ 1, Xval _ _ (.int .i64 (cmpI (y) (1))), Xval _ _ (.bool ((cmpI (y) (1)) == 0))] (Sx.and (XhI r2_1 (fun h => h) v1 (Xnum _ _ z)) (Sx.and (XhI r3_1 (fun h => h) v2 (Xnum _ _ y)) (Sx.and (XhR r4_1 (fun h => h) zaR (Xrat _ _ 0 0)) (Sx.any _)))) (by kernel_rfl) (by kernel_rfl) (by kernel_rfl) hs1 (And.intro (And.intro n2_1 I2_1) (And.intro (And.intro n3_1 I3_1) (And.intro (And.intro n4_1 I4_1) trivial))) hB1.size ?_ ?_
  · intro i hi a w' hb hiv hk hp
    obtain ⟨⟨n2, i2⟩, ⟨n3, i3⟩, ⟨n4, i4⟩, _⟩ := hiv
    have k3 := (hk 3 (by decide)).trans t3_1
    match i, hi with
    | 0, _ => exact s_load k3 (load_bx n3) i3 gt
    | 1, _ => exact s_callC enter_Of (of_ct 1 w' (by decide) (by decide)) gt
    | 2, _ => exact s_call2 enter_Cmp (cmp_ct _ _ (y) (1) w' (hp 0 rfl) (hp 1 rfl) (le4 hy (by decide)) (le4 (pw_one1) (by decide))) gt
    | 3, _ => exact s_eql (hp 2 rfl) rfl rfl gt
    | _ + 4, h => exact absurd h (by omega)
  intro a2 w2 hb2 hd2 hs2 hk2 hiv2 hsp2
  have hB2 := hB1.trans hb2
  replace hd2 := hd2.trans hd1
  obtain ⟨⟨n2_2, i2_2⟩, ⟨n3_2, i3_2⟩, ⟨n4_2, i4_2⟩, _⟩ := hiv2
  have t2_2 := (hk2 2 (by decide)).trans t2_1
  have t3_2 := (hk2 3 (by decide)).trans t3_1
  have t4_2 := (hk2 4 (by decide)).trans t4_1
  obtain ⟨v8_2, t8_2, I8_2⟩ : ∃ v, a2.tmps[8]? = some v ∧ v = (.bool ((cmpI (y) (1)) == 0)) := tv_get (k := 8) (hsp2 3 (by decide)) (by omega)
  clear hb2 hk2 hsp2
  by_cases hc8 : y = 1
  · skip
    refine wp_cond_true (show Act.eval a2 (.tmp 8) = .bool true by rw [eval_of t8_2, I8_2]; simp [cmp_one, hc8]) ?_
    refine wp_seq ?_
    refine fx3 (fun r => r = r4_1) (fun _ _ => True) (l := regionOf Tryd.f25 2) false (by kernel_rfl) 3 14 w.heap.size [2, 3, 4]
      [Xnum _ _ z, Xrat _ _ z 0, Sx.any _]
      (Sx.and (XhI r2_1 (show ¬ (r2_1 = r4_1) by have := n2_2.lt; omega) v1 (Xnum _ _ z)) (Sx.and (XhI r3_1 (show ¬ (r3_1 = r4_1) by have := n3_2.lt; omega) v2 (Xnum _ _ y)) (Sx.any _))) [(4, none)] [stXR 2 4 (Xrat _ _ z 0) r4_1 zaR (Xrat _ _ 0 0)]
      (by kernel_rfl) (by kernel_rfl) (by kernel_rfl) hs2 (And.intro (And.intro n2_2 i2_2) (And.intro (And.intro n3_2 i3_2) trivial)) hB2.size (fac (fun _ _ => trivial) fan) (show ([2] : List Nat).Nodup by decide) (fac (.inr (And.intro (show (4 : Nat) ∈ ([2, 3, 4] : List Nat) by decide) (And.intro (.head _) (getD_of t4_2)))) fan) (fac (And.intro n4_2 i4_2) fan) (fac (fun _ => ⟨r4_1, getD_of t4_2, n4_2.lt⟩) fan) (dis_one rfl) (fac (fun i hi => by cases hi) fan) ?_ ?_ ?_
    · intro i hi hns a w' hb hiv hk hp hold
      obtain ⟨⟨n2, i2⟩, ⟨n3, i3⟩, _⟩ := hiv
      have k2 := (hk 2 (by decide)).trans t2_2
      match i, hi with
      | 0, _ => exact s_load k2 (load_bx n2) i2 (gf rfl)
      | 1, _ => exact s_bldR0 (hp 0 rfl) (fun _ h => h) (gf rfl)
      | 2, _ => exact absurd rfl (hns _ (.head _))
      | _ + 3, h => exact absurd h (by omega)
    · refine fac ?_ (fan)
      · intro a w' hb hiv hk hp ho hf
        exact sX_R ((hk 4 (by decide)).trans t4_2) ho.1 (hp 1 rfl) (hp 1 rfl) b4_1.1 (by simp) trivial
    intro a3 w3 hb3 hd3 hs3 hk3 hiv3 hsp3 hst3 hds3
    have hB3 := hB2.trans hb3
    replace hd3 := hd3.trans hd2
    obtain ⟨⟨n2_3, i2_3⟩, ⟨n3_3, i3_3⟩, _⟩ := hiv3
    have t2_3 := (hk3 2 (by decide)).trans t2_2
    have t3_3 := (hk3 3 (by decide)).trans t3_2
    have t4_3 := (hk3 4 (by decide)).trans t4_2
    obtain ⟨v4_3, n4_3, I4_3⟩ := txR (hst3 _ (.head _)) t4_3
    clear hb3 hk3 hsp3 hst3 hds3
    refine wp_ret ?_
    repeat first | refine then_ret ?_ | refine inBlock_ret ?_
    refine bodyPost_ret (res_R rfl t4_3 n4_3) hd3 ⟨_, rfl, hB3, ?_⟩
    unfold lowB
    split
    · exact I4_3
    · exact absurd hc8 ‹_›
  · skip
    refine wp_cond_false (show Act.eval a2 (.tmp 8) = .bool false by rw [eval_of t8_2, I8_2]; simp [cmp_one, hc8]) ?_
    refine wp_skip ?_
    change Code.wp _ _ _ _ _
    refine wp_seq ?_
    refine fx3 (fun r => r = r4_1) (fun _ _ => True) (l := regionOf Tryd.f25 3) false (by kernel_rfl) 4 14 w.heap.size [2, 3, 4]
      [Xnum _ _ z, Xnum _ _ y, Xrat _ _ z y, Sx.any _]
      (Sx.and (XhI r2_1 (show ¬ (r2_1 = r4_1) by have := n2_2.lt; omega) v1 (Xnum _ _ z)) (Sx.and (XhI r3_1 (show ¬ (r3_1 = r4_1) by have := n3_2.lt; omega) v2 (Xnum _ _ y)) (Sx.any _))) [(4, none)] [stXR 3 4 (Xrat _ _ z y) r4_1 zaR (Xrat _ _ 0 0)]
      (by kernel_rfl) (by kernel_rfl) (by kernel_rfl) hs2 (And.intro (And.intro n2_2 i2_2) (And.intro (And.intro n3_2 i3_2) trivial)) hB2.size (fac (fun _ _ => trivial) fan) (show ([3] : List Nat).Nodup by decide) (fac (.inr (And.intro (show (4 : Nat) ∈ ([2, 3, 4] : List Nat) by decide) (And.intro (.head _) (getD_of t4_2)))) fan) (fac (And.intro n4_2 i4_2) fan) (fac (fun _ => ⟨r4_1, getD_of t4_2, n4_2.lt⟩) fan) (dis_one rfl) (fac (fun i hi => by cases hi) fan) ?_ ?_ ?_
    · intro i hi hns a w' hb hiv hk hp hold
      obtain ⟨⟨n2, i2⟩, ⟨n3, i3⟩, _⟩ := hiv
      have k2 := (hk 2 (by decide)).trans t2_2
      have k3 := (hk 3 (by decide)).trans t3_2
      match i, hi with
      | 0, _ => exact s_load k2 (load_bx n2) i2 (gf rfl)
      | 1, _ => exact s_load k3 (load_bx n3) i3 (gf rfl)
      | 2, _ => exact s_bldR (hp 0 rfl) (hp 1 rfl) (fun _ h => h) (gf rfl)
      | 3, _ => exact absurd rfl (hns _ (.head _))
      | _ + 4, h => exact absurd h (by omega)
    · refine fac ?_ (fan)
      · intro a w' hb hiv hk hp ho hf
        exact sX_R ((hk 4 (by decide)).trans t4_2) ho.1 (hp 2 rfl) (hp 2 rfl) b4_1.1 (by simp) trivial
    intro a3 w3 hb3 hd3 hs3 hk3 hiv3 hsp3 hst3 hds3
    have hB3 := hB2.trans hb3
    replace hd3 := hd3.trans hd2
    obtain ⟨⟨n2_3, i2_3⟩, ⟨n3_3, i3_3⟩, _⟩ := hiv3
    have t4_3 := (hk3 4 (by decide)).trans t4_2
    obtain ⟨v4_3, n4_3, I4_3⟩ := txR (hst3 _ (.head _)) t4_3
    clear hb3 hk3 hsp3 hst3 hds3
    refine wp_ret ?_
    repeat first | refine then_ret ?_ | refine inBlock_ret ?_
    refine bodyPost_ret (res_R rfl t4_3 n4_3) hd3 ⟨_, rfl, hB3, ?_⟩
    unfold lowB
    split
    · exact absurd ‹_› hc8
    · exact I4_3

set_option maxRecDepth 100000 in
set_option maxHeartbeats 1600000 in
theorem whole_any (v1 : Value) (z : Int) (hz : (z.natAbs : Int) < pw 3000) (w : World) (i0 : IsI w v1 z) :
    Calls Tryd.prog 18 #[v1] w fun e w' => ∃ r, e = .returned r ∧ Below w.heap.size w w' ∧ IsR w' r z 0 := by
  refine calls_act (fn := Tryd.f18) (by kernel_rfl) rfl (N := 6) (by kernel_rfl) (by simp) ?_
  intro a0 hs0 hd0 hx0
  have t0 : a0.tmps[0]? = some v1 := hx0 0 _ rfl
  clear hx0
  have hB0 : Below w.heap.size w w := Below.refl _ _
  refine wp_seq ?_
  refine fxN (fun _ => False) (fun _ _ => True) (l := regionOf Tryd.f18 0) false (by kernel_rfl) 2 6 w.heap.size [0]
    [XoI _ w.heap.size v1 (Xnum _ _ z), XoR _ w.heap.size zaR (Xrat _ _ 0 0)]
    (Sx.and (Sx.at (Xnum _ _ z) v1) (Sx.any _)) [(1, some 0), (2, some 1)] [] (by kernel_rfl) (by kernel_rfl) (by kernel_rfl) hs0 (And.intro i0 trivial) hB0.size List.nodup_nil fan (fac (npI rfl) (fac (npR rfl) fan)) ?_ ?_ ?_
  · intro i hi hns a w' hb hiv hk hp hold
    obtain ⟨i0, _⟩ := hiv
    have k0 := (hk 0 (by decide)).trans t0
    match i, hi with
    | 0, _ => exact sB_I hb.size k0 i0 i0 rfl
    | 1, _ => exact sO_R hb.size isR_zero rfl
    | _ + 2, h => exact absurd h (by omega)
  · exact fan
  intro a1 w1 hb1 hd1 hs1 hk1 hiv1 hsp1 hst1 hds1
  have hB1 := hB0.trans hb1
  replace hd1 := hd1.trans hd0
  obtain ⟨i0_1, _⟩ := hiv1
  obtain ⟨r1_1, t1_1, b1_1, n1_1, I1_1⟩ := toI (k := 1) (hsp1 0 (by decide) fan) hB0.size (by omega)
  obtain ⟨r2_1, t2_1, b2_1, n2_1, I2_1⟩ := toR (k := 2) (hsp1 1 (by decide) fan) hB0.size (by omega)
  have ne1_2_1 : r1_1 ≠ r2_1 := ne_ptr (hds1 (1, some 0) (.head _) (2, some 1) (.tail _ (.head _)) (by decide)) t1_1 t2_1
  clear hb1 hk1 hsp1 hst1 hds1
  refine wp_seq ?_
  refine fx3 (fun r => r = r2_1) (fun _ _ => True) (l := regionOf Tryd.f18 1) false (by kernel_rfl) 4 6 w.heap.size [1, 2]
    [Xnum _ _ z, Xnum _ _ z, Xrat _ _ z 0, Sx.any _]
    (Sx.and (XhI r1_1 (show ¬ (r1_1 = r2_1) by have := n1_1.lt; omega) v1 (Xnum _ _ z)) (Sx.any _)) [(2, none)] [stXR 3 2 (Xrat _ _ z 0) r2_1 zaR (Xrat _ _ 0 0)]
    (by kernel_rfl) (by kernel_rfl) (by kernel_rfl) hs1 (And.intro (And.intro n1_1 I1_1) trivial) hB1.size (fac (fun _ _ => trivial) fan) (show ([3] : List Nat).Nodup by decide) (fac (.inr (And.intro (show (2 : Nat) ∈ ([1, 2] : List Nat) by decide) (And.intro (.head _) (getD_of t2_1)))) fan) (fac (And.intro n2_1 I2_1) fan) (fac (fun _ => ⟨r2_1, getD_of t2_1, n2_1.lt⟩) fan) (dis_one rfl) (fac (fun i hi => by cases hi) fan) ?_ ?_ ?_
  · intro i hi hns a w' hb hiv hk hp hold
    obtain ⟨⟨n1, i1⟩, _⟩ := hiv
    have k1 := (hk 1 (by decide)).trans t1_1
    match i, hi with
    | 0, _ => exact s_load k1 (load_bx n1) i1 (gf rfl)
    | 1, _ => exact s_call1 enter_own (own_any _ (z) (le3n hz (by decide)) w' (hp 0 rfl)) (gf rfl)
    | 2, _ => exact s_bldR0 (hp 1 rfl) (fun _ h => h) (gf rfl)
    | 3, _ => exact absurd rfl (hns _ (.head _))
    | _ + 4, h => exact absurd h (by omega)
  · refine fac ?_ (fan)
    · intro a w' hb hiv hk hp ho hf
      exact sX_R ((hk 2 (by decide)).trans t2_1) ho.1 (hp 2 rfl) (hp 2 rfl) b2_1.1 (by simp) trivial
  intro a2 w2 hb2 hd2 hs2 hk2 hiv2 hsp2 hst2 hds2
  have hB2 := hB1.trans hb2
  replace hd2 := hd2.trans hd1
  obtain ⟨⟨n1_2, i1_2⟩, _⟩ := hiv2
  have t2_2 := (hk2 2 (by decide)).trans t2_1
  obtain ⟨v2_2, n2_2, I2_2⟩ := txR (hst2 _ (.head _)) t2_2
  clear hb2 hk2 hsp2 hst2 hds2
  refine wp_ret ?_
  repeat first | refine then_ret ?_ | refine inBlock_ret ?_
  refine bodyPost_ret (res_R rfl t2_2 n2_2) hd2 ⟨_, rfl, hB2, ?_⟩
  exact I2_2

set_option maxRecDepth 100000 in
set_option maxHeartbeats 1600000 in
theorem isw_any (v1 : Value) (p b : Int) (w : World) (i0 : IsR w v1 p b) :
    Calls Tryd.prog 21 #[v1] w fun e w' => ∃ r, e = .returned r ∧ Below w.heap.size w w' ∧ r = .bool (decide (b = 0)) := by
  refine calls_act (fn := Tryd.f21) (by kernel_rfl) rfl (N := 7) (by kernel_rfl) (by simp) ?_
  intro a0 hs0 hd0 hx0
  have t0 : a0.tmps[0]? = some v1 := hx0 0 _ rfl
  clear hx0
  have hB0 : Below w.heap.size w w := Below.refl _ _
  refine wp_seq ?_
  refine fxN (fun _ => False) (fun _ _ => True) (l := regionOf Tryd.f21 0) false (by kernel_rfl) 2 7 w.heap.size [0]
    [XoR _ w.heap.size v1 (Xrat _ _ p b), Xval _ _ (.bool false)]
    (Sx.and (Sx.at (Xrat _ _ p b) v1) (Sx.any _)) [(1, some 0)] [] (by kernel_rfl) (by kernel_rfl) (by kernel_rfl) hs0 (And.intro i0 trivial) hB0.size List.nodup_nil fan (fac (npR rfl) fan) ?_ ?_ ?_
  · intro i hi hns a w' hb hiv hk hp hold
    obtain ⟨i0, _⟩ := hiv
    have k0 := (hk 0 (by decide)).trans t0
    match i, hi with
    | 0, _ => exact sB_R hb.size k0 i0 i0 rfl
    | 1, _ => exact s_cassign rfl (gf rfl)
    | _ + 2, h => exact absurd h (by omega)
  · exact fan
  intro a1 w1 hb1 hd1 hs1 hk1 hiv1 hsp1 hst1 hds1
  have hB1 := hB0.trans hb1
  replace hd1 := hd1.trans hd0
  obtain ⟨i0_1, _⟩ := hiv1
  obtain ⟨r1_1, t1_1, b1_1, n1_1, I1_1⟩ := toR (k := 1) (hsp1 0 (by decide) fan) hB0.size (by omega)
  obtain ⟨v2_1, t2_1, I2_1⟩ : ∃ v, a1.tmps[2]? = some v ∧ v = (.bool false) := tv_get (k := 2) (hsp1 1 (by decide) fan) (by omega)
  clear hb1 hk1 hsp1 hst1 hds1
  refine wp_seq ?_
  refine fx3n (fun _ _ => True) (l := regionOf Tryd.f21 1) false (by kernel_rfl) 5 7 w.heap.size [1] [Xval _ _ (.pointer (some ⟨r1_1, 2, none⟩)), Xnum _ _ b, Xval _ _ (.int .i64 (sgn (b))), Xval _ _ (.bool ((sgn (b)) == 0)), Xval _ _ (.bool ((sgn (b)) == 0))] (Sx.and (XhR r1_1 (fun h => h) v1 (Xrat _ _ p b)) (Sx.any _)) (by kernel_rfl) (by kernel_rfl) (by kernel_rfl) hs1 (And.intro (And.intro n1_1 I1_1) trivial) hB1.size ?_ ?_
  · intro i hi a w' hb hiv hk hp
    obtain ⟨⟨n1, i1⟩, _⟩ := hiv
    have k1 := (hk 1 (by decide)).trans t1_1
    match i, hi with
    | 0, _ => exact s_field k1 field_R1 rfl gt
    | 1, _ =>
      obtain ⟨u, hr, hu⟩ := ldR1 n1 i1
      exact s_loadP (hp 0 rfl) hr hu gt
    | 2, _ => exact s_call1 enter_Sign (sign_ct _ (b) w' (hp 1 rfl)) gt
    | 3, _ => exact s_eql (hp 2 rfl) rfl rfl gt
    | 4, _ => exact s_assign (hp 3 rfl) gt
    | _ + 5, h => exact absurd h (by omega)
  intro a2 w2 hb2 hd2 hs2 hk2 hiv2 hsp2
  have hB2 := hB1.trans hb2
  replace hd2 := hd2.trans hd1
  obtain ⟨⟨n1_2, i1_2⟩, _⟩ := hiv2
  obtain ⟨v2_2, t2_2, I2_2⟩ : ∃ v, a2.tmps[2]? = some v ∧ v = (.bool ((sgn (b)) == 0)) := tv_get (k := 2) (hsp2 4 (by decide)) (by omega)
  clear hb2 hk2 hsp2
  refine wp_ret ?_
  repeat first | refine then_ret ?_ | refine inBlock_ret ?_
  refine bodyPost_ret (res_t rfl t2_2) hd2 ⟨_, rfl, hB2, ?_⟩
  rw [I2_2, sgn_zero]

set_option maxRecDepth 100000 in
set_option maxHeartbeats 1600000 in
theorem below_any (v1 : Value) (p b : Int) (gb : (b.natAbs : Int) < pw 3000) (w : World) (i0 : IsR w v1 p b) :
    Calls Tryd.prog 12 #[v1] w fun e w' => ∃ r, e = .returned r ∧ Below w.heap.size w w' ∧ IsI w' r (bel b) := by
  refine calls_act (fn := Tryd.f12) (by kernel_rfl) rfl (N := 9) (by kernel_rfl) (by simp) ?_
  intro a0 hs0 hd0 hx0
  have t0 : a0.tmps[0]? = some v1 := hx0 0 _ rfl
  clear hx0
  have hB0 : Below w.heap.size w w := Below.refl _ _
  refine wp_seq ?_
  refine fxN (fun _ => False) (fun _ _ => True) (l := regionOf Tryd.f12 0) false (by kernel_rfl) 2 9 w.heap.size [0]
    [XoR _ w.heap.size v1 (Xrat _ _ p b), XoI _ w.heap.size zaI (Xnum _ _ 0)]
    (Sx.and (Sx.at (Xrat _ _ p b) v1) (Sx.any _)) [(1, some 0), (2, some 1)] [] (by kernel_rfl) (by kernel_rfl) (by kernel_rfl) hs0 (And.intro i0 trivial) hB0.size List.nodup_nil fan (fac (npR rfl) (fac (npI rfl) fan)) ?_ ?_ ?_
  · intro i hi hns a w' hb hiv hk hp hold
    obtain ⟨i0, _⟩ := hiv
    have k0 := (hk 0 (by decide)).trans t0
    match i, hi with
    | 0, _ => exact sB_R hb.size k0 i0 i0 rfl
    | 1, _ => exact sO_I hb.size isI_zero rfl
    | _ + 2, h => exact absurd h (by omega)
  · exact fan
  intro a1 w1 hb1 hd1 hs1 hk1 hiv1 hsp1 hst1 hds1
  have hB1 := hB0.trans hb1
  replace hd1 := hd1.trans hd0
  obtain ⟨i0_1, _⟩ := hiv1
  obtain ⟨r1_1, t1_1, b1_1, n1_1, I1_1⟩ := toR (k := 1) (hsp1 0 (by decide) fan) hB0.size (by omega)
  obtain ⟨r2_1, t2_1, b2_1, n2_1, I2_1⟩ := toI (k := 2) (hsp1 1 (by decide) fan) hB0.size (by omega)
  have ne1_2_1 : r1_1 ≠ r2_1 := ne_ptr (hds1 (1, some 0) (.head _) (2, some 1) (.tail _ (.head _)) (by decide)) t1_1 t2_1
  clear hb1 hk1 hsp1 hst1 hds1
  refine wp_seq ?_
  refine wp_seq ?_
  refine fx3n (fun _ _ => True) (l := regionOf Tryd.f12 1) false (by kernel_rfl) 2 9 w.heap.size [1, 2] [Xrat _ _ p b, Xval _ _ (.bool (decide (b = 0)))] (Sx.and (XhR r1_1 (fun h => h) v1 (Xrat _ _ p b)) (Sx.and (XhI r2_1 (fun h => h) zaI (Xnum _ _ 0)) (Sx.any _))) (by kernel_rfl) (by kernel_rfl) (by kernel_rfl) hs1 (And.intro (And.intro n1_1 I1_1) (And.intro (And.intro n2_1 I2_1) trivial)) hB1.size ?_ ?_
  · intro i hi a w' hb hiv hk hp
    obtain ⟨⟨n1, i1⟩, ⟨n2, i2⟩, _⟩ := hiv
    have k1 := (hk 1 (by decide)).trans t1_1
    match i, hi with
    | 0, _ => exact s_load k1 (load_R n1) i1 gt
    | 1, _ => exact s_call1 enter_isw (isw_any _ (p) (b) w' (hp 0 rfl)) gt
    | _ + 2, h => exact absurd h (by omega)
  intro a2 w2 hb2 hd2 hs2 hk2 hiv2 hsp2
  have hB2 := hB1.trans hb2
  replace hd2 := hd2.trans hd1
  obtain ⟨⟨n1_2, i1_2⟩, ⟨n2_2, i2_2⟩, _⟩ := hiv2
  have t1_2 := (hk2 1 (by decide)).trans t1_1
  have t2_2 := (hk2 2 (by decide)).trans t2_1
  obtain ⟨v4_2, t4_2, I4_2⟩ : ∃ v, a2.tmps[4]? = some v ∧ v = (.bool (decide (b = 0))) := tv_get (k := 4) (hsp2 1 (by decide)) (by omega)
  clear hb2 hk2 hsp2
  by_cases hc4 : b = 0
  · skip
    refine wp_cond_true (show Act.eval a2 (.tmp 4) = .bool true by rw [eval_of t4_2, I4_2]; simp [hc4]) ?_
    refine wp_seq ?_
    refine fx3 (fun r => r = r2_1) (fun _ _ => True) (l := regionOf Tryd.f12 2) false (by kernel_rfl) 2 9 w.heap.size [1, 2]
      [Xnum _ _ 1, Sx.any _]
      (Sx.and (XhR r1_1 (show ¬ (r1_1 = r2_1) by have := n1_2.lt; omega) v1 (Xrat _ _ p b)) (Sx.any _)) [(2, none)] [stXI 1 2 (Xnum _ _ 1) r2_1 zaI (Xnum _ _ 0)]
      (by kernel_rfl) (by kernel_rfl) (by kernel_rfl) hs2 (And.intro (And.intro n1_2 i1_2) trivial) hB2.size (fac (fun _ _ => trivial) fan) (show ([1] : List Nat).Nodup by decide) (fac (.inr (And.intro (show (2 : Nat) ∈ ([1, 2] : List Nat) by decide) (And.intro (.head _) (getD_of t2_2)))) fan) (fac (And.intro n2_2 i2_2) fan) (fac (fun _ => ⟨r2_1, getD_of t2_2, n2_2.lt⟩) fan) (dis_one rfl) (fac (fun i hi => by cases hi) fan) ?_ ?_ ?_
    · intro i hi hns a w' hb hiv hk hp hold
      obtain ⟨⟨n1, i1⟩, _⟩ := hiv
      match i, hi with
      | 0, _ => exact s_callC enter_Of (of_ct 1 w' (by decide) (by decide)) (gf rfl)
      | 1, _ => exact absurd rfl (hns _ (.head _))
      | _ + 2, h => exact absurd h (by omega)
    · refine fac ?_ (fan)
      · intro a w' hb hiv hk hp ho hf
        exact sX_I ((hk 2 (by decide)).trans t2_2) ho.1 (hp 0 rfl) (hp 0 rfl) b2_1.1 (by simp) trivial
    intro a3 w3 hb3 hd3 hs3 hk3 hiv3 hsp3 hst3 hds3
    have hB3 := hB2.trans hb3
    replace hd3 := hd3.trans hd2
    obtain ⟨⟨n1_3, i1_3⟩, _⟩ := hiv3
    have t1_3 := (hk3 1 (by decide)).trans t1_2
    have t2_3 := (hk3 2 (by decide)).trans t2_2
    obtain ⟨v2_3, n2_3, I2_3⟩ := txI (hst3 _ (.head _)) t2_3
    clear hb3 hk3 hsp3 hst3 hds3
    refine wp_ret ?_
    repeat first | refine then_ret ?_ | refine inBlock_ret ?_
    refine bodyPost_ret (res_I rfl t2_3 n2_3) hd3 ⟨_, rfl, hB3, ?_⟩
    unfold bel
    split
    · exact I2_3
    · exact absurd hc4 ‹_›
  · skip
    refine wp_cond_false (show Act.eval a2 (.tmp 4) = .bool false by rw [eval_of t4_2, I4_2]; simp [hc4]) ?_
    refine wp_skip ?_
    change Code.wp _ _ _ _ _
    refine wp_seq ?_
    refine fx3 (fun r => r = r2_1) (fun _ _ => True) (l := regionOf Tryd.f12 3) false (by kernel_rfl) 4 9 w.heap.size [1, 2]
      [Xval _ _ (.pointer (some ⟨r1_1, 2, none⟩)), Xnum _ _ b, Xnum _ _ b, Sx.any _]
      (Sx.and (XhR r1_1 (show ¬ (r1_1 = r2_1) by have := n1_2.lt; omega) v1 (Xrat _ _ p b)) (Sx.any _)) [(2, none)] [stXI 3 2 (Xnum _ _ b) r2_1 zaI (Xnum _ _ 0)]
      (by kernel_rfl) (by kernel_rfl) (by kernel_rfl) hs2 (And.intro (And.intro n1_2 i1_2) trivial) hB2.size (fac (fun _ _ => trivial) fan) (show ([3] : List Nat).Nodup by decide) (fac (.inr (And.intro (show (2 : Nat) ∈ ([1, 2] : List Nat) by decide) (And.intro (.head _) (getD_of t2_2)))) fan) (fac (And.intro n2_2 i2_2) fan) (fac (fun _ => ⟨r2_1, getD_of t2_2, n2_2.lt⟩) fan) (dis_one rfl) (fac (fun i hi => by cases hi) fan) ?_ ?_ ?_
    · intro i hi hns a w' hb hiv hk hp hold
      obtain ⟨⟨n1, i1⟩, _⟩ := hiv
      have k1 := (hk 1 (by decide)).trans t1_2
      match i, hi with
      | 0, _ => exact s_field k1 field_R1 rfl (gf rfl)
      | 1, _ =>
        obtain ⟨u, hr, hu⟩ := ldR1 n1 i1
        exact s_loadP (hp 0 rfl) hr hu (gf rfl)
      | 2, _ => exact s_call1 enter_own (own_any _ (b) (le3n gb (by decide)) w' (hp 1 rfl)) (gf rfl)
      | 3, _ => exact absurd rfl (hns _ (.head _))
      | _ + 4, h => exact absurd h (by omega)
    · refine fac ?_ (fan)
      · intro a w' hb hiv hk hp ho hf
        exact sX_I ((hk 2 (by decide)).trans t2_2) ho.1 (hp 2 rfl) (hp 2 rfl) b2_1.1 (by simp) trivial
    intro a3 w3 hb3 hd3 hs3 hk3 hiv3 hsp3 hst3 hds3
    have hB3 := hB2.trans hb3
    replace hd3 := hd3.trans hd2
    obtain ⟨⟨n1_3, i1_3⟩, _⟩ := hiv3
    have t2_3 := (hk3 2 (by decide)).trans t2_2
    obtain ⟨v2_3, n2_3, I2_3⟩ := txI (hst3 _ (.head _)) t2_3
    clear hb3 hk3 hsp3 hst3 hds3
    refine wp_ret ?_
    repeat first | refine then_ret ?_ | refine inBlock_ret ?_
    refine bodyPost_ret (res_I rfl t2_3 n2_3) hd3 ⟨_, rfl, hB3, ?_⟩
    unfold bel
    split
    · exact absurd ‹_› hc4
    · exact I2_3

set_option maxRecDepth 100000 in
set_option maxHeartbeats 1600000 in
theorem top_any (v1 : Value) (p b : Int) (gp : (p.natAbs : Int) < pw 3000) (w : World) (i0 : IsR w v1 p b) :
    Calls Tryd.prog 13 #[v1] w fun e w' => ∃ r, e = .returned r ∧ Below w.heap.size w w' ∧ IsI w' r p := by
  refine calls_act (fn := Tryd.f13) (by kernel_rfl) rfl (N := 6) (by kernel_rfl) (by simp) ?_
  intro a0 hs0 hd0 hx0
  have t0 : a0.tmps[0]? = some v1 := hx0 0 _ rfl
  clear hx0
  have hB0 : Below w.heap.size w w := Below.refl _ _
  refine wp_seq ?_
  refine fxN (fun _ => False) (fun _ _ => True) (l := regionOf Tryd.f13 0) false (by kernel_rfl) 2 6 w.heap.size [0]
    [XoR _ w.heap.size v1 (Xrat _ _ p b), XoI _ w.heap.size zaI (Xnum _ _ 0)]
    (Sx.and (Sx.at (Xrat _ _ p b) v1) (Sx.any _)) [(1, some 0), (2, some 1)] [] (by kernel_rfl) (by kernel_rfl) (by kernel_rfl) hs0 (And.intro i0 trivial) hB0.size List.nodup_nil fan (fac (npR rfl) (fac (npI rfl) fan)) ?_ ?_ ?_
  · intro i hi hns a w' hb hiv hk hp hold
    obtain ⟨i0, _⟩ := hiv
    have k0 := (hk 0 (by decide)).trans t0
    match i, hi with
    | 0, _ => exact sB_R hb.size k0 i0 i0 rfl
    | 1, _ => exact sO_I hb.size isI_zero rfl
    | _ + 2, h => exact absurd h (by omega)
  · exact fan
  intro a1 w1 hb1 hd1 hs1 hk1 hiv1 hsp1 hst1 hds1
  have hB1 := hB0.trans hb1
  replace hd1 := hd1.trans hd0
  obtain ⟨i0_1, _⟩ := hiv1
  obtain ⟨r1_1, t1_1, b1_1, n1_1, I1_1⟩ := toR (k := 1) (hsp1 0 (by decide) fan) hB0.size (by omega)
  obtain ⟨r2_1, t2_1, b2_1, n2_1, I2_1⟩ := toI (k := 2) (hsp1 1 (by decide) fan) hB0.size (by omega)
  have ne1_2_1 : r1_1 ≠ r2_1 := ne_ptr (hds1 (1, some 0) (.head _) (2, some 1) (.tail _ (.head _)) (by decide)) t1_1 t2_1
  clear hb1 hk1 hsp1 hst1 hds1
  refine wp_seq ?_
  refine fx3 (fun r => r = r2_1) (fun _ _ => True) (l := regionOf Tryd.f13 1) false (by kernel_rfl) 4 6 w.heap.size [1, 2]
    [Xval _ _ (.pointer (some ⟨r1_1, 0, none⟩)), Xnum _ _ p, Xnum _ _ p, Sx.any _]
    (Sx.and (XhR r1_1 (show ¬ (r1_1 = r2_1) by have := n1_1.lt; omega) v1 (Xrat _ _ p b)) (Sx.any _)) [(2, none)] [stXI 3 2 (Xnum _ _ p) r2_1 zaI (Xnum _ _ 0)]
    (by kernel_rfl) (by kernel_rfl) (by kernel_rfl) hs1 (And.intro (And.intro n1_1 I1_1) trivial) hB1.size (fac (fun _ _ => trivial) fan) (show ([3] : List Nat).Nodup by decide) (fac (.inr (And.intro (show (2 : Nat) ∈ ([1, 2] : List Nat) by decide) (And.intro (.head _) (getD_of t2_1)))) fan) (fac (And.intro n2_1 I2_1) fan) (fac (fun _ => ⟨r2_1, getD_of t2_1, n2_1.lt⟩) fan) (dis_one rfl) (fac (fun i hi => by cases hi) fan) ?_ ?_ ?_
  · intro i hi hns a w' hb hiv hk hp hold
    obtain ⟨⟨n1, i1⟩, _⟩ := hiv
    have k1 := (hk 1 (by decide)).trans t1_1
    match i, hi with
    | 0, _ => exact s_field k1 field_R0 rfl (gf rfl)
    | 1, _ =>
      obtain ⟨u, hr, hu⟩ := ldR0 n1 i1
      exact s_loadP (hp 0 rfl) hr hu (gf rfl)
    | 2, _ => exact s_call1 enter_own (own_any _ (p) (le3n gp (by decide)) w' (hp 1 rfl)) (gf rfl)
    | 3, _ => exact absurd rfl (hns _ (.head _))
    | _ + 4, h => exact absurd h (by omega)
  · refine fac ?_ (fan)
    · intro a w' hb hiv hk hp ho hf
      exact sX_I ((hk 2 (by decide)).trans t2_1) ho.1 (hp 2 rfl) (hp 2 rfl) b2_1.1 (by simp) trivial
  intro a2 w2 hb2 hd2 hs2 hk2 hiv2 hsp2 hst2 hds2
  have hB2 := hB1.trans hb2
  replace hd2 := hd2.trans hd1
  obtain ⟨⟨n1_2, i1_2⟩, _⟩ := hiv2
  have t2_2 := (hk2 2 (by decide)).trans t2_1
  obtain ⟨v2_2, n2_2, I2_2⟩ := txI (hst2 _ (.head _)) t2_2
  clear hb2 hk2 hsp2 hst2 hds2
  refine wp_ret ?_
  repeat first | refine then_ret ?_ | refine inBlock_ret ?_
  refine bodyPost_ret (res_I rfl t2_2 n2_2) hd2 ⟨_, rfl, hB2, ?_⟩
  exact I2_2

end Go.Proofs.YtlcfldkmojpkpaaDoor

namespace Go.Proofs.YtlcfldkmojpkpaaDoor
open Go Go.RowKit

set_option maxRecDepth 100000 in
set_option maxHeartbeats 1600000 in
theorem rfloor_raw (v1 : Value) (p b : Int) (gp : (p.natAbs : Int) < pw 300) (gb : (b.natAbs : Int) < pw 300) (w : World) (i0 : IsR w v1 p b) :
    Calls Tryd.prog 20 #[v1] w fun e w' => ∃ r, e = .returned r ∧ Below w.heap.size w w' ∧ IsI w' r (p / bel b) := by
  refine calls_act (fn := Tryd.f20) (by kernel_rfl) rfl (N := 8) (by kernel_rfl) (by simp) ?_
  intro a0 hs0 hd0 hx0
  have t0 : a0.tmps[0]? = some v1 := hx0 0 _ rfl
  clear hx0
  have hB0 : Below w.heap.size w w := Below.refl _ _
  refine wp_seq ?_
  refine fxN (fun _ => False) (fun _ _ => True) (l := regionOf Tryd.f20 0) false (by kernel_rfl) 2 8 w.heap.size [0]
    [XoR _ w.heap.size v1 (Xrat _ _ p b), XoI _ w.heap.size zaI (Xnum _ _ 0)]
    (Sx.and (Sx.at (Xrat _ _ p b) v1) (Sx.any _)) [(1, some 0), (2, some 1)] [] (by kernel_rfl) (by kernel_rfl) (by kernel_rfl) hs0 (And.intro i0 trivial) hB0.size List.nodup_nil fan (fac (npR rfl) (fac (npI rfl) fan)) ?_ ?_ ?_
  · intro i hi hns a w' hb hiv hk hp hold
    obtain ⟨i0, _⟩ := hiv
    have k0 := (hk 0 (by decide)).trans t0
    match i, hi with
    | 0, _ => exact sB_R hb.size k0 i0 i0 rfl
    | 1, _ => exact sO_I hb.size isI_zero rfl
    | _ + 2, h => exact absurd h (by omega)
  · exact fan
  intro a1 w1 hb1 hd1 hs1 hk1 hiv1 hsp1 hst1 hds1
  have hB1 := hB0.trans hb1
  replace hd1 := hd1.trans hd0
  obtain ⟨i0_1, _⟩ := hiv1
  obtain ⟨r1_1, t1_1, b1_1, n1_1, I1_1⟩ := toR (k := 1) (hsp1 0 (by decide) fan) hB0.size (by omega)
  obtain ⟨r2_1, t2_1, b2_1, n2_1, I2_1⟩ := toI (k := 2) (hsp1 1 (by decide) fan) hB0.size (by omega)
  have ne1_2_1 : r1_1 ≠ r2_1 := ne_ptr (hds1 (1, some 0) (.head _) (2, some 1) (.tail _ (.head _)) (by decide)) t1_1 t2_1
  clear hb1 hk1 hsp1 hst1 hds1
  refine wp_seq ?_
  refine fx3 (fun r => r = r2_1) (fun _ _ => True) (l := regionOf Tryd.f20 1) true (by kernel_rfl) 6 8 w.heap.size [1, 2]
    [Xval _ _ (.pointer (some ⟨r1_1, 0, none⟩)), Xnum _ _ p, Xrat _ _ p b, Xnum _ _ (bel (b)), Xnum _ _ (p / (bel (b))), Sx.any _]
    (Sx.and (XhR r1_1 (show ¬ (r1_1 = r2_1) by have := n1_1.lt; omega) v1 (Xrat _ _ p b)) (Sx.any _)) [(2, none)] [stXI 5 2 (Xnum _ _ (p / (bel (b)))) r2_1 zaI (Xnum _ _ 0)]
    (by kernel_rfl) (by kernel_rfl) (by kernel_rfl) hs1 (And.intro (And.intro n1_1 I1_1) trivial) hB1.size (fac (fun _ _ => trivial) fan) (show ([5] : List Nat).Nodup by decide) (fac (.inr (And.intro (show (2 : Nat) ∈ ([1, 2] : List Nat) by decide) (And.intro (.head _) (getD_of t2_1)))) fan) (fac (And.intro n2_1 I2_1) fan) (fac (fun _ => ⟨r2_1, getD_of t2_1, n2_1.lt⟩) fan) (dis_one rfl) (fac (fun i hi => by cases hi) fan) ?_ ?_ ?_
  · intro i hi hns a w' hb hiv hk hp hold
    obtain ⟨⟨n1, i1⟩, _⟩ := hiv
    have k1 := (hk 1 (by decide)).trans t1_1
    match i, hi with
    | 0, _ => exact s_field k1 field_R0 rfl (gf rfl)
    | 1, _ =>
      obtain ⟨u, hr, hu⟩ := ldR0 n1 i1
      exact s_loadP (hp 0 rfl) hr hu (gf rfl)
    | 2, _ => exact s_load k1 (load_R n1) i1 (gf rfl)
    | 3, _ => exact s_call1 enter_bel (below_any _ (p) (b) (le3n gb (by decide)) w' (hp 2 rfl)) (gf rfl)
    | 4, _ => exact s_call2 enter_part (part_any _ _ (p) (bel (b)) (le3n gp (by decide)) (le3n (bel_lt gb) (by decide)) w' (hp 1 rfl) (hp 3 rfl)) (gf rfl)
    | 5, _ => exact absurd rfl (hns _ (.head _))
    | _ + 6, h => exact absurd h (by omega)
  · refine fac ?_ (fan)
    · intro a w' hb hiv hk hp ho hf
      exact sX_I ((hk 2 (by decide)).trans t2_1) ho.1 (hp 4 rfl) (hp 4 rfl) b2_1.1 (by simp) trivial
  intro a2 w2 hb2 hd2 hs2 hk2 hiv2 hsp2 hst2 hds2
  have hB2 := hB1.trans hb2
  replace hd2 := hd2.trans hd1
  obtain ⟨⟨n1_2, i1_2⟩, _⟩ := hiv2
  have t2_2 := (hk2 2 (by decide)).trans t2_1
  obtain ⟨v2_2, n2_2, I2_2⟩ := txI (hst2 _ (.head _)) t2_2
  clear hb2 hk2 hsp2 hst2 hds2
  refine wp_ret ?_
  repeat first | refine then_ret ?_ | refine inBlock_ret ?_
  refine bodyPost_ret (res_I rfl t2_2 n2_2) hd2 ⟨_, rfl, hB2, ?_⟩
  exact I2_2

end Go.Proofs.YtlcfldkmojpkpaaDoor
