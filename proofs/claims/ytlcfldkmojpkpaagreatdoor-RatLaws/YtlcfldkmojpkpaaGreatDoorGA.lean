/- Package rat: sums, products, orders, by program. -/
import Derived.Test.YtlcfldkmojpkpaaGreatDoorFF

/- Package rat: its walks, by program. -/
namespace Go.Proofs.YtlcfldkmojpkpaaGreatDoor
open Go Go.RowKit

theorem enter_Quo : Enters Tryz.prog 72 := ⟨fun xs w => by go_simp⟩
theorem enter_Of : Enters Tryz.prog 31 := ⟨fun xs w => by go_simp⟩
theorem pw_one1 : (((1 : Int).natAbs : Nat) : Int) < pw 1 := by decide
theorem pw_one0 : (((0 : Int).natAbs : Nat) : Int) < pw 1 := by decide
theorem quo_ct (va vb : Value) (za zb : Int) (w : World) (hA : IsI w va za) (hB : IsI w vb zb) (hza : (za.natAbs : Int) < pw 4000) (hzb : (zb.natAbs : Int) < pw 4000) :
    Calls Tryz.prog 72 #[va, vb] w fun e w' => ∃ r, e = .returned r ∧ Below w.heap.size w w' ∧ ∃ x y, r = .tuple #[x, y] ∧ IsI w' x (za / zb) ∧ IsI w' y (za % zb) := by
  refine Calls.mono (quo_any quoLong_any va vb za zb w hA hB hza hzb) ?_
  rintro e w' ⟨r1, r2, rfl, hb, h1, h2⟩
  exact ⟨_, rfl, hb, r1, r2, rfl, h1, h2⟩
theorem sign_ct (v : Value) (z : Int) (w : World) (h : IsI w v z) : Calls Tryz.prog 27 #[v] w fun e w' => ∃ r, e = .returned r ∧ Below w.heap.size w w' ∧ r = .int .i64 (sgn z) :=
  Calls.mono (sign_any v z w h) fun _ _ ⟨h1, h2⟩ => ⟨_, h1, h2, rfl⟩
theorem cmp_ct (va vb : Value) (za zb : Int) (w : World) (hA : IsI w va za) (hB : IsI w vb zb) (hza : (za.natAbs : Int) < pw 4000) (hzb : (zb.natAbs : Int) < pw 4000) :
    Calls Tryz.prog 52 #[va, vb] w fun e w' => ∃ r, e = .returned r ∧ Below w.heap.size w w' ∧ r = .int .i64 (cmpI za zb) :=
  Calls.mono (cmp_any va vb za zb w hA hB hza hzb) fun _ _ ⟨h1, h2⟩ => ⟨_, h1, h2, rfl⟩
theorem of_ct (n : Int) (w : World) (h0 : -9223372036854775808 ≤ n) (h1 : n ≤ 9223372036854775807) : Calls Tryz.prog 31 #[.int .i64 n] w fun e w' => ∃ r, e = .returned r ∧ Below w.heap.size w w' ∧ IsI w' r n :=
  Calls.mono (of_any n w) fun _ _ ⟨e, h2⟩ => ⟨_, e, h2, .inl ⟨rfl, h0, h1⟩⟩

set_option maxRecDepth 100000 in
set_option maxHeartbeats 1600000 in
theorem own_any (v1 : Value) (z : Int) (hz : (z.natAbs : Int) < pw 3000) (w : World) (i0 : IsI w v1 z) :
    Calls Tryz.prog 51 #[v1] w fun e w' => ∃ r, e = .returned r ∧ Below w.heap.size w w' ∧ IsI w' r z := by
  refine calls_act (fn := Tryz.f51) (by kernel_rfl) rfl (N := 6) (by kernel_rfl) (by simp) ?_
  intro a0 hs0 hd0 hx0
  have t0 : a0.tmps[0]? = some v1 := hx0 0 _ rfl
  clear hx0
  have hB0 : Below w.heap.size w w := Below.refl _ _
  refine wp_seq ?_
  refine fxN (fun _ => False) (fun _ _ => True) (l := regionOf Tryz.f51 0) false (by kernel_rfl) 2 6 w.heap.size [0]
    [XoI _ w.heap.size v1 (Xnum _ _ z), XoI _ w.heap.size zaI (Xnum _ _ 0)]
    (Sx.and (Sx.at (Xnum _ _ z) v1) (Sx.any _)) [(1, some 0), (2, some 1)] [] (by kernel_rfl) (by kernel_rfl) (by kernel_rfl) hs0 (And.intro i0 trivial) hB0.size List.nodup_nil fan (fac (npI rfl) (fac (npI rfl) fan)) ?_ ?_ ?_
  · intro i hi hns a w' hb hiv hk hp hold
    obtain ⟨i0, _⟩ := hiv
    have k0 := (hk 0 (by decide)).trans t0
    match i, hi with
    | 0, _ => exact sB_I hb.size k0 i0 i0 rfl
    | 1, _ => exact sO_I hb.size isI_zero rfl
    | _ + 2, h => exact absurd h (by omega)
  · exact fan
  intro a1 w1 hb1 hd1 hs1 hk1 hiv1 hsp1 hst1 hds1
  have hB1 := hB0.trans hb1
  replace hd1 := hd1.trans hd0
  obtain ⟨i0_1, _⟩ := hiv1
  obtain ⟨r1_1, t1_1, b1_1, n1_1, I1_1⟩ := toI (k := 1) (hsp1 0 (by decide) fan) hB0.size (by omega)
  obtain ⟨r2_1, t2_1, b2_1, n2_1, I2_1⟩ := toI (k := 2) (hsp1 1 (by decide) fan) hB0.size (by omega)
  have ne1_2_1 : r1_1 ≠ r2_1 := ne_ptr (hds1 (1, some 0) (.head _) (2, some 1) (.tail _ (.head _)) (by decide)) t1_1 t2_1
  clear hb1 hk1 hsp1 hst1 hds1
  refine wp_seq ?_
  refine fx3 (fun r => r = r2_1) (fun _ _ => True) (l := regionOf Tryz.f51 1) false (by kernel_rfl) 4 6 w.heap.size [1, 2]
    [Xnum _ _ z, Xnum _ _ 0, Xnum _ _ (z + 0), Sx.any _]
    (Sx.and (XhI r1_1 (show ¬ (r1_1 = r2_1) by have := n1_1.lt; omega) v1 (Xnum _ _ z)) (Sx.any _)) [(2, none)] [stXI 3 2 (Xnum _ _ (z + 0)) r2_1 zaI (Xnum _ _ 0)]
    (by kernel_rfl) (by kernel_rfl) (by kernel_rfl) hs1 (And.intro (And.intro n1_1 I1_1) trivial) hB1.size (fac (fun _ _ => trivial) fan) (show ([3] : List Nat).Nodup by decide) (fac (.inr (And.intro (show (2 : Nat) ∈ ([1, 2] : List Nat) by decide) (And.intro (.head _) (getD_of t2_1)))) fan) (fac (And.intro n2_1 I2_1) fan) (fac (fun _ => ⟨r2_1, getD_of t2_1, n2_1.lt⟩) fan) (dis_one rfl) (fac (fun i hi => by cases hi) fan) ?_ ?_ ?_
  · intro i hi hns a w' hb hiv hk hp hold
    obtain ⟨⟨n1, i1⟩, _⟩ := hiv
    have k1 := (hk 1 (by decide)).trans t1_1
    match i, hi with
    | 0, _ => exact s_load k1 (load_bx n1) i1 (gf rfl)
    | 1, _ => exact s_bldI (isI_zero _) (gf rfl)
    | 2, _ => exact s_call2 enter_Add (add_any _ _ (z) (0) w' (hp 0 rfl) (hp 1 rfl) (le4 hz (by decide)) (le4 pw_one0 (by decide))) (gf rfl)
    | 3, _ => exact absurd rfl (hns _ (.head _))
    | _ + 4, h => exact absurd h (by omega)
  · refine fac ?_ (fan)
    · intro a w' hb hiv hk hp ho hf
      exact sX_I ((hk 2 (by decide)).trans t2_1) ho.1 (hp 2 rfl) (hp 2 rfl) b2_1.1 (by simp) trivial
  intro a2 w2 hb2 hd2 hs2 hk2 hiv2 hsp2 hst2 hds2
  have hB2 := hB1.trans hb2
  replace hd2 := hd2.trans hd1
  obtain ⟨⟨n1_2, i1_2⟩, _⟩ := hiv2
  have t2_2 := (hk2 2 (by decide)).trans t2_1
  obtain ⟨v2_2, n2_2, I2_2⟩ := txI (hst2 _ (.head _)) t2_2
  clear hb2 hk2 hsp2 hst2 hds2
  refine wp_ret ?_
  repeat first | refine then_ret ?_ | refine inBlock_ret ?_
  refine bodyPost_ret (res_I rfl t2_2 n2_2) hd2 ⟨_, rfl, hB2, ?_⟩
  have := I2_2
  rwa [Int.add_zero] at this

theorem le3n {z : Int} {k : Nat} (h : (z.natAbs : Int) < pw k) (hk : k ≤ 3000) : (z.natAbs : Int) < pw 3000 := Int.lt_of_lt_of_le h (pw_mono hk)
theorem le1n {z : Int} {k : Nat} (h : (z.natAbs : Int) < pw k) (hk : k ≤ 700) : (z.natAbs : Int) < pw 700 := Int.lt_of_lt_of_le h (pw_mono hk)
theorem enter_own : Enters Tryz.prog 51 := ⟨fun xs w => by go_simp⟩
theorem enter_part : Enters Tryz.prog 49 := ⟨fun xs w => by go_simp⟩
theorem enter_low : Enters Tryz.prog 36 := ⟨fun xs w => by go_simp⟩
theorem enter_isw : Enters Tryz.prog 24 := ⟨fun xs w => by go_simp⟩
theorem enter_bel : Enters Tryz.prog 25 := ⟨fun xs w => by go_simp⟩
theorem enter_top : Enters Tryz.prog 26 := ⟨fun xs w => by go_simp⟩
theorem enter_level : Enters Tryz.prog 43 := ⟨fun xs w => by go_simp⟩
/-- What is laid for a below; what a below is that is laid. -/
def lowB (b : Int) : Int := if b = 1 then 0 else b
def bel (b : Int) : Int := if b = 0 then 1 else b
theorem lowB_lt {b : Int} {k : Nat} (h : (b.natAbs : Int) < pw k) : ((lowB b).natAbs : Int) < pw k := by
  unfold lowB
  split
  · exact pw_pos k
  · exact h
theorem bel_lt {b : Int} {k : Nat} (h : (b.natAbs : Int) < pw k) : ((bel b).natAbs : Int) < pw (k + 1) := by
  have h1 : pw (k + 1) = 1000000000 * pw k := rfl
  have := pw_pos k
  unfold bel
  split
  · simp; omega
  · omega
theorem cmp_one (b : Int) : (cmpI b 1 == 0) = decide (b = 1) := by
  unfold cmpI
  by_cases h : b = 1
  · simp [h]
  · by_cases h2 : b < 1
    · simp [h, h2]
    · have : 1 < b := by omega
      simp [h, h2, this]
theorem sgn_zero (b : Int) : (sgn b == 0) = decide (b = 0) := by
  unfold sgn
  by_cases h : b = 0
  · simp [h]
  · by_cases h2 : b < 0
    · simp [h, h2]
    · have : 0 < b := by omega
      simp [h, h2, this]
def lvG (a b : Int) : Int := (Int.gcd (bel a) (bel b) : Int)
def lvL (p a b : Int) : Int := p * (bel b / lvG a b)
def lvR (q a b : Int) : Int := q * (bel a / lvG a b)
def lvS (a b : Int) : Int := (bel b / lvG a b) * (bel a / lvG a b)
theorem lvG_lt {a b : Int} {j k : Nat} (h : (a.natAbs : Int) < pw j) (h' : (b.natAbs : Int) < pw k) : ((lvG a b).natAbs : Int) < pw (max (j + 1) (k + 1)) := gcd_lt2 (bel_lt h) (bel_lt h')
theorem lvL_lt {p a b : Int} {i k : Nat} (h : (p.natAbs : Int) < pw i) (h' : (b.natAbs : Int) < pw k) : ((lvL p a b).natAbs : Int) < pw (i + (k + 1)) := mul_lt h (ediv_lt (bel_lt h'))
theorem lvR_lt {p a b : Int} {i k : Nat} (h : (p.natAbs : Int) < pw i) (h' : (a.natAbs : Int) < pw k) : ((lvR p a b).natAbs : Int) < pw (i + (k + 1)) := mul_lt h (ediv_lt (bel_lt h'))
theorem lvS_lt {a b : Int} {j k : Nat} (h : (a.natAbs : Int) < pw j) (h' : (b.natAbs : Int) < pw k) : ((lvS a b).natAbs : Int) < pw ((k + 1) + (j + 1)) := mul_lt (ediv_lt (bel_lt h')) (ediv_lt (bel_lt h))

set_option maxRecDepth 100000 in
set_option maxHeartbeats 1600000 in
theorem part_any (v1 v2 : Value) (z y : Int) (hz : (z.natAbs : Int) < pw 3000) (hy : (y.natAbs : Int) < pw 3000) (w : World) (i0 : IsI w v1 z) (i1 : IsI w v2 y) :
    Calls Tryz.prog 49 #[v1, v2] w fun e w' => ∃ r, e = .returned r ∧ Below w.heap.size w w' ∧ IsI w' r (z / y) := by
  refine calls_act (fn := Tryz.f49) (by kernel_rfl) rfl (N := 14) (by kernel_rfl) (by simp) ?_
  intro a0 hs0 hd0 hx0
  have t0 : a0.tmps[0]? = some v1 := hx0 0 _ rfl
  have t1 : a0.tmps[1]? = some v2 := hx0 1 _ rfl
  clear hx0
  have hB0 : Below w.heap.size w w := Below.refl _ _
  refine wp_seq ?_
  refine fxN (fun _ => False) (fun _ _ => True) (l := regionOf Tryz.f49 0) false (by kernel_rfl) 3 14 w.heap.size [0, 1]
    [XoI _ w.heap.size v1 (Xnum _ _ z), XoI _ w.heap.size v2 (Xnum _ _ y), XoI _ w.heap.size zaI (Xnum _ _ 0)]
    (Sx.and (Sx.at (Xnum _ _ z) v1) (Sx.and (Sx.at (Xnum _ _ y) v2) (Sx.any _))) [(2, some 0), (3, some 1), (4, some 2)] [] (by kernel_rfl) (by kernel_rfl) (by kernel_rfl) hs0 (And.intro i0 (And.intro i1 trivial)) hB0.size List.nodup_nil fan (fac (npI rfl) (fac (npI rfl) (fac (npI rfl) fan))) ?_ ?_ ?_
  · intro i hi hns a w' hb hiv hk hp hold
    obtain ⟨i0, i1, _⟩ := hiv
    have k0 := (hk 0 (by decide)).trans t0
    have k1 := (hk 1 (by decide)).trans t1
    match i, hi with
    | 0, _ => exact sB_I hb.size k0 i0 i0 rfl
    | 1, _ => exact sB_I hb.size k1 i1 i1 rfl
    | 2, _ => exact sO_I hb.size isI_zero rfl
    | _ + 3, h => exact absurd h (by omega)
  · exact fan
  intro a1 w1 hb1 hd1 hs1 hk1 hiv1 hsp1 hst1 hds1
  have hB1 := hB0.trans hb1
  replace hd1 := hd1.trans hd0
  obtain ⟨i0_1, i1_1, _⟩ := hiv1
  obtain ⟨r2_1, t2_1, b2_1, n2_1, I2_1⟩ := toI (k := 2) (hsp1 0 (by decide) fan) hB0.size (by omega)
  obtain ⟨r3_1, t3_1, b3_1, n3_1, I3_1⟩ := toI (k := 3) (hsp1 1 (by decide) fan) hB0.size (by omega)
  obtain ⟨r4_1, t4_1, b4_1, n4_1, I4_1⟩ := toI (k := 4) (hsp1 2 (by decide) fan) hB0.size (by omega)
  have ne2_4_1 : r2_1 ≠ r4_1 := ne_ptr (hds1 (2, some 0) (.head _) (4, some 2) (.tail _ (.tail _ (.head _))) (by decide)) t2_1 t4_1
  have ne3_4_1 : r3_1 ≠ r4_1 := ne_ptr (hds1 (3, some 1) (.tail _ (.head _)) (4, some 2) (.tail _ (.tail _ (.head _))) (by decide)) t3_1 t4_1
  clear hb1 hk1 hsp1 hst1 hds1
  refine wp_seq ?_
  refine fxN (fun r => w1.heap.size ≤ r) (fun _ _ => True) (l := regionOf Tryz.f49 1) false (by kernel_rfl) 10 14 w.heap.size [2, 3, 4]
    [Xnum _ _ z, Xnum _ _ y, Xtup (Xnum _ _ (z / y)) (Xnum _ _ (z % y)), Xtup (Xnum _ _ (z / y)) (Xnum _ _ (z % y)), Xnum _ _ (z / y), Xnum _ _ (z % y), Sx.box _ w1.heap.size 26, Sx.box _ w1.heap.size 26, Sx.any _, Sx.any _]
    (Sx.and (XhI r2_1 (Nat.not_le_of_lt n2_1.lt) v1 (Xnum _ _ z)) (Sx.and (XhI r3_1 (Nat.not_le_of_lt n3_1.lt) v2 (Xnum _ _ y)) (Sx.and (XhI r4_1 (Nat.not_le_of_lt n4_1.lt) zaI (Xnum _ _ 0)) (Sx.any _)))) [(5, some 6), (6, some 7)] [stNI 8 5 (Xnum _ _ (z / y)), stNI 9 6 (Xnum _ _ (z % y))] (by kernel_rfl) (by kernel_rfl) (by kernel_rfl) hs1 (And.intro (And.intro n2_1 I2_1) (And.intro (And.intro n3_1 I3_1) (And.intro (And.intro n4_1 I4_1) trivial))) hB1.size (show ([8, 9] : List Nat).Nodup by decide) (fac nst (fac nst fan)) (fac (nby rfl) (fac (nby rfl) fan)) ?_ ?_ ?_
  · intro i hi hns a w' hb hiv hk hp hold
    obtain ⟨⟨n2, i2⟩, ⟨n3, i3⟩, ⟨n4, i4⟩, _⟩ := hiv
    have k2 := (hk 2 (by decide)).trans t2_1
    have k3 := (hk 3 (by decide)).trans t3_1
    match i, hi with
    | 0, _ => exact s_load k2 (load_bx n2) i2 (gf rfl)
    | 1, _ => exact s_load k3 (load_bx n3) i3 (gf rfl)
    | 2, _ => exact s_call2 enter_Quo (quo_ct _ _ (z) (y) w' (hp 0 rfl) (hp 1 rfl) (le4 hz (by decide)) (le4 hy (by decide))) (gf rfl)
    | 3, _ => exact s_move (hp 2 rfl) (gf rfl)
    | 4, _ => exact s_ext0 (hp 3 rfl) (gf rfl)
    | 5, _ => exact s_ext1 (hp 3 rfl) (gf rfl)
    | 6, _ => exact sA_I hb.size hb.size (fac (zI w') (fac (zI w') fan))
    | 7, _ => exact sA_I hb.size hb.size (fac (zI w') (fac (zI w') fan))
    | 8, _ => exact absurd rfl (hns _ (.head _))
    | 9, _ => exact absurd rfl (hns _ (.tail _ (.head _)))
    | _ + 10, h => exact absurd h (by omega)
  · refine fac ?_ (fac ?_ (fan))
    · intro a w' hb hiv hk hp ho hf
      exact sN_I (hp 6 rfl) (hp 4 rfl) (hp 4 rfl) hB1.size (hf 6 (.head _)) (fun _ _ => trivial)
    · intro a w' hb hiv hk hp ho hf
      exact sN_I (hp 7 rfl) (hp 5 rfl) (hp 5 rfl) hB1.size (hf 7 (.tail _ (.head _))) (fun _ _ => trivial)
  intro a2 w2 hb2 hd2 hs2 hk2 hiv2 hsp2 hst2 hds2
  have hB2 := hB1.trans hb2
  replace hd2 := hd2.trans hd1
  obtain ⟨⟨n2_2, i2_2⟩, ⟨n3_2, i3_2⟩, ⟨n4_2, i4_2⟩, _⟩ := hiv2
  have t4_2 := (hk2 4 (by decide)).trans t4_1
  obtain ⟨r5_2, v5_2, t5_2, b5_2, n5_2, I5_2⟩ := tnI (k := 5) (hst2 _ (.head _)) (hsp2 6 (by decide) (fac (nq rfl) (fac (nq rfl) fan))) hB1.size (by omega)
  have ne4_5_2 : r4_1 ≠ r5_2 := by have := n4_1.lt; have := b5_2.2; omega
  clear hb2 hk2 hsp2 hst2 hds2
  refine wp_seq ?_
  refine fx3 (fun r => r = r4_1) (fun _ _ => True) (l := regionOf Tryz.f49 2) false (by kernel_rfl) 2 14 w.heap.size [4, 5]
    [Xnum _ _ (z / y), Sx.any _]
    (Sx.and (XhI r5_2 (show ¬ (r5_2 = r4_1) by have := n5_2.lt; omega) v5_2 (Xnum _ _ (z / y))) (Sx.any _)) [(4, none)] [stXI 1 4 (Xnum _ _ (z / y)) r4_1 zaI (Xnum _ _ 0)]
    (by kernel_rfl) (by kernel_rfl) (by kernel_rfl) hs2 (And.intro (And.intro n5_2 I5_2) trivial) hB2.size (fac (fun _ _ => trivial) fan) (show ([1] : List Nat).Nodup by decide) (fac (.inr (And.intro (show (4 : Nat) ∈ ([4, 5] : List Nat) by decide) (And.intro (.head _) (getD_of t4_2)))) fan) (fac (And.intro n4_2 i4_2) fan) (fac (fun _ => ⟨r4_1, getD_of t4_2, n4_2.lt⟩) fan) (dis_one rfl) (fac (fun i hi => by cases hi) fan) ?_ ?_ ?_
  · intro i hi hns a w' hb hiv hk hp hold
    obtain ⟨⟨n5, i5⟩, _⟩ := hiv
    have k5 := (hk 5 (by decide)).trans t5_2
    match i, hi with
    | 0, _ => exact s_load k5 (load_bx n5) i5 (gf rfl)
    | 1, _ => exact absurd rfl (hns _ (.head _))
    | _ + 2, h => exact absurd h (by omega)
  · refine fac ?_ (fan)
    · intro a w' hb hiv hk hp ho hf
      exact sX_I ((hk 4 (by decide)).trans t4_2) ho.1 (hp 0 rfl) (hp 0 rfl) b4_1.1 (by simp) trivial
  intro a3 w3 hb3 hd3 hs3 hk3 hiv3 hsp3 hst3 hds3
  have hB3 := hB2.trans hb3
  replace hd3 := hd3.trans hd2
  obtain ⟨⟨n5_3, i5_3⟩, _⟩ := hiv3
  have t4_3 := (hk3 4 (by decide)).trans t4_2
  obtain ⟨v4_3, n4_3, I4_3⟩ := txI (hst3 _ (.head _)) t4_3
  clear hb3 hk3 hsp3 hst3 hds3
  refine wp_ret ?_
  repeat first | refine then_ret ?_ | refine inBlock_ret ?_
  refine bodyPost_ret (res_I rfl t4_3 n4_3) hd3 ⟨_, rfl, hB3, ?_⟩
  exact I4_3

set_option maxRecDepth 100000 in
set_option maxHeartbeats 1600000 in
theorem low_any (v1 v2 : Value) (z y : Int) (_hz : (z.natAbs : Int) < pw 3000) (hy : (y.natAbs : Int) < pw 3000) (w : World) (i0 : IsI w v1 z) (i1 : IsI w v2 y) :
    Calls Tryz.prog 36 #[v1, v2] w fun e w' => ∃ r, e = .returned r ∧ Below w.heap.size w w' ∧ IsR w' r z (lowB y) := by
  refine calls_act (fn := Tryz.f36) (by kernel_rfl) rfl (N := 14) (by kernel_rfl) (by simp) ?_
  intro a0 hs0 hd0 hx0
  have t0 : a0.tmps[0]? = some v1 := hx0 0 _ rfl
  have t1 : a0.tmps[1]? = some v2 := hx0 1 _ rfl
  clear hx0
  have hB0 : Below w.heap.size w w := Below.refl _ _
  refine wp_seq ?_
  refine fxN (fun _ => False) (fun _ _ => True) (l := regionOf Tryz.f36 0) false (by kernel_rfl) 3 14 w.heap.size [0, 1]
    [XoI _ w.heap.size v1 (Xnum _ _ z), XoI _ w.heap.size v2 (Xnum _ _ y), XoR _ w.heap.size zaR (Xrat _ _ 0 0)]
    (Sx.and (Sx.at (Xnum _ _ z) v1) (Sx.and (Sx.at (Xnum _ _ y) v2) (Sx.any _))) [(2, some 0), (3, some 1), (4, some 2)] [] (by kernel_rfl) (by kernel_rfl) (by kernel_rfl) hs0 (And.intro i0 (And.intro i1 trivial)) hB0.size List.nodup_nil fan (fac (npI rfl) (fac (npI rfl) (fac (npR rfl) fan))) ?_ ?_ ?_
  · intro i hi hns a w' hb hiv hk hp hold
    obtain ⟨i0, i1, _⟩ := hiv
    have k0 := (hk 0 (by decide)).trans t0
    have k1 := (hk 1 (by decide)).trans t1
    match i, hi with
    | 0, _ => exact sB_I hb.size k0 i0 i0 rfl
    | 1, _ => exact sB_I hb.size k1 i1 i1 rfl
    | 2, _ => exact sO_R hb.size isR_zero rfl
    | _ + 3, h => exact absurd h (by omega)
  · exact fan
  intro a1 w1 hb1 hd1 hs1 hk1 hiv1 hsp1 hst1 hds1
  have hB1 := hB0.trans hb1
  replace hd1 := hd1.trans hd0
  obtain ⟨i0_1, i1_1, _⟩ := hiv1
  obtain ⟨r2_1, t2_1, b2_1, n2_1, I2_1⟩ := toI (k := 2) (hsp1 0 (by decide) fan) hB0.size (by omega)
  obtain ⟨r3_1, t3_1, b3_1, n3_1, I3_1⟩ := toI (k := 3) (hsp1 1 (by decide) fan) hB0.size (by omega)
  obtain ⟨r4_1, t4_1, b4_1, n4_1, I4_1⟩ := toR (k := 4) (hsp1 2 (by decide) fan) hB0.size (by omega)
  have ne2_4_1 : r2_1 ≠ r4_1 := ne_ptr (hds1 (2, some 0) (.head _) (4, some 2) (.tail _ (.tail _ (.head _))) (by decide)) t2_1 t4_1
  have ne3_4_1 : r3_1 ≠ r4_1 := ne_ptr (hds1 (3, some 1) (.tail _ (.head _)) (4, some 2) (.tail _ (.tail _ (.head _))) (by decide)) t3_1 t4_1
  clear hb1 hk1 hsp1 hst1 hds1
  refine wp_seq ?_
  refine wp_seq ?_
  refine fx3n (fun _ _ => True) (l := regionOf Tryz.f36 1) true (by kernel_rfl) 4 14 w.heap.size [2, 3, 4] [Xnum _ _ y, Xnum _ _ 1, Xval _ _ (.int .i64 (cmpI (y) (1))), Xval _ _ (.bool ((cmpI (y) (1)) == 0))] (Sx.and (XhI r2_1 (fun h => h) v1 (Xnum _ _ z)) (Sx.and (XhI r3_1 (fun h => h) v2 (Xnum _ _ y)) (Sx.and (XhR r4_1 (fun h => h) zaR (Xrat _ _ 0 0)) (Sx.any _)))) (by kernel_rfl) (by kernel_rfl) (by kernel_rfl) hs1 (And.intro (And.intro n2_1 I2_1) (And.intro (And.intro n3_1 I3_1) (And.intro (And.intro n4_1 I4_1) trivial))) hB1.size ?_ ?_
  · intro i hi a w' hb hiv hk hp
    obtain ⟨⟨n2, i2⟩, ⟨n3, i3⟩, ⟨n4, i4⟩, _⟩ := hiv
    have k3 := (hk 3 (by decide)).trans t3_1
    match i, hi with
    | 0, _ => exact s_load k3 (load_bx n3) i3 gt
    | 1, _ => exact s_callC enter_Of (of_ct 1 w' (by decide) (by decide)) gt
    | 2, _ => exact s_call2 enter_Cmp (cmp_ct _ _ (y) (1) w' (hp 0 rfl) (hp 1 rfl) (le4 hy (by decide)) (le4 (pw_one1) (by decide))) gt
    | 3, _ => exact s_eql (hp 2 rfl) rfl rfl gt
    | _ + 4, h => exact absurd h (by omega)
  intro a2 w2 hb2 hd2 hs2 hk2 hiv2 hsp2
  have hB2 := hB1.trans hb2
  replace hd2 := hd2.trans hd1
  obtain ⟨⟨n2_2, i2_2⟩, ⟨n3_2, i3_2⟩, ⟨n4_2, i4_2⟩, _⟩ := hiv2
  have t2_2 := (hk2 2 (by decide)).trans t2_1
  have t3_2 := (hk2 3 (by decide)).trans t3_1
  have t4_2 := (hk2 4 (by decide)).trans t4_1
  obtain ⟨v8_2, t8_2, I8_2⟩ : ∃ v, a2.tmps[8]? = some v ∧ v = (.bool ((cmpI (y) (1)) == 0)) := tv_get (k := 8) (hsp2 3 (by decide)) (by omega)
  clear hb2 hk2 hsp2
  by_cases hc8 : y = 1
  · skip
    refine wp_cond_true (show Act.eval a2 (.tmp 8) = .bool true by rw [eval_of t8_2, I8_2]; simp [cmp_one, hc8]) ?_
    refine wp_seq ?_
    refine fx3 (fun r => r = r4_1) (fun _ _ => True) (l := regionOf Tryz.f36 2) false (by kernel_rfl) 3 14 w.heap.size [2, 3, 4]
      [Xnum _ _ z, Xrat _ _ z 0, Sx.any _]
      (Sx.and (XhI r2_1 (show ¬ (r2_1 = r4_1) by have := n2_2.lt; omega) v1 (Xnum _ _ z)) (Sx.and (XhI r3_1 (show ¬ (r3_1 = r4_1) by have := n3_2.lt; omega) v2 (Xnum _ _ y)) (Sx.any _))) [(4, none)] [stXR 2 4 (Xrat _ _ z 0) r4_1 zaR (Xrat _ _ 0 0)]
      (by kernel_rfl) (by kernel_rfl) (by kernel_rfl) hs2 (And.intro (And.intro n2_2 i2_2) (And.intro (And.intro n3_2 i3_2) trivial)) hB2.size (fac (fun _ _ => trivial) fan) (show ([2] : List Nat).Nodup by decide) (fac (.inr (And.intro (show (4 : Nat) ∈ ([2, 3, 4] : List Nat) by decide) (And.intro (.head _) (getD_of t4_2)))) fan) (fac (And.intro n4_2 i4_2) fan) (fac (fun _ => ⟨r4_1, getD_of t4_2, n4_2.lt⟩) fan) (dis_one rfl) (fac (fun i hi => by cases hi) fan) ?_ ?_ ?_
    · intro i hi hns a w' hb hiv hk hp hold
      obtain ⟨⟨n2, i2⟩, ⟨n3, i3⟩, _⟩ := hiv
      have k2 := (hk 2 (by decide)).trans t2_2
      match i, hi with
      | 0, _ => exact s_load k2 (load_bx n2) i2 (gf rfl)
      | 1, _ => exact s_bldR0 (hp 0 rfl) (fun _ h => h) (gf rfl)
      | 2, _ => exact absurd rfl (hns _ (.head _))
      | _ + 3, h => exact absurd h (by omega)
    · refine fac ?_ (fan)
      · intro a w' hb hiv hk hp ho hf
        exact sX_R ((hk 4 (by decide)).trans t4_2) ho.1 (hp 1 rfl) (hp 1 rfl) b4_1.1 (by simp) trivial
    intro a3 w3 hb3 hd3 hs3 hk3 hiv3 hsp3 hst3 hds3
    have hB3 := hB2.trans hb3
    replace hd3 := hd3.trans hd2
    obtain ⟨⟨n2_3, i2_3⟩, ⟨n3_3, i3_3⟩, _⟩ := hiv3
    have t2_3 := (hk3 2 (by decide)).trans t2_2
    have t3_3 := (hk3 3 (by decide)).trans t3_2
    have t4_3 := (hk3 4 (by decide)).trans t4_2
    obtain ⟨v4_3, n4_3, I4_3⟩ := txR (hst3 _ (.head _)) t4_3
    clear hb3 hk3 hsp3 hst3 hds3
    refine wp_ret ?_
    repeat first | refine then_ret ?_ | refine inBlock_ret ?_
    refine bodyPost_ret (res_R rfl t4_3 n4_3) hd3 ⟨_, rfl, hB3, ?_⟩
    unfold lowB
    split
    · exact I4_3
    · exact absurd hc8 ‹_›
  · skip
    refine wp_cond_false (show Act.eval a2 (.tmp 8) = .bool false by rw [eval_of t8_2, I8_2]; simp [cmp_one, hc8]) ?_
    refine wp_skip ?_
    change Code.wp _ _ _ _ _
    refine wp_seq ?_
    refine fx3 (fun r => r = r4_1) (fun _ _ => True) (l := regionOf Tryz.f36 3) false (by kernel_rfl) 4 14 w.heap.size [2, 3, 4]
      [Xnum _ _ z, Xnum _ _ y, Xrat _ _ z y, Sx.any _]
      (Sx.and (XhI r2_1 (show ¬ (r2_1 = r4_1) by have := n2_2.lt; omega) v1 (Xnum _ _ z)) (Sx.and (XhI r3_1 (show ¬ (r3_1 = r4_1) by have := n3_2.lt; omega) v2 (Xnum _ _ y)) (Sx.any _))) [(4, none)] [stXR 3 4 (Xrat _ _ z y) r4_1 zaR (Xrat _ _ 0 0)]
      (by kernel_rfl) (by kernel_rfl) (by kernel_rfl) hs2 (And.intro (And.intro n2_2 i2_2) (And.intro (And.intro n3_2 i3_2) trivial)) hB2.size (fac (fun _ _ => trivial) fan) (show ([3] : List Nat).Nodup by decide) (fac (.inr (And.intro (show (4 : Nat) ∈ ([2, 3, 4] : List Nat) by decide) (And.intro (.head _) (getD_of t4_2)))) fan) (fac (And.intro n4_2 i4_2) fan) (fac (fun _ => ⟨r4_1, getD_of t4_2, n4_2.lt⟩) fan) (dis_one rfl) (fac (fun i hi => by cases hi) fan) ?_ ?_ ?_
    · intro i hi hns a w' hb hiv hk hp hold
      obtain ⟨⟨n2, i2⟩, ⟨n3, i3⟩, _⟩ := hiv
      have k2 := (hk 2 (by decide)).trans t2_2
      have k3 := (hk 3 (by decide)).trans t3_2
      match i, hi with
      | 0, _ => exact s_load k2 (load_bx n2) i2 (gf rfl)
      | 1, _ => exact s_load k3 (load_bx n3) i3 (gf rfl)
      | 2, _ => exact s_bldR (hp 0 rfl) (hp 1 rfl) (fun _ h => h) (gf rfl)
      | 3, _ => exact absurd rfl (hns _ (.head _))
      | _ + 4, h => exact absurd h (by omega)
    · refine fac ?_ (fan)
      · intro a w' hb hiv hk hp ho hf
        exact sX_R ((hk 4 (by decide)).trans t4_2) ho.1 (hp 2 rfl) (hp 2 rfl) b4_1.1 (by simp) trivial
    intro a3 w3 hb3 hd3 hs3 hk3 hiv3 hsp3 hst3 hds3
    have hB3 := hB2.trans hb3
    replace hd3 := hd3.trans hd2
    obtain ⟨⟨n2_3, i2_3⟩, ⟨n3_3, i3_3⟩, _⟩ := hiv3
    have t4_3 := (hk3 4 (by decide)).trans t4_2
    obtain ⟨v4_3, n4_3, I4_3⟩ := txR (hst3 _ (.head _)) t4_3
    clear hb3 hk3 hsp3 hst3 hds3
    refine wp_ret ?_
    repeat first | refine then_ret ?_ | refine inBlock_ret ?_
    refine bodyPost_ret (res_R rfl t4_3 n4_3) hd3 ⟨_, rfl, hB3, ?_⟩
    unfold lowB
    split
    · exact absurd ‹_› hc8
    · exact I4_3

set_option maxRecDepth 100000 in
set_option maxHeartbeats 1600000 in
theorem whole_any (v1 : Value) (z : Int) (hz : (z.natAbs : Int) < pw 3000) (w : World) (i0 : IsI w v1 z) :
    Calls Tryz.prog 29 #[v1] w fun e w' => ∃ r, e = .returned r ∧ Below w.heap.size w w' ∧ IsR w' r z 0 := by
  refine calls_act (fn := Tryz.f29) (by kernel_rfl) rfl (N := 6) (by kernel_rfl) (by simp) ?_
  intro a0 hs0 hd0 hx0
  have t0 : a0.tmps[0]? = some v1 := hx0 0 _ rfl
  clear hx0
  have hB0 : Below w.heap.size w w := Below.refl _ _
  refine wp_seq ?_
  refine fxN (fun _ => False) (fun _ _ => True) (l := regionOf Tryz.f29 0) false (by kernel_rfl) 2 6 w.heap.size [0]
    [XoI _ w.heap.size v1 (Xnum _ _ z), XoR _ w.heap.size zaR (Xrat _ _ 0 0)]
    (Sx.and (Sx.at (Xnum _ _ z) v1) (Sx.any _)) [(1, some 0), (2, some 1)] [] (by kernel_rfl) (by kernel_rfl) (by kernel_rfl) hs0 (And.intro i0 trivial) hB0.size List.nodup_nil fan (fac (npI rfl) (fac (npR rfl) fan)) ?_ ?_ ?_
  · intro i hi hns a w' hb hiv hk hp hold
    obtain ⟨i0, _⟩ := hiv
    have k0 := (hk 0 (by decide)).trans t0
    match i, hi with
    | 0, _ => exact sB_I hb.size k0 i0 i0 rfl
    | 1, _ => exact sO_R hb.size isR_zero rfl
    | _ + 2, h => exact absurd h (by omega)
  · exact fan
  intro a1 w1 hb1 hd1 hs1 hk1 hiv1 hsp1 hst1 hds1
  have hB1 := hB0.trans hb1
  replace hd1 := hd1.trans hd0
  obtain ⟨i0_1, _⟩ := hiv1
  obtain ⟨r1_1, t1_1, b1_1, n1_1, I1_1⟩ := toI (k := 1) (hsp1 0 (by decide) fan) hB0.size (by omega)
  obtain ⟨r2_1, t2_1, b2_1, n2_1, I2_1⟩ := toR (k := 2) (hsp1 1 (by decide) fan) hB0.size (by omega)
  have ne1_2_1 : r1_1 ≠ r2_1 := ne_ptr (hds1 (1, some 0) (.head _) (2, some 1) (.tail _ (.head _)) (by decide)) t1_1 t2_1
  clear hb1 hk1 hsp1 hst1 hds1
  refine wp_seq ?_
  refine fx3 (fun r => r = r2_1) (fun _ _ => True) (l := regionOf Tryz.f29 1) false (by kernel_rfl) 4 6 w.heap.size [1, 2]
    [Xnum _ _ z, Xnum _ _ z, Xrat _ _ z 0, Sx.any _]
    (Sx.and (XhI r1_1 (show ¬ (r1_1 = r2_1) by have := n1_1.lt; omega) v1 (Xnum _ _ z)) (Sx.any _)) [(2, none)] [stXR 3 2 (Xrat _ _ z 0) r2_1 zaR (Xrat _ _ 0 0)]
    (by kernel_rfl) (by kernel_rfl) (by kernel_rfl) hs1 (And.intro (And.intro n1_1 I1_1) trivial) hB1.size (fac (fun _ _ => trivial) fan) (show ([3] : List Nat).Nodup by decide) (fac (.inr (And.intro (show (2 : Nat) ∈ ([1, 2] : List Nat) by decide) (And.intro (.head _) (getD_of t2_1)))) fan) (fac (And.intro n2_1 I2_1) fan) (fac (fun _ => ⟨r2_1, getD_of t2_1, n2_1.lt⟩) fan) (dis_one rfl) (fac (fun i hi => by cases hi) fan) ?_ ?_ ?_
  · intro i hi hns a w' hb hiv hk hp hold
    obtain ⟨⟨n1, i1⟩, _⟩ := hiv
    have k1 := (hk 1 (by decide)).trans t1_1
    match i, hi with
    | 0, _ => exact s_load k1 (load_bx n1) i1 (gf rfl)
    | 1, _ => exact s_call1 enter_own (own_any _ (z) (le3n hz (by decide)) w' (hp 0 rfl)) (gf rfl)
    | 2, _ => exact s_bldR0 (hp 1 rfl) (fun _ h => h) (gf rfl)
    | 3, _ => exact absurd rfl (hns _ (.head _))
    | _ + 4, h => exact absurd h (by omega)
  · refine fac ?_ (fan)
    · intro a w' hb hiv hk hp ho hf
      exact sX_R ((hk 2 (by decide)).trans t2_1) ho.1 (hp 2 rfl) (hp 2 rfl) b2_1.1 (by simp) trivial
  intro a2 w2 hb2 hd2 hs2 hk2 hiv2 hsp2 hst2 hds2
  have hB2 := hB1.trans hb2
  replace hd2 := hd2.trans hd1
  obtain ⟨⟨n1_2, i1_2⟩, _⟩ := hiv2
  have t2_2 := (hk2 2 (by decide)).trans t2_1
  obtain ⟨v2_2, n2_2, I2_2⟩ := txR (hst2 _ (.head _)) t2_2
  clear hb2 hk2 hsp2 hst2 hds2
  refine wp_ret ?_
  repeat first | refine then_ret ?_ | refine inBlock_ret ?_
  refine bodyPost_ret (res_R rfl t2_2 n2_2) hd2 ⟨_, rfl, hB2, ?_⟩
  exact I2_2

set_option maxRecDepth 100000 in
set_option maxHeartbeats 1600000 in
theorem isw_any (v1 : Value) (p b : Int) (w : World) (i0 : IsR w v1 p b) :
    Calls Tryz.prog 24 #[v1] w fun e w' => ∃ r, e = .returned r ∧ Below w.heap.size w w' ∧ r = .bool (decide (b = 0)) := by
  refine calls_act (fn := Tryz.f24) (by kernel_rfl) rfl (N := 7) (by kernel_rfl) (by simp) ?_
  intro a0 hs0 hd0 hx0
  have t0 : a0.tmps[0]? = some v1 := hx0 0 _ rfl
  clear hx0
  have hB0 : Below w.heap.size w w := Below.refl _ _
  refine wp_seq ?_
  refine fxN (fun _ => False) (fun _ _ => True) (l := regionOf Tryz.f24 0) false (by kernel_rfl) 2 7 w.heap.size [0]
    [XoR _ w.heap.size v1 (Xrat _ _ p b), Xval _ _ (.bool false)]
    (Sx.and (Sx.at (Xrat _ _ p b) v1) (Sx.any _)) [(1, some 0)] [] (by kernel_rfl) (by kernel_rfl) (by kernel_rfl) hs0 (And.intro i0 trivial) hB0.size List.nodup_nil fan (fac (npR rfl) fan) ?_ ?_ ?_
  · intro i hi hns a w' hb hiv hk hp hold
    obtain ⟨i0, _⟩ := hiv
    have k0 := (hk 0 (by decide)).trans t0
    match i, hi with
    | 0, _ => exact sB_R hb.size k0 i0 i0 rfl
    | 1, _ => exact s_cassign rfl (gf rfl)
    | _ + 2, h => exact absurd h (by omega)
  · exact fan
  intro a1 w1 hb1 hd1 hs1 hk1 hiv1 hsp1 hst1 hds1
  have hB1 := hB0.trans hb1
  replace hd1 := hd1.trans hd0
  obtain ⟨i0_1, _⟩ := hiv1
  obtain ⟨r1_1, t1_1, b1_1, n1_1, I1_1⟩ := toR (k := 1) (hsp1 0 (by decide) fan) hB0.size (by omega)
  obtain ⟨v2_1, t2_1, I2_1⟩ : ∃ v, a1.tmps[2]? = some v ∧ v = (.bool false) := tv_get (k := 2) (hsp1 1 (by decide) fan) (by omega)
  clear hb1 hk1 hsp1 hst1 hds1
  refine wp_seq ?_
  refine fx3n (fun _ _ => True) (l := regionOf Tryz.f24 1) false (by kernel_rfl) 5 7 w.heap.size [1] [Xval _ _ (.pointer (some ⟨r1_1, 2, none⟩)), Xnum _ _ b, Xval _ _ (.int .i64 (sgn (b))), Xval _ _ (.bool ((sgn (b)) == 0)), Xval _ _ (.bool ((sgn (b)) == 0))] (Sx.and (XhR r1_1 (fun h => h) v1 (Xrat _ _ p b)) (Sx.any _)) (by kernel_rfl) (by kernel_rfl) (by kernel_rfl) hs1 (And.intro (And.intro n1_1 I1_1) trivial) hB1.size ?_ ?_
  · intro i hi a w' hb hiv hk hp
    obtain ⟨⟨n1, i1⟩, _⟩ := hiv
    have k1 := (hk 1 (by decide)).trans t1_1
    match i, hi with
    | 0, _ => exact s_field k1 field_R1 rfl gt
    | 1, _ =>
      obtain ⟨u, hr, hu⟩ := ldR1 n1 i1
      exact s_loadP (hp 0 rfl) hr hu gt
    | 2, _ => exact s_call1 enter_Sign (sign_ct _ (b) w' (hp 1 rfl)) gt
    | 3, _ => exact s_eql (hp 2 rfl) rfl rfl gt
    | 4, _ => exact s_assign (hp 3 rfl) gt
    | _ + 5, h => exact absurd h (by omega)
  intro a2 w2 hb2 hd2 hs2 hk2 hiv2 hsp2
  have hB2 := hB1.trans hb2
  replace hd2 := hd2.trans hd1
  obtain ⟨⟨n1_2, i1_2⟩, _⟩ := hiv2
  obtain ⟨v2_2, t2_2, I2_2⟩ : ∃ v, a2.tmps[2]? = some v ∧ v = (.bool ((sgn (b)) == 0)) := tv_get (k := 2) (hsp2 4 (by decide)) (by omega)
  clear hb2 hk2 hsp2
  refine wp_ret ?_
  repeat first | refine then_ret ?_ | refine inBlock_ret ?_
  refine bodyPost_ret (res_t rfl t2_2) hd2 ⟨_, rfl, hB2, ?_⟩
  rw [I2_2, sgn_zero]

set_option maxRecDepth 100000 in
set_option maxHeartbeats 1600000 in
theorem below_any (v1 : Value) (p b : Int) (gb : (b.natAbs : Int) < pw 3000) (w : World) (i0 : IsR w v1 p b) :
    Calls Tryz.prog 25 #[v1] w fun e w' => ∃ r, e = .returned r ∧ Below w.heap.size w w' ∧ IsI w' r (bel b) := by
  refine calls_act (fn := Tryz.f25) (by kernel_rfl) rfl (N := 9) (by kernel_rfl) (by simp) ?_
  intro a0 hs0 hd0 hx0
  have t0 : a0.tmps[0]? = some v1 := hx0 0 _ rfl
  clear hx0
  have hB0 : Below w.heap.size w w := Below.refl _ _
  refine wp_seq ?_
  refine fxN (fun _ => False) (fun _ _ => True) (l := regionOf Tryz.f25 0) false (by kernel_rfl) 2 9 w.heap.size [0]
    [XoR _ w.heap.size v1 (Xrat _ _ p b), XoI _ w.heap.size zaI (Xnum _ _ 0)]
    (Sx.and (Sx.at (Xrat _ _ p b) v1) (Sx.any _)) [(1, some 0), (2, some 1)] [] (by kernel_rfl) (by kernel_rfl) (by kernel_rfl) hs0 (And.intro i0 trivial) hB0.size List.nodup_nil fan (fac (npR rfl) (fac (npI rfl) fan)) ?_ ?_ ?_
  · intro i hi hns a w' hb hiv hk hp hold
    obtain ⟨i0, _⟩ := hiv
    have k0 := (hk 0 (by decide)).trans t0
    match i, hi with
    | 0, _ => exact sB_R hb.size k0 i0 i0 rfl
    | 1, _ => exact sO_I hb.size isI_zero rfl
    | _ + 2, h => exact absurd h (by omega)
  · exact fan
  intro a1 w1 hb1 hd1 hs1 hk1 hiv1 hsp1 hst1 hds1
  have hB1 := hB0.trans hb1
  replace hd1 := hd1.trans hd0
  obtain ⟨i0_1, _⟩ := hiv1
  obtain ⟨r1_1, t1_1, b1_1, n1_1, I1_1⟩ := toR (k := 1) (hsp1 0 (by decide) fan) hB0.size (by omega)
  obtain ⟨r2_1, t2_1, b2_1, n2_1, I2_1⟩ := toI (k := 2) (hsp1 1 (by decide) fan) hB0.size (by omega)
  have ne1_2_1 : r1_1 ≠ r2_1 := ne_ptr (hds1 (1, some 0) (.head _) (2, some 1) (.tail _ (.head _)) (by decide)) t1_1 t2_1
  clear hb1 hk1 hsp1 hst1 hds1
  refine wp_seq ?_
  refine wp_seq ?_
  refine fx3n (fun _ _ => True) (l := regionOf Tryz.f25 1) false (by kernel_rfl) 2 9 w.heap.size [1, 2] [Xrat _ _ p b, Xval _ _ (.bool (decide (b = 0)))] (Sx.and (XhR r1_1 (fun h => h) v1 (Xrat _ _ p b)) (Sx.and (XhI r2_1 (fun h => h) zaI (Xnum _ _ 0)) (Sx.any _))) (by kernel_rfl) (by kernel_rfl) (by kernel_rfl) hs1 (And.intro (And.intro n1_1 I1_1) (And.intro (And.intro n2_1 I2_1) trivial)) hB1.size ?_ ?_
  · intro i hi a w' hb hiv hk hp
    obtain ⟨⟨n1, i1⟩, ⟨n2, i2⟩, _⟩ := hiv
    have k1 := (hk 1 (by decide)).trans t1_1
    match i, hi with
    | 0, _ => exact s_load k1 (load_R n1) i1 gt
    | 1, _ => exact s_call1 enter_isw (isw_any _ (p) (b) w' (hp 0 rfl)) gt
    | _ + 2, h => exact absurd h (by omega)
  intro a2 w2 hb2 hd2 hs2 hk2 hiv2 hsp2
  have hB2 := hB1.trans hb2
  replace hd2 := hd2.trans hd1
  obtain ⟨⟨n1_2, i1_2⟩, ⟨n2_2, i2_2⟩, _⟩ := hiv2
  have t1_2 := (hk2 1 (by decide)).trans t1_1
  have t2_2 := (hk2 2 (by decide)).trans t2_1
  obtain ⟨v4_2, t4_2, I4_2⟩ : ∃ v, a2.tmps[4]? = some v ∧ v = (.bool (decide (b = 0))) := tv_get (k := 4) (hsp2 1 (by decide)) (by omega)
  clear hb2 hk2 hsp2
  by_cases hc4 : b = 0
  · skip
    refine wp_cond_true (show Act.eval a2 (.tmp 4) = .bool true by rw [eval_of t4_2, I4_2]; simp [hc4]) ?_
    refine wp_seq ?_
    refine fx3 (fun r => r = r2_1) (fun _ _ => True) (l := regionOf Tryz.f25 2) false (by kernel_rfl) 2 9 w.heap.size [1, 2]
      [Xnum _ _ 1, Sx.any _]
      (Sx.and (XhR r1_1 (show ¬ (r1_1 = r2_1) by have := n1_2.lt; omega) v1 (Xrat _ _ p b)) (Sx.any _)) [(2, none)] [stXI 1 2 (Xnum _ _ 1) r2_1 zaI (Xnum _ _ 0)]
      (by kernel_rfl) (by kernel_rfl) (by kernel_rfl) hs2 (And.intro (And.intro n1_2 i1_2) trivial) hB2.size (fac (fun _ _ => trivial) fan) (show ([1] : List Nat).Nodup by decide) (fac (.inr (And.intro (show (2 : Nat) ∈ ([1, 2] : List Nat) by decide) (And.intro (.head _) (getD_of t2_2)))) fan) (fac (And.intro n2_2 i2_2) fan) (fac (fun _ => ⟨r2_1, getD_of t2_2, n2_2.lt⟩) fan) (dis_one rfl) (fac (fun i hi => by cases hi) fan) ?_ ?_ ?_
    · intro i hi hns a w' hb hiv hk hp hold
      obtain ⟨⟨n1, i1⟩, _⟩ := hiv
      match i, hi with
      | 0, _ => exact s_callC enter_Of (of_ct 1 w' (by decide) (by decide)) (gf rfl)
      | 1, _ => exact absurd rfl (hns _ (.head _))
      | _ + 2, h => exact absurd h (by omega)
    · refine fac ?_ (fan)
      · intro a w' hb hiv hk hp ho hf
        exact sX_I ((hk 2 (by decide)).trans t2_2) ho.1 (hp 0 rfl) (hp 0 rfl) b2_1.1 (by simp) trivial
    intro a3 w3 hb3 hd3 hs3 hk3 hiv3 hsp3 hst3 hds3
    have hB3 := hB2.trans hb3
    replace hd3 := hd3.trans hd2
    obtain ⟨⟨n1_3, i1_3⟩, _⟩ := hiv3
    have t1_3 := (hk3 1 (by decide)).trans t1_2
    have t2_3 := (hk3 2 (by decide)).trans t2_2
    obtain ⟨v2_3, n2_3, I2_3⟩ := txI (hst3 _ (.head _)) t2_3
    clear hb3 hk3 hsp3 hst3 hds3
    refine wp_ret ?_
    repeat first | refine then_ret ?_ | refine inBlock_ret ?_
    refine bodyPost_ret (res_I rfl t2_3 n2_3) hd3 ⟨_, rfl, hB3, ?_⟩
    unfold bel
    split
    · exact I2_3
    · exact absurd hc4 ‹_›
  · skip
    refine wp_cond_false (show Act.eval a2 (.tmp 4) = .bool false by rw [eval_of t4_2, I4_2]; simp [hc4]) ?_
    refine wp_skip ?_
    change Code.wp _ _ _ _ _
    refine wp_seq ?_
    refine fx3 (fun r => r = r2_1) (fun _ _ => True) (l := regionOf Tryz.f25 3) false (by kernel_rfl) 4 9 w.heap.size [1, 2]
      [Xval _ _ (.pointer (some ⟨r1_1, 2, none⟩)), Xnum _ _ b, Xnum _ _ b, Sx.any _]
      (Sx.and (XhR r1_1 (show ¬ (r1_1 = r2_1) by have := n1_2.lt; omega) v1 (Xrat _ _ p b)) (Sx.any _)) [(2, none)] [stXI 3 2 (Xnum _ _ b) r2_1 zaI (Xnum _ _ 0)]
      (by kernel_rfl) (by kernel_rfl) (by kernel_rfl) hs2 (And.intro (And.intro n1_2 i1_2) trivial) hB2.size (fac (fun _ _ => trivial) fan) (show ([3] : List Nat).Nodup by decide) (fac (.inr (And.intro (show (2 : Nat) ∈ ([1, 2] : List Nat) by decide) (And.intro (.head _) (getD_of t2_2)))) fan) (fac (And.intro n2_2 i2_2) fan) (fac (fun _ => ⟨r2_1, getD_of t2_2, n2_2.lt⟩) fan) (dis_one rfl) (fac (fun i hi => by cases hi) fan) ?_ ?_ ?_
    · intro i hi hns a w' hb hiv hk hp hold
      obtain ⟨⟨n1, i1⟩, _⟩ := hiv
      have k1 := (hk 1 (by decide)).trans t1_2
      match i, hi with
      | 0, _ => exact s_field k1 field_R1 rfl (gf rfl)
      | 1, _ =>
        obtain ⟨u, hr, hu⟩ := ldR1 n1 i1
        exact s_loadP (hp 0 rfl) hr hu (gf rfl)
      | 2, _ => exact s_call1 enter_own (own_any _ (b) (le3n gb (by decide)) w' (hp 1 rfl)) (gf rfl)
      | 3, _ => exact absurd rfl (hns _ (.head _))
      | _ + 4, h => exact absurd h (by omega)
    · refine fac ?_ (fan)
      · intro a w' hb hiv hk hp ho hf
        exact sX_I ((hk 2 (by decide)).trans t2_2) ho.1 (hp 2 rfl) (hp 2 rfl) b2_1.1 (by simp) trivial
    intro a3 w3 hb3 hd3 hs3 hk3 hiv3 hsp3 hst3 hds3
    have hB3 := hB2.trans hb3
    replace hd3 := hd3.trans hd2
    obtain ⟨⟨n1_3, i1_3⟩, _⟩ := hiv3
    have t2_3 := (hk3 2 (by decide)).trans t2_2
    obtain ⟨v2_3, n2_3, I2_3⟩ := txI (hst3 _ (.head _)) t2_3
    clear hb3 hk3 hsp3 hst3 hds3
    refine wp_ret ?_
    repeat first | refine then_ret ?_ | refine inBlock_ret ?_
    refine bodyPost_ret (res_I rfl t2_3 n2_3) hd3 ⟨_, rfl, hB3, ?_⟩
    unfold bel
    split
    · exact absurd ‹_› hc4
    · exact I2_3

set_option maxRecDepth 100000 in
set_option maxHeartbeats 1600000 in
theorem top_any (v1 : Value) (p b : Int) (gp : (p.natAbs : Int) < pw 3000) (w : World) (i0 : IsR w v1 p b) :
    Calls Tryz.prog 26 #[v1] w fun e w' => ∃ r, e = .returned r ∧ Below w.heap.size w w' ∧ IsI w' r p := by
  refine calls_act (fn := Tryz.f26) (by kernel_rfl) rfl (N := 6) (by kernel_rfl) (by simp) ?_
  intro a0 hs0 hd0 hx0
  have t0 : a0.tmps[0]? = some v1 := hx0 0 _ rfl
  clear hx0
  have hB0 : Below w.heap.size w w := Below.refl _ _
  refine wp_seq ?_
  refine fxN (fun _ => False) (fun _ _ => True) (l := regionOf Tryz.f26 0) false (by kernel_rfl) 2 6 w.heap.size [0]
    [XoR _ w.heap.size v1 (Xrat _ _ p b), XoI _ w.heap.size zaI (Xnum _ _ 0)]
    (Sx.and (Sx.at (Xrat _ _ p b) v1) (Sx.any _)) [(1, some 0), (2, some 1)] [] (by kernel_rfl) (by kernel_rfl) (by kernel_rfl) hs0 (And.intro i0 trivial) hB0.size List.nodup_nil fan (fac (npR rfl) (fac (npI rfl) fan)) ?_ ?_ ?_
  · intro i hi hns a w' hb hiv hk hp hold
    obtain ⟨i0, _⟩ := hiv
    have k0 := (hk 0 (by decide)).trans t0
    match i, hi with
    | 0, _ => exact sB_R hb.size k0 i0 i0 rfl
    | 1, _ => exact sO_I hb.size isI_zero rfl
    | _ + 2, h => exact absurd h (by omega)
  · exact fan
  intro a1 w1 hb1 hd1 hs1 hk1 hiv1 hsp1 hst1 hds1
  have hB1 := hB0.trans hb1
  replace hd1 := hd1.trans hd0
  obtain ⟨i0_1, _⟩ := hiv1
  obtain ⟨r1_1, t1_1, b1_1, n1_1, I1_1⟩ := toR (k := 1) (hsp1 0 (by decide) fan) hB0.size (by omega)
  obtain ⟨r2_1, t2_1, b2_1, n2_1, I2_1⟩ := toI (k := 2) (hsp1 1 (by decide) fan) hB0.size (by omega)
  have ne1_2_1 : r1_1 ≠ r2_1 := ne_ptr (hds1 (1, some 0) (.head _) (2, some 1) (.tail _ (.head _)) (by decide)) t1_1 t2_1
  clear hb1 hk1 hsp1 hst1 hds1
  refine wp_seq ?_
  refine fx3 (fun r => r = r2_1) (fun _ _ => True) (l := regionOf Tryz.f26 1) false (by kernel_rfl) 4 6 w.heap.size [1, 2]
    [Xval _ _ (.pointer (some ⟨r1_1, 0, none⟩)), Xnum _ _ p, Xnum _ _ p, Sx.any _]
    (Sx.and (XhR r1_1 (show ¬ (r1_1 = r2_1) by have := n1_1.lt; omega) v1 (Xrat _ _ p b)) (Sx.any _)) [(2, none)] [stXI 3 2 (Xnum _ _ p) r2_1 zaI (Xnum _ _ 0)]
    (by kernel_rfl) (by kernel_rfl) (by kernel_rfl) hs1 (And.intro (And.intro n1_1 I1_1) trivial) hB1.size (fac (fun _ _ => trivial) fan) (show ([3] : List Nat).Nodup by decide) (fac (.inr (And.intro (show (2 : Nat) ∈ ([1, 2] : List Nat) by decide) (And.intro (.head _) (getD_of t2_1)))) fan) (fac (And.intro n2_1 I2_1) fan) (fac (fun _ => ⟨r2_1, getD_of t2_1, n2_1.lt⟩) fan) (dis_one rfl) (fac (fun i hi => by cases hi) fan) ?_ ?_ ?_
  · intro i hi hns a w' hb hiv hk hp hold
    obtain ⟨⟨n1, i1⟩, _⟩ := hiv
    have k1 := (hk 1 (by decide)).trans t1_1
    match i, hi with
    | 0, _ => exact s_field k1 field_R0 rfl (gf rfl)
    | 1, _ =>
      obtain ⟨u, hr, hu⟩ := ldR0 n1 i1
      exact s_loadP (hp 0 rfl) hr hu (gf rfl)
    | 2, _ => exact s_call1 enter_own (own_any _ (p) (le3n gp (by decide)) w' (hp 1 rfl)) (gf rfl)
    | 3, _ => exact absurd rfl (hns _ (.head _))
    | _ + 4, h => exact absurd h (by omega)
  · refine fac ?_ (fan)
    · intro a w' hb hiv hk hp ho hf
      exact sX_I ((hk 2 (by decide)).trans t2_1) ho.1 (hp 2 rfl) (hp 2 rfl) b2_1.1 (by simp) trivial
  intro a2 w2 hb2 hd2 hs2 hk2 hiv2 hsp2 hst2 hds2
  have hB2 := hB1.trans hb2
  replace hd2 := hd2.trans hd1
  obtain ⟨⟨n1_2, i1_2⟩, _⟩ := hiv2
  have t2_2 := (hk2 2 (by decide)).trans t2_1
  obtain ⟨v2_2, n2_2, I2_2⟩ := txI (hst2 _ (.head _)) t2_2
  clear hb2 hk2 hsp2 hst2 hds2
  refine wp_ret ?_
  repeat first | refine then_ret ?_ | refine inBlock_ret ?_
  refine bodyPost_ret (res_I rfl t2_2 n2_2) hd2 ⟨_, rfl, hB2, ?_⟩
  exact I2_2

set_option maxRecDepth 100000 in
set_option maxHeartbeats 1600000 in
theorem rneg_any (v1 : Value) (p b : Int) (gp : (p.natAbs : Int) < pw 3000) (gb : (b.natAbs : Int) < pw 3000) (w : World) (i0 : IsR w v1 p b) :
    Calls Tryz.prog 18 #[v1] w fun e w' => ∃ r, e = .returned r ∧ Below w.heap.size w w' ∧ IsR w' r (-p) b := by
  refine calls_act (fn := Tryz.f18) (by kernel_rfl) rfl (N := 10) (by kernel_rfl) (by simp) ?_
  intro a0 hs0 hd0 hx0
  have t0 : a0.tmps[0]? = some v1 := hx0 0 _ rfl
  clear hx0
  have hB0 : Below w.heap.size w w := Below.refl _ _
  refine wp_seq ?_
  refine fxN (fun _ => False) (fun _ _ => True) (l := regionOf Tryz.f18 0) false (by kernel_rfl) 2 10 w.heap.size [0]
    [XoR _ w.heap.size v1 (Xrat _ _ p b), XoR _ w.heap.size zaR (Xrat _ _ 0 0)]
    (Sx.and (Sx.at (Xrat _ _ p b) v1) (Sx.any _)) [(1, some 0), (2, some 1)] [] (by kernel_rfl) (by kernel_rfl) (by kernel_rfl) hs0 (And.intro i0 trivial) hB0.size List.nodup_nil fan (fac (npR rfl) (fac (npR rfl) fan)) ?_ ?_ ?_
  · intro i hi hns a w' hb hiv hk hp hold
    obtain ⟨i0, _⟩ := hiv
    have k0 := (hk 0 (by decide)).trans t0
    match i, hi with
    | 0, _ => exact sB_R hb.size k0 i0 i0 rfl
    | 1, _ => exact sO_R hb.size isR_zero rfl
    | _ + 2, h => exact absurd h (by omega)
  · exact fan
  intro a1 w1 hb1 hd1 hs1 hk1 hiv1 hsp1 hst1 hds1
  have hB1 := hB0.trans hb1
  replace hd1 := hd1.trans hd0
  obtain ⟨i0_1, _⟩ := hiv1
  obtain ⟨r1_1, t1_1, b1_1, n1_1, I1_1⟩ := toR (k := 1) (hsp1 0 (by decide) fan) hB0.size (by omega)
  obtain ⟨r2_1, t2_1, b2_1, n2_1, I2_1⟩ := toR (k := 2) (hsp1 1 (by decide) fan) hB0.size (by omega)
  have ne1_2_1 : r1_1 ≠ r2_1 := ne_ptr (hds1 (1, some 0) (.head _) (2, some 1) (.tail _ (.head _)) (by decide)) t1_1 t2_1
  clear hb1 hk1 hsp1 hst1 hds1
  refine wp_seq ?_
  refine fx3 (fun r => r = r2_1) (fun _ _ => True) (l := regionOf Tryz.f18 1) true (by kernel_rfl) 8 10 w.heap.size [1, 2]
    [Xval _ _ (.pointer (some ⟨r1_1, 0, none⟩)), Xnum _ _ p, Xnum _ _ (-p), Xval _ _ (.pointer (some ⟨r1_1, 2, none⟩)), Xnum _ _ b, Xnum _ _ b, Xrat _ _ (-p) b, Sx.any _]
    (Sx.and (XhR r1_1 (show ¬ (r1_1 = r2_1) by have := n1_1.lt; omega) v1 (Xrat _ _ p b)) (Sx.any _)) [(2, none)] [stXR 7 2 (Xrat _ _ (-p) b) r2_1 zaR (Xrat _ _ 0 0)]
    (by kernel_rfl) (by kernel_rfl) (by kernel_rfl) hs1 (And.intro (And.intro n1_1 I1_1) trivial) hB1.size (fac (fun _ _ => trivial) fan) (show ([7] : List Nat).Nodup by decide) (fac (.inr (And.intro (show (2 : Nat) ∈ ([1, 2] : List Nat) by decide) (And.intro (.head _) (getD_of t2_1)))) fan) (fac (And.intro n2_1 I2_1) fan) (fac (fun _ => ⟨r2_1, getD_of t2_1, n2_1.lt⟩) fan) (dis_one rfl) (fac (fun i hi => by cases hi) fan) ?_ ?_ ?_
  · intro i hi hns a w' hb hiv hk hp hold
    obtain ⟨⟨n1, i1⟩, _⟩ := hiv
    have k1 := (hk 1 (by decide)).trans t1_1
    match i, hi with
    | 0, _ => exact s_field k1 field_R0 rfl (gf rfl)
    | 1, _ =>
      obtain ⟨u, hr, hu⟩ := ldR0 n1 i1
      exact s_loadP (hp 0 rfl) hr hu (gf rfl)
    | 2, _ => exact s_call1 enter_Neg (neg_any _ (p) w' (hp 1 rfl) (Int.lt_of_lt_of_le gp (pw_mono (by decide)))) (gf rfl)
    | 3, _ => exact s_field k1 field_R1 rfl (gf rfl)
    | 4, _ =>
      obtain ⟨u, hr, hu⟩ := ldR1 n1 i1
      exact s_loadP (hp 3 rfl) hr hu (gf rfl)
    | 5, _ => exact s_call1 enter_own (own_any _ (b) (le3n gb (by decide)) w' (hp 4 rfl)) (gf rfl)
    | 6, _ => exact s_bldR (hp 2 rfl) (hp 5 rfl) (fun _ h => h) (gf rfl)
    | 7, _ => exact absurd rfl (hns _ (.head _))
    | _ + 8, h => exact absurd h (by omega)
  · refine fac ?_ (fan)
    · intro a w' hb hiv hk hp ho hf
      exact sX_R ((hk 2 (by decide)).trans t2_1) ho.1 (hp 6 rfl) (hp 6 rfl) b2_1.1 (by simp) trivial
  intro a2 w2 hb2 hd2 hs2 hk2 hiv2 hsp2 hst2 hds2
  have hB2 := hB1.trans hb2
  replace hd2 := hd2.trans hd1
  obtain ⟨⟨n1_2, i1_2⟩, _⟩ := hiv2
  have t2_2 := (hk2 2 (by decide)).trans t2_1
  obtain ⟨v2_2, n2_2, I2_2⟩ := txR (hst2 _ (.head _)) t2_2
  clear hb2 hk2 hsp2 hst2 hds2
  refine wp_ret ?_
  repeat first | refine then_ret ?_ | refine inBlock_ret ?_
  refine bodyPost_ret (res_R rfl t2_2 n2_2) hd2 ⟨_, rfl, hB2, ?_⟩
  exact I2_2

set_option maxRecDepth 100000 in
set_option maxHeartbeats 1600000 in
theorem level_any (v1 v2 : Value) (p b q c : Int) (gp : (p.natAbs : Int) < pw 700) (gb : (b.natAbs : Int) < pw 700) (gq : (q.natAbs : Int) < pw 700) (gc : (c.natAbs : Int) < pw 700) (w : World) (i0 : IsR w v1 p b) (i1 : IsR w v2 q c) :
    Calls Tryz.prog 43 #[v1, v2] w fun e w' => ∃ r, e = .returned r ∧ Below w.heap.size w w' ∧ IsX w' r (lvL p b c) (lvR q b c) (lvS b c) (lvG b c) := by
  refine calls_act (fn := Tryz.f43) (by kernel_rfl) rfl (N := 36) (by kernel_rfl) (by simp) ?_
  intro a0 hs0 hd0 hx0
  have t0 : a0.tmps[0]? = some v1 := hx0 0 _ rfl
  have t1 : a0.tmps[1]? = some v2 := hx0 1 _ rfl
  clear hx0
  have hB0 : Below w.heap.size w w := Below.refl _ _
  refine wp_seq ?_
  refine fxN (fun _ => False) (fun _ _ => True) (l := regionOf Tryz.f43 0) false (by kernel_rfl) 3 36 w.heap.size [0, 1]
    [XoR _ w.heap.size v1 (Xrat _ _ p b), XoR _ w.heap.size v2 (Xrat _ _ q c), XoX _ w.heap.size zaX (Xpair _ _ 0 0 0 0)]
    (Sx.and (Sx.at (Xrat _ _ p b) v1) (Sx.and (Sx.at (Xrat _ _ q c) v2) (Sx.any _))) [(2, some 0), (3, some 1), (4, some 2)] [] (by kernel_rfl) (by kernel_rfl) (by kernel_rfl) hs0 (And.intro i0 (And.intro i1 trivial)) hB0.size List.nodup_nil fan (fac (npR rfl) (fac (npR rfl) (fac (npX rfl) fan))) ?_ ?_ ?_
  · intro i hi hns a w' hb hiv hk hp hold
    obtain ⟨i0, i1, _⟩ := hiv
    have k0 := (hk 0 (by decide)).trans t0
    have k1 := (hk 1 (by decide)).trans t1
    match i, hi with
    | 0, _ => exact sB_R hb.size k0 i0 i0 rfl
    | 1, _ => exact sB_R hb.size k1 i1 i1 rfl
    | 2, _ => exact sO_X hb.size isX_zero rfl
    | _ + 3, h => exact absurd h (by omega)
  · exact fan
  intro a1 w1 hb1 hd1 hs1 hk1 hiv1 hsp1 hst1 hds1
  have hB1 := hB0.trans hb1
  replace hd1 := hd1.trans hd0
  obtain ⟨i0_1, i1_1, _⟩ := hiv1
  obtain ⟨r2_1, t2_1, b2_1, n2_1, I2_1⟩ := toR (k := 2) (hsp1 0 (by decide) fan) hB0.size (by omega)
  obtain ⟨r3_1, t3_1, b3_1, n3_1, I3_1⟩ := toR (k := 3) (hsp1 1 (by decide) fan) hB0.size (by omega)
  obtain ⟨r4_1, t4_1, b4_1, n4_1, I4_1⟩ := toX (k := 4) (hsp1 2 (by decide) fan) hB0.size (by omega)
  have ne2_4_1 : r2_1 ≠ r4_1 := ne_ptr (hds1 (2, some 0) (.head _) (4, some 2) (.tail _ (.tail _ (.head _))) (by decide)) t2_1 t4_1
  have ne3_4_1 : r3_1 ≠ r4_1 := ne_ptr (hds1 (3, some 1) (.tail _ (.head _)) (4, some 2) (.tail _ (.tail _ (.head _))) (by decide)) t3_1 t4_1
  clear hb1 hk1 hsp1 hst1 hds1
  refine wp_seq ?_
  refine fxN (fun r => w1.heap.size ≤ r) (fun _ _ => True) (l := regionOf Tryz.f43 1) true (by kernel_rfl) 8 36 w.heap.size [2, 3, 4]
    [Xrat _ _ p b, Xnum _ _ (bel (b)), Xrat _ _ q c, Xnum _ _ (bel (c)), Sx.box _ w1.heap.size 26, Sx.box _ w1.heap.size 26, Sx.any _, Sx.any _]
    (Sx.and (XhR r2_1 (Nat.not_le_of_lt n2_1.lt) v1 (Xrat _ _ p b)) (Sx.and (XhR r3_1 (Nat.not_le_of_lt n3_1.lt) v2 (Xrat _ _ q c)) (Sx.and (XhX r4_1 (Nat.not_le_of_lt n4_1.lt) zaX (Xpair _ _ 0 0 0 0)) (Sx.any _)))) [(5, some 4), (6, some 5)] [stNI 6 5 (Xnum _ _ (bel (b))), stNI 7 6 (Xnum _ _ (bel (c)))] (by kernel_rfl) (by kernel_rfl) (by kernel_rfl) hs1 (And.intro (And.intro n2_1 I2_1) (And.intro (And.intro n3_1 I3_1) (And.intro (And.intro n4_1 I4_1) trivial))) hB1.size (show ([6, 7] : List Nat).Nodup by decide) (fac nst (fac nst fan)) (fac (nby rfl) (fac (nby rfl) fan)) ?_ ?_ ?_
  · intro i hi hns a w' hb hiv hk hp hold
    obtain ⟨⟨n2, i2⟩, ⟨n3, i3⟩, ⟨n4, i4⟩, _⟩ := hiv
    have k2 := (hk 2 (by decide)).trans t2_1
    have k3 := (hk 3 (by decide)).trans t3_1
    match i, hi with
    | 0, _ => exact s_load k2 (load_R n2) i2 (gf rfl)
    | 1, _ => exact s_call1 enter_bel (below_any _ (p) (b) (le3n gb (by decide)) w' (hp 0 rfl)) (gf rfl)
    | 2, _ => exact s_load k3 (load_R n3) i3 (gf rfl)
    | 3, _ => exact s_call1 enter_bel (below_any _ (q) (c) (le3n gc (by decide)) w' (hp 2 rfl)) (gf rfl)
    | 4, _ => exact sA_I hb.size hb.size (fac (zI w') (fac (zI w') fan))
    | 5, _ => exact sA_I hb.size hb.size (fac (zI w') (fac (zI w') fan))
    | 6, _ => exact absurd rfl (hns _ (.head _))
    | 7, _ => exact absurd rfl (hns _ (.tail _ (.head _)))
    | _ + 8, h => exact absurd h (by omega)
  · refine fac ?_ (fac ?_ (fan))
    · intro a w' hb hiv hk hp ho hf
      exact sN_I (hp 4 rfl) (hp 1 rfl) (hp 1 rfl) hB1.size (hf 4 (.head _)) (fun _ _ => trivial)
    · intro a w' hb hiv hk hp ho hf
      exact sN_I (hp 5 rfl) (hp 3 rfl) (hp 3 rfl) hB1.size (hf 5 (.tail _ (.head _))) (fun _ _ => trivial)
  intro a2 w2 hb2 hd2 hs2 hk2 hiv2 hsp2 hst2 hds2
  have hB2 := hB1.trans hb2
  replace hd2 := hd2.trans hd1
  obtain ⟨⟨n2_2, i2_2⟩, ⟨n3_2, i3_2⟩, ⟨n4_2, i4_2⟩, _⟩ := hiv2
  have t2_2 := (hk2 2 (by decide)).trans t2_1
  have t3_2 := (hk2 3 (by decide)).trans t3_1
  have t4_2 := (hk2 4 (by decide)).trans t4_1
  obtain ⟨r5_2, v5_2, t5_2, b5_2, n5_2, I5_2⟩ := tnI (k := 5) (hst2 _ (.head _)) (hsp2 4 (by decide) (fac (nq rfl) (fac (nq rfl) fan))) hB1.size (by omega)
  obtain ⟨r6_2, v6_2, t6_2, b6_2, n6_2, I6_2⟩ := tnI (k := 6) (hst2 _ (.tail _ (.head _))) (hsp2 5 (by decide) (fac (nq rfl) (fac (nq rfl) fan))) hB1.size (by omega)
  have ne4_5_2 : r4_1 ≠ r5_2 := by have := n4_1.lt; have := b5_2.2; omega
  have ne4_6_2 : r4_1 ≠ r6_2 := by have := n4_1.lt; have := b6_2.2; omega
  clear hb2 hk2 hsp2 hst2 hds2
  refine wp_seq ?_
  refine fxN (fun r => w2.heap.size ≤ r) (fun _ _ => True) (l := regionOf Tryz.f43 2) false (by kernel_rfl) 5 36 w.heap.size [2, 3, 4, 5, 6]
    [Xnum _ _ (bel (b)), Xnum _ _ (bel (c)), Xnum _ _ (Int.gcd (bel (b)) (bel (c)) : Int), Sx.box _ w2.heap.size 26, Sx.any _]
    (Sx.and (XhR r2_1 (Nat.not_le_of_lt n2_2.lt) v1 (Xrat _ _ p b)) (Sx.and (XhR r3_1 (Nat.not_le_of_lt n3_2.lt) v2 (Xrat _ _ q c)) (Sx.and (XhX r4_1 (Nat.not_le_of_lt n4_2.lt) zaX (Xpair _ _ 0 0 0 0)) (Sx.and (XhI r5_2 (Nat.not_le_of_lt n5_2.lt) v5_2 (Xnum _ _ (bel (b)))) (Sx.and (XhI r6_2 (Nat.not_le_of_lt n6_2.lt) v6_2 (Xnum _ _ (bel (c)))) (Sx.any _)))))) [(7, some 3)] [stNI 4 7 (Xnum _ _ (Int.gcd (bel (b)) (bel (c)) : Int))] (by kernel_rfl) (by kernel_rfl) (by kernel_rfl) hs2 (And.intro (And.intro n2_2 i2_2) (And.intro (And.intro n3_2 i3_2) (And.intro (And.intro n4_2 i4_2) (And.intro (And.intro n5_2 I5_2) (And.intro (And.intro n6_2 I6_2) trivial))))) hB2.size (show ([4] : List Nat).Nodup by decide) (fac nst fan) (fac (nby rfl) fan) ?_ ?_ ?_
  · intro i hi hns a w' hb hiv hk hp hold
    obtain ⟨⟨n2, i2⟩, ⟨n3, i3⟩, ⟨n4, i4⟩, ⟨n5, i5⟩, ⟨n6, i6⟩, _⟩ := hiv
    have k5 := (hk 5 (by decide)).trans t5_2
    have k6 := (hk 6 (by decide)).trans t6_2
    match i, hi with
    | 0, _ => exact s_load k5 (load_bx n5) i5 (gf rfl)
    | 1, _ => exact s_load k6 (load_bx n6) i6 (gf rfl)
    | 2, _ => exact s_call2 enter_Gcd (gcd_any quoLong_any _ _ (bel (b)) (bel (c)) w' (hp 0 rfl) (hp 1 rfl) (le4 (bel_lt gb) (by decide)) (le4 (bel_lt gc) (by decide))) (gf rfl)
    | 3, _ => exact sA_I hb.size hb.size (fac (zI w') fan)
    | 4, _ => exact absurd rfl (hns _ (.head _))
    | _ + 5, h => exact absurd h (by omega)
  · refine fac ?_ (fan)
    · intro a w' hb hiv hk hp ho hf
      exact sN_I (hp 3 rfl) (hp 2 rfl) (hp 2 rfl) hB2.size (hf 3 (.head _)) (fun _ _ => trivial)
  intro a3 w3 hb3 hd3 hs3 hk3 hiv3 hsp3 hst3 hds3
  have hB3 := hB2.trans hb3
  replace hd3 := hd3.trans hd2
  obtain ⟨⟨n2_3, i2_3⟩, ⟨n3_3, i3_3⟩, ⟨n4_3, i4_3⟩, ⟨n5_3, i5_3⟩, ⟨n6_3, i6_3⟩, _⟩ := hiv3
  have t2_3 := (hk3 2 (by decide)).trans t2_2
  have t3_3 := (hk3 3 (by decide)).trans t3_2
  have t4_3 := (hk3 4 (by decide)).trans t4_2
  have t5_3 := (hk3 5 (by decide)).trans t5_2
  have t6_3 := (hk3 6 (by decide)).trans t6_2
  obtain ⟨r7_3, v7_3, t7_3, b7_3, n7_3, I7_3⟩ := tnI (k := 7) (hst3 _ (.head _)) (hsp3 3 (by decide) (fac (nq rfl) fan)) hB2.size (by omega)
  have ne4_7_3 : r4_1 ≠ r7_3 := by have := n4_2.lt; have := b7_3.2; omega
  clear hb3 hk3 hsp3 hst3 hds3
  refine wp_seq ?_
  refine fxN (fun r => w3.heap.size ≤ r) (fun _ _ => True) (l := regionOf Tryz.f43 3) true (by kernel_rfl) 10 36 w.heap.size [2, 3, 4, 5, 6, 7]
    [Xnum _ _ (bel (c)), Xnum _ _ (Int.gcd (bel (b)) (bel (c)) : Int), Xnum _ _ ((bel (c)) / ((Int.gcd (bel (b)) (bel (c)) : Int))), Xnum _ _ (bel (b)), Xnum _ _ (Int.gcd (bel (b)) (bel (c)) : Int), Xnum _ _ ((bel (b)) / ((Int.gcd (bel (b)) (bel (c)) : Int))), Sx.box _ w3.heap.size 26, Sx.box _ w3.heap.size 26, Sx.any _, Sx.any _]
    (Sx.and (XhR r2_1 (Nat.not_le_of_lt n2_3.lt) v1 (Xrat _ _ p b)) (Sx.and (XhR r3_1 (Nat.not_le_of_lt n3_3.lt) v2 (Xrat _ _ q c)) (Sx.and (XhX r4_1 (Nat.not_le_of_lt n4_3.lt) zaX (Xpair _ _ 0 0 0 0)) (Sx.and (XhI r5_2 (Nat.not_le_of_lt n5_3.lt) v5_2 (Xnum _ _ (bel (b)))) (Sx.and (XhI r6_2 (Nat.not_le_of_lt n6_3.lt) v6_2 (Xnum _ _ (bel (c)))) (Sx.and (XhI r7_3 (Nat.not_le_of_lt n7_3.lt) v7_3 (Xnum _ _ (Int.gcd (bel (b)) (bel (c)) : Int))) (Sx.any _))))))) [(8, some 6), (9, some 7)] [stNI 8 8 (Xnum _ _ ((bel (c)) / ((Int.gcd (bel (b)) (bel (c)) : Int)))), stNI 9 9 (Xnum _ _ ((bel (b)) / ((Int.gcd (bel (b)) (bel (c)) : Int))))] (by kernel_rfl) (by kernel_rfl) (by kernel_rfl) hs3 (And.intro (And.intro n2_3 i2_3) (And.intro (And.intro n3_3 i3_3) (And.intro (And.intro n4_3 i4_3) (And.intro (And.intro n5_3 i5_3) (And.intro (And.intro n6_3 i6_3) (And.intro (And.intro n7_3 I7_3) trivial)))))) hB3.size (show ([8, 9] : List Nat).Nodup by decide) (fac nst (fac nst fan)) (fac (nby rfl) (fac (nby rfl) fan)) ?_ ?_ ?_
  · intro i hi hns a w' hb hiv hk hp hold
    obtain ⟨⟨n2, i2⟩, ⟨n3, i3⟩, ⟨n4, i4⟩, ⟨n5, i5⟩, ⟨n6, i6⟩, ⟨n7, i7⟩, _⟩ := hiv
    have k5 := (hk 5 (by decide)).trans t5_3
    have k6 := (hk 6 (by decide)).trans t6_3
    have k7 := (hk 7 (by decide)).trans t7_3
    match i, hi with
    | 0, _ => exact s_load k6 (load_bx n6) i6 (gf rfl)
    | 1, _ => exact s_load k7 (load_bx n7) i7 (gf rfl)
    | 2, _ => exact s_call2 enter_part (part_any _ _ (bel (c)) ((Int.gcd (bel (b)) (bel (c)) : Int)) (le3n (bel_lt gc) (by decide)) (le3n (gcd_lt2 (bel_lt gb) (bel_lt gc)) (by decide)) w' (hp 0 rfl) (hp 1 rfl)) (gf rfl)
    | 3, _ => exact s_load k5 (load_bx n5) i5 (gf rfl)
    | 4, _ => exact s_load k7 (load_bx n7) i7 (gf rfl)
    | 5, _ => exact s_call2 enter_part (part_any _ _ (bel (b)) ((Int.gcd (bel (b)) (bel (c)) : Int)) (le3n (bel_lt gb) (by decide)) (le3n (gcd_lt2 (bel_lt gb) (bel_lt gc)) (by decide)) w' (hp 3 rfl) (hp 4 rfl)) (gf rfl)
    | 6, _ => exact sA_I hb.size hb.size (fac (zI w') (fac (zI w') fan))
    | 7, _ => exact sA_I hb.size hb.size (fac (zI w') (fac (zI w') fan))
    | 8, _ => exact absurd rfl (hns _ (.head _))
    | 9, _ => exact absurd rfl (hns _ (.tail _ (.head _)))
    | _ + 10, h => exact absurd h (by omega)
  · refine fac ?_ (fac ?_ (fan))
    · intro a w' hb hiv hk hp ho hf
      exact sN_I (hp 6 rfl) (hp 2 rfl) (hp 2 rfl) hB3.size (hf 6 (.head _)) (fun _ _ => trivial)
    · intro a w' hb hiv hk hp ho hf
      exact sN_I (hp 7 rfl) (hp 5 rfl) (hp 5 rfl) hB3.size (hf 7 (.tail _ (.head _))) (fun _ _ => trivial)
  intro a4 w4 hb4 hd4 hs4 hk4 hiv4 hsp4 hst4 hds4
  have hB4 := hB3.trans hb4
  replace hd4 := hd4.trans hd3
  obtain ⟨⟨n2_4, i2_4⟩, ⟨n3_4, i3_4⟩, ⟨n4_4, i4_4⟩, ⟨n5_4, i5_4⟩, ⟨n6_4, i6_4⟩, ⟨n7_4, i7_4⟩, _⟩ := hiv4
  have t2_4 := (hk4 2 (by decide)).trans t2_3
  have t3_4 := (hk4 3 (by decide)).trans t3_3
  have t4_4 := (hk4 4 (by decide)).trans t4_3
  have t7_4 := (hk4 7 (by decide)).trans t7_3
  obtain ⟨r8_4, v8_4, t8_4, b8_4, n8_4, I8_4⟩ := tnI (k := 8) (hst4 _ (.head _)) (hsp4 6 (by decide) (fac (nq rfl) (fac (nq rfl) fan))) hB3.size (by omega)
  obtain ⟨r9_4, v9_4, t9_4, b9_4, n9_4, I9_4⟩ := tnI (k := 9) (hst4 _ (.tail _ (.head _))) (hsp4 7 (by decide) (fac (nq rfl) (fac (nq rfl) fan))) hB3.size (by omega)
  have ne4_8_4 : r4_1 ≠ r8_4 := by have := n4_3.lt; have := b8_4.2; omega
  have ne4_9_4 : r4_1 ≠ r9_4 := by have := n4_3.lt; have := b9_4.2; omega
  clear hb4 hk4 hsp4 hst4 hds4
  refine wp_seq ?_
  refine fx3 (fun r => r = r4_1) (fun _ _ => True) (l := regionOf Tryz.f43 4) true (by kernel_rfl) 14 36 w.heap.size [2, 3, 4, 7, 8, 9]
    [Xval _ _ (.pointer (some ⟨r2_1, 0, none⟩)), Xnum _ _ p, Xnum _ _ ((bel (c)) / ((Int.gcd (bel (b)) (bel (c)) : Int))), Xnum _ _ (p * ((bel (c)) / ((Int.gcd (bel (b)) (bel (c)) : Int)))), Xval _ _ (.pointer (some ⟨r3_1, 0, none⟩)), Xnum _ _ q, Xnum _ _ ((bel (b)) / ((Int.gcd (bel (b)) (bel (c)) : Int))), Xnum _ _ (q * ((bel (b)) / ((Int.gcd (bel (b)) (bel (c)) : Int)))), Xnum _ _ ((bel (c)) / ((Int.gcd (bel (b)) (bel (c)) : Int))), Xnum _ _ ((bel (b)) / ((Int.gcd (bel (b)) (bel (c)) : Int))), Xnum _ _ (((bel (c)) / ((Int.gcd (bel (b)) (bel (c)) : Int))) * ((bel (b)) / ((Int.gcd (bel (b)) (bel (c)) : Int)))), Xnum _ _ (Int.gcd (bel (b)) (bel (c)) : Int), Xpair _ _ (p * ((bel (c)) / ((Int.gcd (bel (b)) (bel (c)) : Int)))) (q * ((bel (b)) / ((Int.gcd (bel (b)) (bel (c)) : Int)))) (((bel (c)) / ((Int.gcd (bel (b)) (bel (c)) : Int))) * ((bel (b)) / ((Int.gcd (bel (b)) (bel (c)) : Int)))) (Int.gcd (bel (b)) (bel (c)) : Int), Sx.any _]
    (Sx.and (XhR r2_1 (show ¬ (r2_1 = r4_1) by have := n2_4.lt; omega) v1 (Xrat _ _ p b)) (Sx.and (XhR r3_1 (show ¬ (r3_1 = r4_1) by have := n3_4.lt; omega) v2 (Xrat _ _ q c)) (Sx.and (XhI r7_3 (show ¬ (r7_3 = r4_1) by have := n7_4.lt; omega) v7_3 (Xnum _ _ (Int.gcd (bel (b)) (bel (c)) : Int))) (Sx.and (XhI r8_4 (show ¬ (r8_4 = r4_1) by have := n8_4.lt; omega) v8_4 (Xnum _ _ ((bel (c)) / ((Int.gcd (bel (b)) (bel (c)) : Int))))) (Sx.and (XhI r9_4 (show ¬ (r9_4 = r4_1) by have := n9_4.lt; omega) v9_4 (Xnum _ _ ((bel (b)) / ((Int.gcd (bel (b)) (bel (c)) : Int))))) (Sx.any _)))))) [(4, none)] [stXX 13 4 (Xpair _ _ (p * ((bel (c)) / ((Int.gcd (bel (b)) (bel (c)) : Int)))) (q * ((bel (b)) / ((Int.gcd (bel (b)) (bel (c)) : Int)))) (((bel (c)) / ((Int.gcd (bel (b)) (bel (c)) : Int))) * ((bel (b)) / ((Int.gcd (bel (b)) (bel (c)) : Int)))) (Int.gcd (bel (b)) (bel (c)) : Int)) r4_1 zaX (Xpair _ _ 0 0 0 0)]
    (by kernel_rfl) (by kernel_rfl) (by kernel_rfl) hs4 (And.intro (And.intro n2_4 i2_4) (And.intro (And.intro n3_4 i3_4) (And.intro (And.intro n7_4 i7_4) (And.intro (And.intro n8_4 I8_4) (And.intro (And.intro n9_4 I9_4) trivial))))) hB4.size (fac (fun _ _ => trivial) fan) (show ([13] : List Nat).Nodup by decide) (fac (.inr (And.intro (show (4 : Nat) ∈ ([2, 3, 4, 7, 8, 9] : List Nat) by decide) (And.intro (.head _) (getD_of t4_4)))) fan) (fac (And.intro n4_4 i4_4) fan) (fac (fun _ => ⟨r4_1, getD_of t4_4, n4_4.lt⟩) fan) (dis_one rfl) (fac (fun i hi => by cases hi) fan) ?_ ?_ ?_
  · intro i hi hns a w' hb hiv hk hp hold
    obtain ⟨⟨n2, i2⟩, ⟨n3, i3⟩, ⟨n7, i7⟩, ⟨n8, i8⟩, ⟨n9, i9⟩, _⟩ := hiv
    have k2 := (hk 2 (by decide)).trans t2_4
    have k3 := (hk 3 (by decide)).trans t3_4
    have k7 := (hk 7 (by decide)).trans t7_4
    have k8 := (hk 8 (by decide)).trans t8_4
    have k9 := (hk 9 (by decide)).trans t9_4
    match i, hi with
    | 0, _ => exact s_field k2 field_R0 rfl (gf rfl)
    | 1, _ =>
      obtain ⟨u, hr, hu⟩ := ldR0 n2 i2
      exact s_loadP (hp 0 rfl) hr hu (gf rfl)
    | 2, _ => exact s_load k8 (load_bx n8) i8 (gf rfl)
    | 3, _ => exact s_call2 enter_Mul (mul_any _ _ (p) ((bel (c)) / ((Int.gcd (bel (b)) (bel (c)) : Int))) w' (hp 1 rfl) (hp 2 rfl) (le4 gp (by decide)) (le4 (ediv_lt (bel_lt gc)) (by decide))) (gf rfl)
    | 4, _ => exact s_field k3 field_R0 rfl (gf rfl)
    | 5, _ =>
      obtain ⟨u, hr, hu⟩ := ldR0 n3 i3
      exact s_loadP (hp 4 rfl) hr hu (gf rfl)
    | 6, _ => exact s_load k9 (load_bx n9) i9 (gf rfl)
    | 7, _ => exact s_call2 enter_Mul (mul_any _ _ (q) ((bel (b)) / ((Int.gcd (bel (b)) (bel (c)) : Int))) w' (hp 5 rfl) (hp 6 rfl) (le4 gq (by decide)) (le4 (ediv_lt (bel_lt gb)) (by decide))) (gf rfl)
    | 8, _ => exact s_load k8 (load_bx n8) i8 (gf rfl)
    | 9, _ => exact s_load k9 (load_bx n9) i9 (gf rfl)
    | 10, _ => exact s_call2 enter_Mul (mul_any _ _ ((bel (c)) / ((Int.gcd (bel (b)) (bel (c)) : Int))) ((bel (b)) / ((Int.gcd (bel (b)) (bel (c)) : Int))) w' (hp 8 rfl) (hp 9 rfl) (le4 (ediv_lt (bel_lt gc)) (by decide)) (le4 (ediv_lt (bel_lt gb)) (by decide))) (gf rfl)
    | 11, _ => exact s_load k7 (load_bx n7) i7 (gf rfl)
    | 12, _ => exact s_bldX (hp 3 rfl) (hp 7 rfl) (hp 10 rfl) (hp 11 rfl) (fun _ h => h) (gf rfl)
    | 13, _ => exact absurd rfl (hns _ (.head _))
    | _ + 14, h => exact absurd h (by omega)
  · refine fac ?_ (fan)
    · intro a w' hb hiv hk hp ho hf
      exact sX_X ((hk 4 (by decide)).trans t4_4) ho.1 (hp 12 rfl) (hp 12 rfl) b4_1.1 (by simp) trivial
  intro a5 w5 hb5 hd5 hs5 hk5 hiv5 hsp5 hst5 hds5
  have hB5 := hB4.trans hb5
  replace hd5 := hd5.trans hd4
  obtain ⟨⟨n2_5, i2_5⟩, ⟨n3_5, i3_5⟩, ⟨n7_5, i7_5⟩, ⟨n8_5, i8_5⟩, ⟨n9_5, i9_5⟩, _⟩ := hiv5
  have t4_5 := (hk5 4 (by decide)).trans t4_4
  obtain ⟨v4_5, n4_5, I4_5⟩ := txX (hst5 _ (.head _)) t4_5
  clear hb5 hk5 hsp5 hst5 hds5
  refine wp_ret ?_
  repeat first | refine then_ret ?_ | refine inBlock_ret ?_
  refine bodyPost_ret (res_X rfl t4_5 n4_5) hd5 ⟨_, rfl, hB5, ?_⟩
  exact I4_5

end Go.Proofs.YtlcfldkmojpkpaaGreatDoor

namespace Go.Proofs.YtlcfldkmojpkpaaGreatDoor
open Go Go.RowKit

theorem enter_join : Enters Tryz.prog 44 := ⟨fun xs w => by go_simp⟩
def jnT (t g : Int) : Int := t / (Int.gcd t g : Int)
def jnB (t g s : Int) : Int := (g / (Int.gcd t g : Int)) * s
theorem le0n {z : Int} {k : Nat} (h : (z.natAbs : Int) < pw k) (hk : k ≤ 1450) : (z.natAbs : Int) < pw 1450 := Int.lt_of_lt_of_le h (pw_mono hk)
set_option maxRecDepth 100000 in
set_option maxHeartbeats 1600000 in
theorem join_add (v1 v2 : Value) (z0 z1 z2 z3 y : Int) (_g0 : (z0.natAbs : Int) < pw 1450) (g1 : (z1.natAbs : Int) < pw 1450) (g2 : (z2.natAbs : Int) < pw 1450) (g3 : (z3.natAbs : Int) < pw 1450) (gy : (y.natAbs : Int) < pw 1450) (w : World) (i0 : IsX w v1 z0 z1 z2 z3) (i1 : IsF w v2 30 y) :
    Calls Tryz.prog 44 #[v1, v2] w fun e w' => ∃ r, e = .returned r ∧ Below w.heap.size w w' ∧ IsR w' r (jnT (y + z1) z3) (lowB (jnB (y + z1) z3 z2)) := by
  refine calls_act (fn := Tryz.f44) (by kernel_rfl) rfl (N := 26) (by kernel_rfl) (by simp) ?_
  intro a0 hs0 hd0 hx0
  have t0 : a0.tmps[0]? = some v1 := hx0 0 _ rfl
  have t1 : a0.tmps[1]? = some v2 := hx0 1 _ rfl
  clear hx0
  have hB0 : Below w.heap.size w w := Below.refl _ _
  refine wp_seq ?_
  refine fxN (fun _ => False) (fun _ _ => True) (l := regionOf Tryz.f44 0) false (by kernel_rfl) 2 26 w.heap.size [0, 1]
    [XoX _ w.heap.size v1 (Xpair _ _ z0 z1 z2 z3), XoR _ w.heap.size zaR (Xrat _ _ 0 0)]
    (Sx.and (Sx.at (Xpair _ _ z0 z1 z2 z3) v1) (Sx.and (Sx.at (Xfun _ _ 30 y) v2) (Sx.any _))) [(2, some 0), (4, some 1)] [] (by kernel_rfl) (by kernel_rfl) (by kernel_rfl) hs0 (And.intro i0 (And.intro i1 trivial)) hB0.size List.nodup_nil fan (fac (npX rfl) (fac (npR rfl) fan)) ?_ ?_ ?_
  · intro i hi hns a w' hb hiv hk hp hold
    obtain ⟨i0, i1, _⟩ := hiv
    have k0 := (hk 0 (by decide)).trans t0
    match i, hi with
    | 0, _ => exact sB_X hb.size k0 i0 i0 rfl
    | 1, _ => exact sO_R hb.size isR_zero rfl
    | _ + 2, h => exact absurd h (by omega)
  · exact fan
  intro a1 w1 hb1 hd1 hs1 hk1 hiv1 hsp1 hst1 hds1
  have hB1 := hB0.trans hb1
  replace hd1 := hd1.trans hd0
  obtain ⟨i0_1, i1_1, _⟩ := hiv1
  have t1_1 := (hk1 1 (by decide)).trans t1
  obtain ⟨r2_1, t2_1, b2_1, n2_1, I2_1⟩ := toX (k := 2) (hsp1 0 (by decide) fan) hB0.size (by omega)
  obtain ⟨r4_1, t4_1, b4_1, n4_1, I4_1⟩ := toR (k := 4) (hsp1 1 (by decide) fan) hB0.size (by omega)
  have ne2_4_1 : r2_1 ≠ r4_1 := ne_ptr (hds1 (2, some 0) (.head _) (4, some 1) (.tail _ (.head _)) (by decide)) t2_1 t4_1
  clear hb1 hk1 hsp1 hst1 hds1
  refine wp_seq ?_
  refine fxN (fun r => w1.heap.size ≤ r) (fun _ _ => True) (l := regionOf Tryz.f44 1) false (by kernel_rfl) 6 26 w.heap.size [1, 2, 4]
    [Xfun _ _ 30 y, Xval _ _ (.pointer (some ⟨r2_1, 2, none⟩)), Xnum _ _ z1, Xnum _ _ (y + z1), Sx.box _ w1.heap.size 26, Sx.any _]
    (Sx.and (Sx.at (Xfun _ _ 30 y) v2) (Sx.and (XhX r2_1 (Nat.not_le_of_lt n2_1.lt) v1 (Xpair _ _ z0 z1 z2 z3)) (Sx.and (XhR r4_1 (Nat.not_le_of_lt n4_1.lt) zaR (Xrat _ _ 0 0)) (Sx.any _)))) [(5, some 4)] [stNI 5 5 (Xnum _ _ (y + z1))] (by kernel_rfl) (by kernel_rfl) (by kernel_rfl) hs1 (And.intro i1_1 (And.intro (And.intro n2_1 I2_1) (And.intro (And.intro n4_1 I4_1) trivial))) hB1.size (show ([5] : List Nat).Nodup by decide) (fac nst fan) (fac (nby rfl) fan) ?_ ?_ ?_
  · intro i hi hns a w' hb hiv hk hp hold
    obtain ⟨i1, ⟨n2, i2⟩, ⟨n4, i4⟩, _⟩ := hiv
    have k1 := (hk 1 (by decide)).trans t1_1
    have k2 := (hk 2 (by decide)).trans t2_1
    match i, hi with
    | 0, _ => exact s_kmove k1 i1 (gf rfl)
    | 1, _ => exact s_field k2 field_X1 rfl (gf rfl)
    | 2, _ =>
      obtain ⟨u, hr, hu⟩ := ldX1 n2 i2
      exact s_loadP (hp 1 rfl) hr hu (gf rfl)
    | 3, _ => exact s_callF enter_Add (hp 0 rfl) (fun _ h0 => add_any _ _ (y) (z1) w' h0 (hp 2 rfl) (le4 gy (by decide)) (le4 g1 (by decide))) (gf rfl)
    | 4, _ => exact sA_I hb.size hb.size (fac (zI w') fan)
    | 5, _ => exact absurd rfl (hns _ (.head _))
    | _ + 6, h => exact absurd h (by omega)
  · refine fac ?_ (fan)
    · intro a w' hb hiv hk hp ho hf
      exact sN_I (hp 4 rfl) (hp 3 rfl) (hp 3 rfl) hB1.size (hf 4 (.head _)) (fun _ _ => trivial)
  intro a2 w2 hb2 hd2 hs2 hk2 hiv2 hsp2 hst2 hds2
  have hB2 := hB1.trans hb2
  replace hd2 := hd2.trans hd1
  obtain ⟨i1_2, ⟨n2_2, i2_2⟩, ⟨n4_2, i4_2⟩, _⟩ := hiv2
  have t2_2 := (hk2 2 (by decide)).trans t2_1
  have t4_2 := (hk2 4 (by decide)).trans t4_1
  obtain ⟨r5_2, v5_2, t5_2, b5_2, n5_2, I5_2⟩ := tnI (k := 5) (hst2 _ (.head _)) (hsp2 4 (by decide) (fac (nq rfl) fan)) hB1.size (by omega)
  have ne4_5_2 : r4_1 ≠ r5_2 := by have := n4_1.lt; have := b5_2.2; omega
  clear hb2 hk2 hsp2 hst2 hds2
  refine wp_seq ?_
  refine fxN (fun r => w2.heap.size ≤ r) (fun _ _ => True) (l := regionOf Tryz.f44 2) false (by kernel_rfl) 6 26 w.heap.size [2, 4, 5]
    [Xnum _ _ (y + z1), Xval _ _ (.pointer (some ⟨r2_1, 6, none⟩)), Xnum _ _ z3, Xnum _ _ (Int.gcd (y + z1) (z3) : Int), Sx.box _ w2.heap.size 26, Sx.any _]
    (Sx.and (XhX r2_1 (Nat.not_le_of_lt n2_2.lt) v1 (Xpair _ _ z0 z1 z2 z3)) (Sx.and (XhR r4_1 (Nat.not_le_of_lt n4_2.lt) zaR (Xrat _ _ 0 0)) (Sx.and (XhI r5_2 (Nat.not_le_of_lt n5_2.lt) v5_2 (Xnum _ _ (y + z1))) (Sx.any _)))) [(6, some 4)] [stNI 5 6 (Xnum _ _ (Int.gcd (y + z1) (z3) : Int))] (by kernel_rfl) (by kernel_rfl) (by kernel_rfl) hs2 (And.intro (And.intro n2_2 i2_2) (And.intro (And.intro n4_2 i4_2) (And.intro (And.intro n5_2 I5_2) trivial))) hB2.size (show ([5] : List Nat).Nodup by decide) (fac nst fan) (fac (nby rfl) fan) ?_ ?_ ?_
  · intro i hi hns a w' hb hiv hk hp hold
    obtain ⟨⟨n2, i2⟩, ⟨n4, i4⟩, ⟨n5, i5⟩, _⟩ := hiv
    have k2 := (hk 2 (by decide)).trans t2_2
    have k5 := (hk 5 (by decide)).trans t5_2
    match i, hi with
    | 0, _ => exact s_load k5 (load_bx n5) i5 (gf rfl)
    | 1, _ => exact s_field k2 field_X3 rfl (gf rfl)
    | 2, _ =>
      obtain ⟨u, hr, hu⟩ := ldX3 n2 i2
      exact s_loadP (hp 1 rfl) hr hu (gf rfl)
    | 3, _ => exact s_call2 enter_Gcd (gcd_any quoLong_any _ _ (y + z1) (z3) w' (hp 0 rfl) (hp 2 rfl) (le4 (add_lt2 gy g1) (by decide)) (le4 g3 (by decide))) (gf rfl)
    | 4, _ => exact sA_I hb.size hb.size (fac (zI w') fan)
    | 5, _ => exact absurd rfl (hns _ (.head _))
    | _ + 6, h => exact absurd h (by omega)
  · refine fac ?_ (fan)
    · intro a w' hb hiv hk hp ho hf
      exact sN_I (hp 4 rfl) (hp 3 rfl) (hp 3 rfl) hB2.size (hf 4 (.head _)) (fun _ _ => trivial)
  intro a3 w3 hb3 hd3 hs3 hk3 hiv3 hsp3 hst3 hds3
  have hB3 := hB2.trans hb3
  replace hd3 := hd3.trans hd2
  obtain ⟨⟨n2_3, i2_3⟩, ⟨n4_3, i4_3⟩, ⟨n5_3, i5_3⟩, _⟩ := hiv3
  have t2_3 := (hk3 2 (by decide)).trans t2_2
  have t4_3 := (hk3 4 (by decide)).trans t4_2
  have t5_3 := (hk3 5 (by decide)).trans t5_2
  obtain ⟨r6_3, v6_3, t6_3, b6_3, n6_3, I6_3⟩ := tnI (k := 6) (hst3 _ (.head _)) (hsp3 4 (by decide) (fac (nq rfl) fan)) hB2.size (by omega)
  have ne4_6_3 : r4_1 ≠ r6_3 := by have := n4_2.lt; have := b6_3.2; omega
  clear hb3 hk3 hsp3 hst3 hds3
  refine wp_seq ?_
  refine fx3 (fun r => r = r4_1) (fun _ _ => True) (l := regionOf Tryz.f44 3) true (by kernel_rfl) 12 26 w.heap.size [2, 4, 5, 6]
    [Xnum _ _ (y + z1), Xnum _ _ (Int.gcd (y + z1) (z3) : Int), Xnum _ _ ((y + z1) / ((Int.gcd (y + z1) (z3) : Int))), Xval _ _ (.pointer (some ⟨r2_1, 6, none⟩)), Xnum _ _ z3, Xnum _ _ (Int.gcd (y + z1) (z3) : Int), Xnum _ _ (z3 / ((Int.gcd (y + z1) (z3) : Int))), Xval _ _ (.pointer (some ⟨r2_1, 4, none⟩)), Xnum _ _ z2, Xnum _ _ ((z3 / ((Int.gcd (y + z1) (z3) : Int))) * z2), Xrat _ _ ((y + z1) / ((Int.gcd (y + z1) (z3) : Int))) (lowB ((z3 / ((Int.gcd (y + z1) (z3) : Int))) * z2)), Sx.any _]
    (Sx.and (XhX r2_1 (show ¬ (r2_1 = r4_1) by have := n2_3.lt; omega) v1 (Xpair _ _ z0 z1 z2 z3)) (Sx.and (XhI r5_2 (show ¬ (r5_2 = r4_1) by have := n5_3.lt; omega) v5_2 (Xnum _ _ (y + z1))) (Sx.and (XhI r6_3 (show ¬ (r6_3 = r4_1) by have := n6_3.lt; omega) v6_3 (Xnum _ _ (Int.gcd (y + z1) (z3) : Int))) (Sx.any _)))) [(4, none)] [stXR 11 4 (Xrat _ _ ((y + z1) / ((Int.gcd (y + z1) (z3) : Int))) (lowB ((z3 / ((Int.gcd (y + z1) (z3) : Int))) * z2))) r4_1 zaR (Xrat _ _ 0 0)]
    (by kernel_rfl) (by kernel_rfl) (by kernel_rfl) hs3 (And.intro (And.intro n2_3 i2_3) (And.intro (And.intro n5_3 i5_3) (And.intro (And.intro n6_3 I6_3) trivial))) hB3.size (fac (fun _ _ => trivial) fan) (show ([11] : List Nat).Nodup by decide) (fac (.inr (And.intro (show (4 : Nat) ∈ ([2, 4, 5, 6] : List Nat) by decide) (And.intro (.head _) (getD_of t4_3)))) fan) (fac (And.intro n4_3 i4_3) fan) (fac (fun _ => ⟨r4_1, getD_of t4_3, n4_3.lt⟩) fan) (dis_one rfl) (fac (fun i hi => by cases hi) fan) ?_ ?_ ?_
  · intro i hi hns a w' hb hiv hk hp hold
    obtain ⟨⟨n2, i2⟩, ⟨n5, i5⟩, ⟨n6, i6⟩, _⟩ := hiv
    have k2 := (hk 2 (by decide)).trans t2_3
    have k5 := (hk 5 (by decide)).trans t5_3
    have k6 := (hk 6 (by decide)).trans t6_3
    match i, hi with
    | 0, _ => exact s_load k5 (load_bx n5) i5 (gf rfl)
    | 1, _ => exact s_load k6 (load_bx n6) i6 (gf rfl)
    | 2, _ => exact s_call2 enter_part (part_any _ _ (y + z1) ((Int.gcd (y + z1) (z3) : Int)) (le3n (add_lt2 gy g1) (by decide)) (le3n (gcd_lt2 (add_lt2 gy g1) g3) (by decide)) w' (hp 0 rfl) (hp 1 rfl)) (gf rfl)
    | 3, _ => exact s_field k2 field_X3 rfl (gf rfl)
    | 4, _ =>
      obtain ⟨u, hr, hu⟩ := ldX3 n2 i2
      exact s_loadP (hp 3 rfl) hr hu (gf rfl)
    | 5, _ => exact s_load k6 (load_bx n6) i6 (gf rfl)
    | 6, _ => exact s_call2 enter_part (part_any _ _ (z3) ((Int.gcd (y + z1) (z3) : Int)) (le3n g3 (by decide)) (le3n (gcd_lt2 (add_lt2 gy g1) g3) (by decide)) w' (hp 4 rfl) (hp 5 rfl)) (gf rfl)
    | 7, _ => exact s_field k2 field_X2 rfl (gf rfl)
    | 8, _ =>
      obtain ⟨u, hr, hu⟩ := ldX2 n2 i2
      exact s_loadP (hp 7 rfl) hr hu (gf rfl)
    | 9, _ => exact s_call2 enter_Mul (mul_any _ _ (z3 / ((Int.gcd (y + z1) (z3) : Int))) (z2) w' (hp 6 rfl) (hp 8 rfl) (le4 (ediv_lt g3) (by decide)) (le4 g2 (by decide))) (gf rfl)
    | 10, _ => exact s_call2 enter_low (low_any _ _ ((y + z1) / ((Int.gcd (y + z1) (z3) : Int))) ((z3 / ((Int.gcd (y + z1) (z3) : Int))) * z2) (le3n (ediv_lt (add_lt2 gy g1)) (by decide)) (le3n (mul_lt (ediv_lt g3) g2) (by decide)) w' (hp 2 rfl) (hp 9 rfl)) (gf rfl)
    | 11, _ => exact absurd rfl (hns _ (.head _))
    | _ + 12, h => exact absurd h (by omega)
  · refine fac ?_ (fan)
    · intro a w' hb hiv hk hp ho hf
      exact sX_R ((hk 4 (by decide)).trans t4_3) ho.1 (hp 10 rfl) (hp 10 rfl) b4_1.1 (by simp) trivial
  intro a4 w4 hb4 hd4 hs4 hk4 hiv4 hsp4 hst4 hds4
  have hB4 := hB3.trans hb4
  replace hd4 := hd4.trans hd3
  obtain ⟨⟨n2_4, i2_4⟩, ⟨n5_4, i5_4⟩, ⟨n6_4, i6_4⟩, _⟩ := hiv4
  have t4_4 := (hk4 4 (by decide)).trans t4_3
  obtain ⟨v4_4, n4_4, I4_4⟩ := txR (hst4 _ (.head _)) t4_4
  clear hb4 hk4 hsp4 hst4 hds4
  refine wp_ret ?_
  repeat first | refine then_ret ?_ | refine inBlock_ret ?_
  refine bodyPost_ret (res_R rfl t4_4 n4_4) hd4 ⟨_, rfl, hB4, ?_⟩
  exact I4_4

set_option maxRecDepth 100000 in
set_option maxHeartbeats 1600000 in
theorem join_sub (v1 v2 : Value) (z0 z1 z2 z3 y : Int) (_g0 : (z0.natAbs : Int) < pw 1450) (g1 : (z1.natAbs : Int) < pw 1450) (g2 : (z2.natAbs : Int) < pw 1450) (g3 : (z3.natAbs : Int) < pw 1450) (gy : (y.natAbs : Int) < pw 1450) (w : World) (i0 : IsX w v1 z0 z1 z2 z3) (i1 : IsF w v2 46 y) :
    Calls Tryz.prog 44 #[v1, v2] w fun e w' => ∃ r, e = .returned r ∧ Below w.heap.size w w' ∧ IsR w' r (jnT (y - z1) z3) (lowB (jnB (y - z1) z3 z2)) := by
  refine calls_act (fn := Tryz.f44) (by kernel_rfl) rfl (N := 26) (by kernel_rfl) (by simp) ?_
  intro a0 hs0 hd0 hx0
  have t0 : a0.tmps[0]? = some v1 := hx0 0 _ rfl
  have t1 : a0.tmps[1]? = some v2 := hx0 1 _ rfl
  clear hx0
  have hB0 : Below w.heap.size w w := Below.refl _ _
  refine wp_seq ?_
  refine fxN (fun _ => False) (fun _ _ => True) (l := regionOf Tryz.f44 0) false (by kernel_rfl) 2 26 w.heap.size [0, 1]
    [XoX _ w.heap.size v1 (Xpair _ _ z0 z1 z2 z3), XoR _ w.heap.size zaR (Xrat _ _ 0 0)]
    (Sx.and (Sx.at (Xpair _ _ z0 z1 z2 z3) v1) (Sx.and (Sx.at (Xfun _ _ 46 y) v2) (Sx.any _))) [(2, some 0), (4, some 1)] [] (by kernel_rfl) (by kernel_rfl) (by kernel_rfl) hs0 (And.intro i0 (And.intro i1 trivial)) hB0.size List.nodup_nil fan (fac (npX rfl) (fac (npR rfl) fan)) ?_ ?_ ?_
  · intro i hi hns a w' hb hiv hk hp hold
    obtain ⟨i0, i1, _⟩ := hiv
    have k0 := (hk 0 (by decide)).trans t0
    match i, hi with
    | 0, _ => exact sB_X hb.size k0 i0 i0 rfl
    | 1, _ => exact sO_R hb.size isR_zero rfl
    | _ + 2, h => exact absurd h (by omega)
  · exact fan
  intro a1 w1 hb1 hd1 hs1 hk1 hiv1 hsp1 hst1 hds1
  have hB1 := hB0.trans hb1
  replace hd1 := hd1.trans hd0
  obtain ⟨i0_1, i1_1, _⟩ := hiv1
  have t1_1 := (hk1 1 (by decide)).trans t1
  obtain ⟨r2_1, t2_1, b2_1, n2_1, I2_1⟩ := toX (k := 2) (hsp1 0 (by decide) fan) hB0.size (by omega)
  obtain ⟨r4_1, t4_1, b4_1, n4_1, I4_1⟩ := toR (k := 4) (hsp1 1 (by decide) fan) hB0.size (by omega)
  have ne2_4_1 : r2_1 ≠ r4_1 := ne_ptr (hds1 (2, some 0) (.head _) (4, some 1) (.tail _ (.head _)) (by decide)) t2_1 t4_1
  clear hb1 hk1 hsp1 hst1 hds1
  refine wp_seq ?_
  refine fxN (fun r => w1.heap.size ≤ r) (fun _ _ => True) (l := regionOf Tryz.f44 1) false (by kernel_rfl) 6 26 w.heap.size [1, 2, 4]
    [Xfun _ _ 46 y, Xval _ _ (.pointer (some ⟨r2_1, 2, none⟩)), Xnum _ _ z1, Xnum _ _ (y - z1), Sx.box _ w1.heap.size 26, Sx.any _]
    (Sx.and (Sx.at (Xfun _ _ 46 y) v2) (Sx.and (XhX r2_1 (Nat.not_le_of_lt n2_1.lt) v1 (Xpair _ _ z0 z1 z2 z3)) (Sx.and (XhR r4_1 (Nat.not_le_of_lt n4_1.lt) zaR (Xrat _ _ 0 0)) (Sx.any _)))) [(5, some 4)] [stNI 5 5 (Xnum _ _ (y - z1))] (by kernel_rfl) (by kernel_rfl) (by kernel_rfl) hs1 (And.intro i1_1 (And.intro (And.intro n2_1 I2_1) (And.intro (And.intro n4_1 I4_1) trivial))) hB1.size (show ([5] : List Nat).Nodup by decide) (fac nst fan) (fac (nby rfl) fan) ?_ ?_ ?_
  · intro i hi hns a w' hb hiv hk hp hold
    obtain ⟨i1, ⟨n2, i2⟩, ⟨n4, i4⟩, _⟩ := hiv
    have k1 := (hk 1 (by decide)).trans t1_1
    have k2 := (hk 2 (by decide)).trans t2_1
    match i, hi with
    | 0, _ => exact s_kmove k1 i1 (gf rfl)
    | 1, _ => exact s_field k2 field_X1 rfl (gf rfl)
    | 2, _ =>
      obtain ⟨u, hr, hu⟩ := ldX1 n2 i2
      exact s_loadP (hp 1 rfl) hr hu (gf rfl)
    | 3, _ => exact s_callF enter_Sub (hp 0 rfl) (fun _ h0 => sub_any _ _ (y) (z1) w' h0 (hp 2 rfl) (le4 gy (by decide)) (le4 g1 (by decide))) (gf rfl)
    | 4, _ => exact sA_I hb.size hb.size (fac (zI w') fan)
    | 5, _ => exact absurd rfl (hns _ (.head _))
    | _ + 6, h => exact absurd h (by omega)
  · refine fac ?_ (fan)
    · intro a w' hb hiv hk hp ho hf
      exact sN_I (hp 4 rfl) (hp 3 rfl) (hp 3 rfl) hB1.size (hf 4 (.head _)) (fun _ _ => trivial)
  intro a2 w2 hb2 hd2 hs2 hk2 hiv2 hsp2 hst2 hds2
  have hB2 := hB1.trans hb2
  replace hd2 := hd2.trans hd1
  obtain ⟨i1_2, ⟨n2_2, i2_2⟩, ⟨n4_2, i4_2⟩, _⟩ := hiv2
  have t2_2 := (hk2 2 (by decide)).trans t2_1
  have t4_2 := (hk2 4 (by decide)).trans t4_1
  obtain ⟨r5_2, v5_2, t5_2, b5_2, n5_2, I5_2⟩ := tnI (k := 5) (hst2 _ (.head _)) (hsp2 4 (by decide) (fac (nq rfl) fan)) hB1.size (by omega)
  have ne4_5_2 : r4_1 ≠ r5_2 := by have := n4_1.lt; have := b5_2.2; omega
  clear hb2 hk2 hsp2 hst2 hds2
  refine wp_seq ?_
  refine fxN (fun r => w2.heap.size ≤ r) (fun _ _ => True) (l := regionOf Tryz.f44 2) false (by kernel_rfl) 6 26 w.heap.size [2, 4, 5]
    [Xnum _ _ (y - z1), Xval _ _ (.pointer (some ⟨r2_1, 6, none⟩)), Xnum _ _ z3, Xnum _ _ (Int.gcd (y - z1) (z3) : Int), Sx.box _ w2.heap.size 26, Sx.any _]
    (Sx.and (XhX r2_1 (Nat.not_le_of_lt n2_2.lt) v1 (Xpair _ _ z0 z1 z2 z3)) (Sx.and (XhR r4_1 (Nat.not_le_of_lt n4_2.lt) zaR (Xrat _ _ 0 0)) (Sx.and (XhI r5_2 (Nat.not_le_of_lt n5_2.lt) v5_2 (Xnum _ _ (y - z1))) (Sx.any _)))) [(6, some 4)] [stNI 5 6 (Xnum _ _ (Int.gcd (y - z1) (z3) : Int))] (by kernel_rfl) (by kernel_rfl) (by kernel_rfl) hs2 (And.intro (And.intro n2_2 i2_2) (And.intro (And.intro n4_2 i4_2) (And.intro (And.intro n5_2 I5_2) trivial))) hB2.size (show ([5] : List Nat).Nodup by decide) (fac nst fan) (fac (nby rfl) fan) ?_ ?_ ?_
  · intro i hi hns a w' hb hiv hk hp hold
    obtain ⟨⟨n2, i2⟩, ⟨n4, i4⟩, ⟨n5, i5⟩, _⟩ := hiv
    have k2 := (hk 2 (by decide)).trans t2_2
    have k5 := (hk 5 (by decide)).trans t5_2
    match i, hi with
    | 0, _ => exact s_load k5 (load_bx n5) i5 (gf rfl)
    | 1, _ => exact s_field k2 field_X3 rfl (gf rfl)
    | 2, _ =>
      obtain ⟨u, hr, hu⟩ := ldX3 n2 i2
      exact s_loadP (hp 1 rfl) hr hu (gf rfl)
    | 3, _ => exact s_call2 enter_Gcd (gcd_any quoLong_any _ _ (y - z1) (z3) w' (hp 0 rfl) (hp 2 rfl) (le4 (sub_lt2 gy g1) (by decide)) (le4 g3 (by decide))) (gf rfl)
    | 4, _ => exact sA_I hb.size hb.size (fac (zI w') fan)
    | 5, _ => exact absurd rfl (hns _ (.head _))
    | _ + 6, h => exact absurd h (by omega)
  · refine fac ?_ (fan)
    · intro a w' hb hiv hk hp ho hf
      exact sN_I (hp 4 rfl) (hp 3 rfl) (hp 3 rfl) hB2.size (hf 4 (.head _)) (fun _ _ => trivial)
  intro a3 w3 hb3 hd3 hs3 hk3 hiv3 hsp3 hst3 hds3
  have hB3 := hB2.trans hb3
  replace hd3 := hd3.trans hd2
  obtain ⟨⟨n2_3, i2_3⟩, ⟨n4_3, i4_3⟩, ⟨n5_3, i5_3⟩, _⟩ := hiv3
  have t2_3 := (hk3 2 (by decide)).trans t2_2
  have t4_3 := (hk3 4 (by decide)).trans t4_2
  have t5_3 := (hk3 5 (by decide)).trans t5_2
  obtain ⟨r6_3, v6_3, t6_3, b6_3, n6_3, I6_3⟩ := tnI (k := 6) (hst3 _ (.head _)) (hsp3 4 (by decide) (fac (nq rfl) fan)) hB2.size (by omega)
  have ne4_6_3 : r4_1 ≠ r6_3 := by have := n4_2.lt; have := b6_3.2; omega
  clear hb3 hk3 hsp3 hst3 hds3
  refine wp_seq ?_
  refine fx3 (fun r => r = r4_1) (fun _ _ => True) (l := regionOf Tryz.f44 3) true (by kernel_rfl) 12 26 w.heap.size [2, 4, 5, 6]
    [Xnum _ _ (y - z1), Xnum _ _ (Int.gcd (y - z1) (z3) : Int), Xnum _ _ ((y - z1) / ((Int.gcd (y - z1) (z3) : Int))), Xval _ _ (.pointer (some ⟨r2_1, 6, none⟩)), Xnum _ _ z3, Xnum _ _ (Int.gcd (y - z1) (z3) : Int), Xnum _ _ (z3 / ((Int.gcd (y - z1) (z3) : Int))), Xval _ _ (.pointer (some ⟨r2_1, 4, none⟩)), Xnum _ _ z2, Xnum _ _ ((z3 / ((Int.gcd (y - z1) (z3) : Int))) * z2), Xrat _ _ ((y - z1) / ((Int.gcd (y - z1) (z3) : Int))) (lowB ((z3 / ((Int.gcd (y - z1) (z3) : Int))) * z2)), Sx.any _]
    (Sx.and (XhX r2_1 (show ¬ (r2_1 = r4_1) by have := n2_3.lt; omega) v1 (Xpair _ _ z0 z1 z2 z3)) (Sx.and (XhI r5_2 (show ¬ (r5_2 = r4_1) by have := n5_3.lt; omega) v5_2 (Xnum _ _ (y - z1))) (Sx.and (XhI r6_3 (show ¬ (r6_3 = r4_1) by have := n6_3.lt; omega) v6_3 (Xnum _ _ (Int.gcd (y - z1) (z3) : Int))) (Sx.any _)))) [(4, none)] [stXR 11 4 (Xrat _ _ ((y - z1) / ((Int.gcd (y - z1) (z3) : Int))) (lowB ((z3 / ((Int.gcd (y - z1) (z3) : Int))) * z2))) r4_1 zaR (Xrat _ _ 0 0)]
    (by kernel_rfl) (by kernel_rfl) (by kernel_rfl) hs3 (And.intro (And.intro n2_3 i2_3) (And.intro (And.intro n5_3 i5_3) (And.intro (And.intro n6_3 I6_3) trivial))) hB3.size (fac (fun _ _ => trivial) fan) (show ([11] : List Nat).Nodup by decide) (fac (.inr (And.intro (show (4 : Nat) ∈ ([2, 4, 5, 6] : List Nat) by decide) (And.intro (.head _) (getD_of t4_3)))) fan) (fac (And.intro n4_3 i4_3) fan) (fac (fun _ => ⟨r4_1, getD_of t4_3, n4_3.lt⟩) fan) (dis_one rfl) (fac (fun i hi => by cases hi) fan) ?_ ?_ ?_
  · intro i hi hns a w' hb hiv hk hp hold
    obtain ⟨⟨n2, i2⟩, ⟨n5, i5⟩, ⟨n6, i6⟩, _⟩ := hiv
    have k2 := (hk 2 (by decide)).trans t2_3
    have k5 := (hk 5 (by decide)).trans t5_3
    have k6 := (hk 6 (by decide)).trans t6_3
    match i, hi with
    | 0, _ => exact s_load k5 (load_bx n5) i5 (gf rfl)
    | 1, _ => exact s_load k6 (load_bx n6) i6 (gf rfl)
    | 2, _ => exact s_call2 enter_part (part_any _ _ (y - z1) ((Int.gcd (y - z1) (z3) : Int)) (le3n (sub_lt2 gy g1) (by decide)) (le3n (gcd_lt2 (sub_lt2 gy g1) g3) (by decide)) w' (hp 0 rfl) (hp 1 rfl)) (gf rfl)
    | 3, _ => exact s_field k2 field_X3 rfl (gf rfl)
    | 4, _ =>
      obtain ⟨u, hr, hu⟩ := ldX3 n2 i2
      exact s_loadP (hp 3 rfl) hr hu (gf rfl)
    | 5, _ => exact s_load k6 (load_bx n6) i6 (gf rfl)
    | 6, _ => exact s_call2 enter_part (part_any _ _ (z3) ((Int.gcd (y - z1) (z3) : Int)) (le3n g3 (by decide)) (le3n (gcd_lt2 (sub_lt2 gy g1) g3) (by decide)) w' (hp 4 rfl) (hp 5 rfl)) (gf rfl)
    | 7, _ => exact s_field k2 field_X2 rfl (gf rfl)
    | 8, _ =>
      obtain ⟨u, hr, hu⟩ := ldX2 n2 i2
      exact s_loadP (hp 7 rfl) hr hu (gf rfl)
    | 9, _ => exact s_call2 enter_Mul (mul_any _ _ (z3 / ((Int.gcd (y - z1) (z3) : Int))) (z2) w' (hp 6 rfl) (hp 8 rfl) (le4 (ediv_lt g3) (by decide)) (le4 g2 (by decide))) (gf rfl)
    | 10, _ => exact s_call2 enter_low (low_any _ _ ((y - z1) / ((Int.gcd (y - z1) (z3) : Int))) ((z3 / ((Int.gcd (y - z1) (z3) : Int))) * z2) (le3n (ediv_lt (sub_lt2 gy g1)) (by decide)) (le3n (mul_lt (ediv_lt g3) g2) (by decide)) w' (hp 2 rfl) (hp 9 rfl)) (gf rfl)
    | 11, _ => exact absurd rfl (hns _ (.head _))
    | _ + 12, h => exact absurd h (by omega)
  · refine fac ?_ (fan)
    · intro a w' hb hiv hk hp ho hf
      exact sX_R ((hk 4 (by decide)).trans t4_3) ho.1 (hp 10 rfl) (hp 10 rfl) b4_1.1 (by simp) trivial
  intro a4 w4 hb4 hd4 hs4 hk4 hiv4 hsp4 hst4 hds4
  have hB4 := hB3.trans hb4
  replace hd4 := hd4.trans hd3
  obtain ⟨⟨n2_4, i2_4⟩, ⟨n5_4, i5_4⟩, ⟨n6_4, i6_4⟩, _⟩ := hiv4
  have t4_4 := (hk4 4 (by decide)).trans t4_3
  obtain ⟨v4_4, n4_4, I4_4⟩ := txR (hst4 _ (.head _)) t4_4
  clear hb4 hk4 hsp4 hst4 hds4
  refine wp_ret ?_
  repeat first | refine then_ret ?_ | refine inBlock_ret ?_
  refine bodyPost_ret (res_R rfl t4_4 n4_4) hd4 ⟨_, rfl, hB4, ?_⟩
  exact I4_4

set_option maxRecDepth 100000 in
set_option maxHeartbeats 1600000 in
theorem radd_raw (v1 v2 : Value) (p b q c : Int) (gp : (p.natAbs : Int) < pw 300) (gb : (b.natAbs : Int) < pw 300) (gq : (q.natAbs : Int) < pw 300) (gc : (c.natAbs : Int) < pw 300) (w : World) (i0 : IsR w v1 p b) (i1 : IsR w v2 q c) :
    Calls Tryz.prog 12 #[v1, v2] w fun e w' => ∃ r, e = .returned r ∧ Below w.heap.size w w' ∧ IsR w' r (jnT (lvL p b c + lvR q b c) (lvG b c)) (lowB (jnB (lvL p b c + lvR q b c) (lvG b c) (lvS b c))) := by
  refine calls_act (fn := Tryz.f12) (by kernel_rfl) rfl (N := 14) (by kernel_rfl) (by simp) ?_
  intro a0 hs0 hd0 hx0
  have t0 : a0.tmps[0]? = some v1 := hx0 0 _ rfl
  have t1 : a0.tmps[1]? = some v2 := hx0 1 _ rfl
  clear hx0
  have hB0 : Below w.heap.size w w := Below.refl _ _
  refine wp_seq ?_
  refine fxN (fun _ => False) (fun _ _ => True) (l := regionOf Tryz.f12 0) false (by kernel_rfl) 3 14 w.heap.size [0, 1]
    [XoR _ w.heap.size v1 (Xrat _ _ p b), XoR _ w.heap.size v2 (Xrat _ _ q c), XoR _ w.heap.size zaR (Xrat _ _ 0 0)]
    (Sx.and (Sx.at (Xrat _ _ p b) v1) (Sx.and (Sx.at (Xrat _ _ q c) v2) (Sx.any _))) [(2, some 0), (3, some 1), (4, some 2)] [] (by kernel_rfl) (by kernel_rfl) (by kernel_rfl) hs0 (And.intro i0 (And.intro i1 trivial)) hB0.size List.nodup_nil fan (fac (npR rfl) (fac (npR rfl) (fac (npR rfl) fan))) ?_ ?_ ?_
  · intro i hi hns a w' hb hiv hk hp hold
    obtain ⟨i0, i1, _⟩ := hiv
    have k0 := (hk 0 (by decide)).trans t0
    have k1 := (hk 1 (by decide)).trans t1
    match i, hi with
    | 0, _ => exact sB_R hb.size k0 i0 i0 rfl
    | 1, _ => exact sB_R hb.size k1 i1 i1 rfl
    | 2, _ => exact sO_R hb.size isR_zero rfl
    | _ + 3, h => exact absurd h (by omega)
  · exact fan
  intro a1 w1 hb1 hd1 hs1 hk1 hiv1 hsp1 hst1 hds1
  have hB1 := hB0.trans hb1
  replace hd1 := hd1.trans hd0
  obtain ⟨i0_1, i1_1, _⟩ := hiv1
  obtain ⟨r2_1, t2_1, b2_1, n2_1, I2_1⟩ := toR (k := 2) (hsp1 0 (by decide) fan) hB0.size (by omega)
  obtain ⟨r3_1, t3_1, b3_1, n3_1, I3_1⟩ := toR (k := 3) (hsp1 1 (by decide) fan) hB0.size (by omega)
  obtain ⟨r4_1, t4_1, b4_1, n4_1, I4_1⟩ := toR (k := 4) (hsp1 2 (by decide) fan) hB0.size (by omega)
  have ne2_4_1 : r2_1 ≠ r4_1 := ne_ptr (hds1 (2, some 0) (.head _) (4, some 2) (.tail _ (.tail _ (.head _))) (by decide)) t2_1 t4_1
  have ne3_4_1 : r3_1 ≠ r4_1 := ne_ptr (hds1 (3, some 1) (.tail _ (.head _)) (4, some 2) (.tail _ (.tail _ (.head _))) (by decide)) t3_1 t4_1
  clear hb1 hk1 hsp1 hst1 hds1
  refine wp_seq ?_
  refine fxN (fun r => w1.heap.size ≤ r) (fun _ _ => True) (l := regionOf Tryz.f12 1) false (by kernel_rfl) 5 14 w.heap.size [2, 3, 4]
    [Xrat _ _ p b, Xrat _ _ q c, Xpair _ _ (lvL p b c) (lvR q b c) (lvS b c) (lvG b c), Sx.box _ w1.heap.size 68, Sx.any _]
    (Sx.and (XhR r2_1 (Nat.not_le_of_lt n2_1.lt) v1 (Xrat _ _ p b)) (Sx.and (XhR r3_1 (Nat.not_le_of_lt n3_1.lt) v2 (Xrat _ _ q c)) (Sx.and (XhR r4_1 (Nat.not_le_of_lt n4_1.lt) zaR (Xrat _ _ 0 0)) (Sx.any _)))) [(5, some 3)] [stNX 4 5 (Xpair _ _ (lvL p b c) (lvR q b c) (lvS b c) (lvG b c))] (by kernel_rfl) (by kernel_rfl) (by kernel_rfl) hs1 (And.intro (And.intro n2_1 I2_1) (And.intro (And.intro n3_1 I3_1) (And.intro (And.intro n4_1 I4_1) trivial))) hB1.size (show ([4] : List Nat).Nodup by decide) (fac nst fan) (fac (nby rfl) fan) ?_ ?_ ?_
  · intro i hi hns a w' hb hiv hk hp hold
    obtain ⟨⟨n2, i2⟩, ⟨n3, i3⟩, ⟨n4, i4⟩, _⟩ := hiv
    have k2 := (hk 2 (by decide)).trans t2_1
    have k3 := (hk 3 (by decide)).trans t3_1
    match i, hi with
    | 0, _ => exact s_load k2 (load_R n2) i2 (gf rfl)
    | 1, _ => exact s_load k3 (load_R n3) i3 (gf rfl)
    | 2, _ => exact s_call2 enter_level (level_any _ _ (p) (b) (q) (c) (le1n gp (by decide)) (le1n gb (by decide)) (le1n gq (by decide)) (le1n gc (by decide)) w' (hp 0 rfl) (hp 1 rfl)) (gf rfl)
    | 3, _ => exact sA_X hb.size hb.size (fac (zX w') fan)
    | 4, _ => exact absurd rfl (hns _ (.head _))
    | _ + 5, h => exact absurd h (by omega)
  · refine fac ?_ (fan)
    · intro a w' hb hiv hk hp ho hf
      exact sN_X (hp 3 rfl) (hp 2 rfl) (hp 2 rfl) hB1.size (hf 3 (.head _)) (fun _ _ => trivial)
  intro a2 w2 hb2 hd2 hs2 hk2 hiv2 hsp2 hst2 hds2
  have hB2 := hB1.trans hb2
  replace hd2 := hd2.trans hd1
  obtain ⟨⟨n2_2, i2_2⟩, ⟨n3_2, i3_2⟩, ⟨n4_2, i4_2⟩, _⟩ := hiv2
  have t4_2 := (hk2 4 (by decide)).trans t4_1
  obtain ⟨r5_2, v5_2, t5_2, b5_2, n5_2, I5_2⟩ := tnX (k := 5) (hst2 _ (.head _)) (hsp2 3 (by decide) (fac (nq rfl) fan)) hB1.size (by omega)
  have ne4_5_2 : r4_1 ≠ r5_2 := by have := n4_1.lt; have := b5_2.2; omega
  clear hb2 hk2 hsp2 hst2 hds2
  refine wp_seq ?_
  refine fx3 (fun r => r = r4_1) (fun _ _ => True) (l := regionOf Tryz.f12 2) false (by kernel_rfl) 6 14 w.heap.size [4, 5]
    [Xpair _ _ (lvL p b c) (lvR q b c) (lvS b c) (lvG b c), Xval _ _ (.pointer (some ⟨r5_2, 0, none⟩)), Xnum _ _ (lvL p b c), Xfun _ _ 30 (lvL p b c), Xrat _ _ (jnT ((lvL p b c) + (lvR q b c)) (lvG b c)) (lowB (jnB ((lvL p b c) + (lvR q b c)) (lvG b c) (lvS b c))), Sx.any _]
    (Sx.and (XhX r5_2 (show ¬ (r5_2 = r4_1) by have := n5_2.lt; omega) v5_2 (Xpair _ _ (lvL p b c) (lvR q b c) (lvS b c) (lvG b c))) (Sx.any _)) [(4, none)] [stXR 5 4 (Xrat _ _ (jnT ((lvL p b c) + (lvR q b c)) (lvG b c)) (lowB (jnB ((lvL p b c) + (lvR q b c)) (lvG b c) (lvS b c)))) r4_1 zaR (Xrat _ _ 0 0)]
    (by kernel_rfl) (by kernel_rfl) (by kernel_rfl) hs2 (And.intro (And.intro n5_2 I5_2) trivial) hB2.size (fac (fun _ _ => trivial) fan) (show ([5] : List Nat).Nodup by decide) (fac (.inr (And.intro (show (4 : Nat) ∈ ([4, 5] : List Nat) by decide) (And.intro (.head _) (getD_of t4_2)))) fan) (fac (And.intro n4_2 i4_2) fan) (fac (fun _ => ⟨r4_1, getD_of t4_2, n4_2.lt⟩) fan) (dis_one rfl) (fac (fun i hi => by cases hi) fan) ?_ ?_ ?_
  · intro i hi hns a w' hb hiv hk hp hold
    obtain ⟨⟨n5, i5⟩, _⟩ := hiv
    have k5 := (hk 5 (by decide)).trans t5_2
    match i, hi with
    | 0, _ => exact s_load k5 (load_X n5) i5 (gf rfl)
    | 1, _ => exact s_field k5 field_X0 rfl (gf rfl)
    | 2, _ =>
      obtain ⟨u, hr, hu⟩ := ldX0 n5 i5
      exact s_loadP (hp 1 rfl) hr hu (gf rfl)
    | 3, _ => exact s_mkF (fun _ e => ⟨_, rfl, by rw [e]; exact (hp 2 rfl)⟩) (gf rfl)
    | 4, _ => exact s_call2 enter_join (join_add _ _ (lvL p b c) (lvR q b c) (lvS b c) (lvG b c) (lvL p b c) (le0n (lvL_lt gp gc) (by decide)) (le0n (lvR_lt gq gb) (by decide)) (le0n (lvS_lt gb gc) (by decide)) (le0n (lvG_lt gb gc) (by decide)) (le0n (lvL_lt gp gc) (by decide)) w' (hp 0 rfl) (hp 3 rfl)) (gf rfl)
    | 5, _ => exact absurd rfl (hns _ (.head _))
    | _ + 6, h => exact absurd h (by omega)
  · refine fac ?_ (fan)
    · intro a w' hb hiv hk hp ho hf
      exact sX_R ((hk 4 (by decide)).trans t4_2) ho.1 (hp 4 rfl) (hp 4 rfl) b4_1.1 (by simp) trivial
  intro a3 w3 hb3 hd3 hs3 hk3 hiv3 hsp3 hst3 hds3
  have hB3 := hB2.trans hb3
  replace hd3 := hd3.trans hd2
  obtain ⟨⟨n5_3, i5_3⟩, _⟩ := hiv3
  have t4_3 := (hk3 4 (by decide)).trans t4_2
  obtain ⟨v4_3, n4_3, I4_3⟩ := txR (hst3 _ (.head _)) t4_3
  clear hb3 hk3 hsp3 hst3 hds3
  refine wp_ret ?_
  repeat first | refine then_ret ?_ | refine inBlock_ret ?_
  refine bodyPost_ret (res_R rfl t4_3 n4_3) hd3 ⟨_, rfl, hB3, ?_⟩
  exact I4_3

set_option maxRecDepth 100000 in
set_option maxHeartbeats 1600000 in
theorem rsub_raw (v1 v2 : Value) (p b q c : Int) (gp : (p.natAbs : Int) < pw 300) (gb : (b.natAbs : Int) < pw 300) (gq : (q.natAbs : Int) < pw 300) (gc : (c.natAbs : Int) < pw 300) (w : World) (i0 : IsR w v1 p b) (i1 : IsR w v2 q c) :
    Calls Tryz.prog 14 #[v1, v2] w fun e w' => ∃ r, e = .returned r ∧ Below w.heap.size w w' ∧ IsR w' r (jnT (lvL p b c - lvR q b c) (lvG b c)) (lowB (jnB (lvL p b c - lvR q b c) (lvG b c) (lvS b c))) := by
  refine calls_act (fn := Tryz.f14) (by kernel_rfl) rfl (N := 14) (by kernel_rfl) (by simp) ?_
  intro a0 hs0 hd0 hx0
  have t0 : a0.tmps[0]? = some v1 := hx0 0 _ rfl
  have t1 : a0.tmps[1]? = some v2 := hx0 1 _ rfl
  clear hx0
  have hB0 : Below w.heap.size w w := Below.refl _ _
  refine wp_seq ?_
  refine fxN (fun _ => False) (fun _ _ => True) (l := regionOf Tryz.f14 0) false (by kernel_rfl) 3 14 w.heap.size [0, 1]
    [XoR _ w.heap.size v1 (Xrat _ _ p b), XoR _ w.heap.size v2 (Xrat _ _ q c), XoR _ w.heap.size zaR (Xrat _ _ 0 0)]
    (Sx.and (Sx.at (Xrat _ _ p b) v1) (Sx.and (Sx.at (Xrat _ _ q c) v2) (Sx.any _))) [(2, some 0), (3, some 1), (4, some 2)] [] (by kernel_rfl) (by kernel_rfl) (by kernel_rfl) hs0 (And.intro i0 (And.intro i1 trivial)) hB0.size List.nodup_nil fan (fac (npR rfl) (fac (npR rfl) (fac (npR rfl) fan))) ?_ ?_ ?_
  · intro i hi hns a w' hb hiv hk hp hold
    obtain ⟨i0, i1, _⟩ := hiv
    have k0 := (hk 0 (by decide)).trans t0
    have k1 := (hk 1 (by decide)).trans t1
    match i, hi with
    | 0, _ => exact sB_R hb.size k0 i0 i0 rfl
    | 1, _ => exact sB_R hb.size k1 i1 i1 rfl
    | 2, _ => exact sO_R hb.size isR_zero rfl
    | _ + 3, h => exact absurd h (by omega)
  · exact fan
  intro a1 w1 hb1 hd1 hs1 hk1 hiv1 hsp1 hst1 hds1
  have hB1 := hB0.trans hb1
  replace hd1 := hd1.trans hd0
  obtain ⟨i0_1, i1_1, _⟩ := hiv1
  obtain ⟨r2_1, t2_1, b2_1, n2_1, I2_1⟩ := toR (k := 2) (hsp1 0 (by decide) fan) hB0.size (by omega)
  obtain ⟨r3_1, t3_1, b3_1, n3_1, I3_1⟩ := toR (k := 3) (hsp1 1 (by decide) fan) hB0.size (by omega)
  obtain ⟨r4_1, t4_1, b4_1, n4_1, I4_1⟩ := toR (k := 4) (hsp1 2 (by decide) fan) hB0.size (by omega)
  have ne2_4_1 : r2_1 ≠ r4_1 := ne_ptr (hds1 (2, some 0) (.head _) (4, some 2) (.tail _ (.tail _ (.head _))) (by decide)) t2_1 t4_1
  have ne3_4_1 : r3_1 ≠ r4_1 := ne_ptr (hds1 (3, some 1) (.tail _ (.head _)) (4, some 2) (.tail _ (.tail _ (.head _))) (by decide)) t3_1 t4_1
  clear hb1 hk1 hsp1 hst1 hds1
  refine wp_seq ?_
  refine fxN (fun r => w1.heap.size ≤ r) (fun _ _ => True) (l := regionOf Tryz.f14 1) false (by kernel_rfl) 5 14 w.heap.size [2, 3, 4]
    [Xrat _ _ p b, Xrat _ _ q c, Xpair _ _ (lvL p b c) (lvR q b c) (lvS b c) (lvG b c), Sx.box _ w1.heap.size 68, Sx.any _]
    (Sx.and (XhR r2_1 (Nat.not_le_of_lt n2_1.lt) v1 (Xrat _ _ p b)) (Sx.and (XhR r3_1 (Nat.not_le_of_lt n3_1.lt) v2 (Xrat _ _ q c)) (Sx.and (XhR r4_1 (Nat.not_le_of_lt n4_1.lt) zaR (Xrat _ _ 0 0)) (Sx.any _)))) [(5, some 3)] [stNX 4 5 (Xpair _ _ (lvL p b c) (lvR q b c) (lvS b c) (lvG b c))] (by kernel_rfl) (by kernel_rfl) (by kernel_rfl) hs1 (And.intro (And.intro n2_1 I2_1) (And.intro (And.intro n3_1 I3_1) (And.intro (And.intro n4_1 I4_1) trivial))) hB1.size (show ([4] : List Nat).Nodup by decide) (fac nst fan) (fac (nby rfl) fan) ?_ ?_ ?_
  · intro i hi hns a w' hb hiv hk hp hold
    obtain ⟨⟨n2, i2⟩, ⟨n3, i3⟩, ⟨n4, i4⟩, _⟩ := hiv
    have k2 := (hk 2 (by decide)).trans t2_1
    have k3 := (hk 3 (by decide)).trans t3_1
    match i, hi with
    | 0, _ => exact s_load k2 (load_R n2) i2 (gf rfl)
    | 1, _ => exact s_load k3 (load_R n3) i3 (gf rfl)
    | 2, _ => exact s_call2 enter_level (level_any _ _ (p) (b) (q) (c) (le1n gp (by decide)) (le1n gb (by decide)) (le1n gq (by decide)) (le1n gc (by decide)) w' (hp 0 rfl) (hp 1 rfl)) (gf rfl)
    | 3, _ => exact sA_X hb.size hb.size (fac (zX w') fan)
    | 4, _ => exact absurd rfl (hns _ (.head _))
    | _ + 5, h => exact absurd h (by omega)
  · refine fac ?_ (fan)
    · intro a w' hb hiv hk hp ho hf
      exact sN_X (hp 3 rfl) (hp 2 rfl) (hp 2 rfl) hB1.size (hf 3 (.head _)) (fun _ _ => trivial)
  intro a2 w2 hb2 hd2 hs2 hk2 hiv2 hsp2 hst2 hds2
  have hB2 := hB1.trans hb2
  replace hd2 := hd2.trans hd1
  obtain ⟨⟨n2_2, i2_2⟩, ⟨n3_2, i3_2⟩, ⟨n4_2, i4_2⟩, _⟩ := hiv2
  have t4_2 := (hk2 4 (by decide)).trans t4_1
  obtain ⟨r5_2, v5_2, t5_2, b5_2, n5_2, I5_2⟩ := tnX (k := 5) (hst2 _ (.head _)) (hsp2 3 (by decide) (fac (nq rfl) fan)) hB1.size (by omega)
  have ne4_5_2 : r4_1 ≠ r5_2 := by have := n4_1.lt; have := b5_2.2; omega
  clear hb2 hk2 hsp2 hst2 hds2
  refine wp_seq ?_
  refine fx3 (fun r => r = r4_1) (fun _ _ => True) (l := regionOf Tryz.f14 2) false (by kernel_rfl) 6 14 w.heap.size [4, 5]
    [Xpair _ _ (lvL p b c) (lvR q b c) (lvS b c) (lvG b c), Xval _ _ (.pointer (some ⟨r5_2, 0, none⟩)), Xnum _ _ (lvL p b c), Xfun _ _ 46 (lvL p b c), Xrat _ _ (jnT ((lvL p b c) - (lvR q b c)) (lvG b c)) (lowB (jnB ((lvL p b c) - (lvR q b c)) (lvG b c) (lvS b c))), Sx.any _]
    (Sx.and (XhX r5_2 (show ¬ (r5_2 = r4_1) by have := n5_2.lt; omega) v5_2 (Xpair _ _ (lvL p b c) (lvR q b c) (lvS b c) (lvG b c))) (Sx.any _)) [(4, none)] [stXR 5 4 (Xrat _ _ (jnT ((lvL p b c) - (lvR q b c)) (lvG b c)) (lowB (jnB ((lvL p b c) - (lvR q b c)) (lvG b c) (lvS b c)))) r4_1 zaR (Xrat _ _ 0 0)]
    (by kernel_rfl) (by kernel_rfl) (by kernel_rfl) hs2 (And.intro (And.intro n5_2 I5_2) trivial) hB2.size (fac (fun _ _ => trivial) fan) (show ([5] : List Nat).Nodup by decide) (fac (.inr (And.intro (show (4 : Nat) ∈ ([4, 5] : List Nat) by decide) (And.intro (.head _) (getD_of t4_2)))) fan) (fac (And.intro n4_2 i4_2) fan) (fac (fun _ => ⟨r4_1, getD_of t4_2, n4_2.lt⟩) fan) (dis_one rfl) (fac (fun i hi => by cases hi) fan) ?_ ?_ ?_
  · intro i hi hns a w' hb hiv hk hp hold
    obtain ⟨⟨n5, i5⟩, _⟩ := hiv
    have k5 := (hk 5 (by decide)).trans t5_2
    match i, hi with
    | 0, _ => exact s_load k5 (load_X n5) i5 (gf rfl)
    | 1, _ => exact s_field k5 field_X0 rfl (gf rfl)
    | 2, _ =>
      obtain ⟨u, hr, hu⟩ := ldX0 n5 i5
      exact s_loadP (hp 1 rfl) hr hu (gf rfl)
    | 3, _ => exact s_mkF (fun _ e => ⟨_, rfl, by rw [e]; exact (hp 2 rfl)⟩) (gf rfl)
    | 4, _ => exact s_call2 enter_join (join_sub _ _ (lvL p b c) (lvR q b c) (lvS b c) (lvG b c) (lvL p b c) (le0n (lvL_lt gp gc) (by decide)) (le0n (lvR_lt gq gb) (by decide)) (le0n (lvS_lt gb gc) (by decide)) (le0n (lvG_lt gb gc) (by decide)) (le0n (lvL_lt gp gc) (by decide)) w' (hp 0 rfl) (hp 3 rfl)) (gf rfl)
    | 5, _ => exact absurd rfl (hns _ (.head _))
    | _ + 6, h => exact absurd h (by omega)
  · refine fac ?_ (fan)
    · intro a w' hb hiv hk hp ho hf
      exact sX_R ((hk 4 (by decide)).trans t4_2) ho.1 (hp 4 rfl) (hp 4 rfl) b4_1.1 (by simp) trivial
  intro a3 w3 hb3 hd3 hs3 hk3 hiv3 hsp3 hst3 hds3
  have hB3 := hB2.trans hb3
  replace hd3 := hd3.trans hd2
  obtain ⟨⟨n5_3, i5_3⟩, _⟩ := hiv3
  have t4_3 := (hk3 4 (by decide)).trans t4_2
  obtain ⟨v4_3, n4_3, I4_3⟩ := txR (hst3 _ (.head _)) t4_3
  clear hb3 hk3 hsp3 hst3 hds3
  refine wp_ret ?_
  repeat first | refine then_ret ?_ | refine inBlock_ret ?_
  refine bodyPost_ret (res_R rfl t4_3 n4_3) hd3 ⟨_, rfl, hB3, ?_⟩
  exact I4_3

set_option maxRecDepth 100000 in
set_option maxHeartbeats 1600000 in
theorem rcmp_raw (v1 v2 : Value) (p b q c : Int) (gp : (p.natAbs : Int) < pw 300) (gb : (b.natAbs : Int) < pw 300) (gq : (q.natAbs : Int) < pw 300) (gc : (c.natAbs : Int) < pw 300) (w : World) (i0 : IsR w v1 p b) (i1 : IsR w v2 q c) :
    Calls Tryz.prog 19 #[v1, v2] w fun e w' => ∃ r, e = .returned r ∧ Below w.heap.size w w' ∧ r = .int .i64 (cmpI (lvL p b c) (lvR q b c)) := by
  refine calls_act (fn := Tryz.f19) (by kernel_rfl) rfl (N := 14) (by kernel_rfl) (by simp) ?_
  intro a0 hs0 hd0 hx0
  have t0 : a0.tmps[0]? = some v1 := hx0 0 _ rfl
  have t1 : a0.tmps[1]? = some v2 := hx0 1 _ rfl
  clear hx0
  have hB0 : Below w.heap.size w w := Below.refl _ _
  refine wp_seq ?_
  refine fxN (fun _ => False) (fun _ _ => True) (l := regionOf Tryz.f19 0) false (by kernel_rfl) 3 14 w.heap.size [0, 1]
    [XoR _ w.heap.size v1 (Xrat _ _ p b), XoR _ w.heap.size v2 (Xrat _ _ q c), Xval _ _ (.int .i64 0)]
    (Sx.and (Sx.at (Xrat _ _ p b) v1) (Sx.and (Sx.at (Xrat _ _ q c) v2) (Sx.any _))) [(2, some 0), (3, some 1)] [] (by kernel_rfl) (by kernel_rfl) (by kernel_rfl) hs0 (And.intro i0 (And.intro i1 trivial)) hB0.size List.nodup_nil fan (fac (npR rfl) (fac (npR rfl) fan)) ?_ ?_ ?_
  · intro i hi hns a w' hb hiv hk hp hold
    obtain ⟨i0, i1, _⟩ := hiv
    have k0 := (hk 0 (by decide)).trans t0
    have k1 := (hk 1 (by decide)).trans t1
    match i, hi with
    | 0, _ => exact sB_R hb.size k0 i0 i0 rfl
    | 1, _ => exact sB_R hb.size k1 i1 i1 rfl
    | 2, _ => exact s_cassign rfl (gf rfl)
    | _ + 3, h => exact absurd h (by omega)
  · exact fan
  intro a1 w1 hb1 hd1 hs1 hk1 hiv1 hsp1 hst1 hds1
  have hB1 := hB0.trans hb1
  replace hd1 := hd1.trans hd0
  obtain ⟨i0_1, i1_1, _⟩ := hiv1
  obtain ⟨r2_1, t2_1, b2_1, n2_1, I2_1⟩ := toR (k := 2) (hsp1 0 (by decide) fan) hB0.size (by omega)
  obtain ⟨r3_1, t3_1, b3_1, n3_1, I3_1⟩ := toR (k := 3) (hsp1 1 (by decide) fan) hB0.size (by omega)
  obtain ⟨v4_1, t4_1, I4_1⟩ : ∃ v, a1.tmps[4]? = some v ∧ v = (.int .i64 0) := tv_get (k := 4) (hsp1 2 (by decide) fan) (by omega)
  clear hb1 hk1 hsp1 hst1 hds1
  refine wp_seq ?_
  refine fxN (fun r => w1.heap.size ≤ r) (fun _ _ => True) (l := regionOf Tryz.f19 1) false (by kernel_rfl) 5 14 w.heap.size [2, 3, 4]
    [Xrat _ _ p b, Xrat _ _ q c, Xpair _ _ (lvL p b c) (lvR q b c) (lvS b c) (lvG b c), Sx.box _ w1.heap.size 68, Sx.any _]
    (Sx.and (XhR r2_1 (Nat.not_le_of_lt n2_1.lt) v1 (Xrat _ _ p b)) (Sx.and (XhR r3_1 (Nat.not_le_of_lt n3_1.lt) v2 (Xrat _ _ q c)) (Sx.any _))) [(5, some 3)] [stNX 4 5 (Xpair _ _ (lvL p b c) (lvR q b c) (lvS b c) (lvG b c))] (by kernel_rfl) (by kernel_rfl) (by kernel_rfl) hs1 (And.intro (And.intro n2_1 I2_1) (And.intro (And.intro n3_1 I3_1) trivial)) hB1.size (show ([4] : List Nat).Nodup by decide) (fac nst fan) (fac (nby rfl) fan) ?_ ?_ ?_
  · intro i hi hns a w' hb hiv hk hp hold
    obtain ⟨⟨n2, i2⟩, ⟨n3, i3⟩, _⟩ := hiv
    have k2 := (hk 2 (by decide)).trans t2_1
    have k3 := (hk 3 (by decide)).trans t3_1
    match i, hi with
    | 0, _ => exact s_load k2 (load_R n2) i2 (gf rfl)
    | 1, _ => exact s_load k3 (load_R n3) i3 (gf rfl)
    | 2, _ => exact s_call2 enter_level (level_any _ _ (p) (b) (q) (c) (le1n gp (by decide)) (le1n gb (by decide)) (le1n gq (by decide)) (le1n gc (by decide)) w' (hp 0 rfl) (hp 1 rfl)) (gf rfl)
    | 3, _ => exact sA_X hb.size hb.size (fac (zX w') fan)
    | 4, _ => exact absurd rfl (hns _ (.head _))
    | _ + 5, h => exact absurd h (by omega)
  · refine fac ?_ (fan)
    · intro a w' hb hiv hk hp ho hf
      exact sN_X (hp 3 rfl) (hp 2 rfl) (hp 2 rfl) hB1.size (hf 3 (.head _)) (fun _ _ => trivial)
  intro a2 w2 hb2 hd2 hs2 hk2 hiv2 hsp2 hst2 hds2
  have hB2 := hB1.trans hb2
  replace hd2 := hd2.trans hd1
  obtain ⟨⟨n2_2, i2_2⟩, ⟨n3_2, i3_2⟩, _⟩ := hiv2
  have t4_2 := (hk2 4 (by decide)).trans t4_1
  obtain ⟨r5_2, v5_2, t5_2, b5_2, n5_2, I5_2⟩ := tnX (k := 5) (hst2 _ (.head _)) (hsp2 3 (by decide) (fac (nq rfl) fan)) hB1.size (by omega)
  clear hb2 hk2 hsp2 hst2 hds2
  refine wp_seq ?_
  refine fx3n (fun _ _ => True) (l := regionOf Tryz.f19 2) false (by kernel_rfl) 6 14 w.heap.size [5] [Xval _ _ (.pointer (some ⟨r5_2, 0, none⟩)), Xnum _ _ (lvL p b c), Xval _ _ (.pointer (some ⟨r5_2, 2, none⟩)), Xnum _ _ (lvR q b c), Xval _ _ (.int .i64 (cmpI (lvL p b c) (lvR q b c))), Xval _ _ (.int .i64 (cmpI (lvL p b c) (lvR q b c)))] (Sx.and (XhX r5_2 (fun h => h) v5_2 (Xpair _ _ (lvL p b c) (lvR q b c) (lvS b c) (lvG b c))) (Sx.any _)) (by kernel_rfl) (by kernel_rfl) (by kernel_rfl) hs2 (And.intro (And.intro n5_2 I5_2) trivial) hB2.size ?_ ?_
  · intro i hi a w' hb hiv hk hp
    obtain ⟨⟨n5, i5⟩, _⟩ := hiv
    have k5 := (hk 5 (by decide)).trans t5_2
    match i, hi with
    | 0, _ => exact s_field k5 field_X0 rfl gt
    | 1, _ =>
      obtain ⟨u, hr, hu⟩ := ldX0 n5 i5
      exact s_loadP (hp 0 rfl) hr hu gt
    | 2, _ => exact s_field k5 field_X1 rfl gt
    | 3, _ =>
      obtain ⟨u, hr, hu⟩ := ldX1 n5 i5
      exact s_loadP (hp 2 rfl) hr hu gt
    | 4, _ => exact s_call2 enter_Cmp (cmp_ct _ _ (lvL p b c) (lvR q b c) w' (hp 1 rfl) (hp 3 rfl) (le4 (lvL_lt gp gc) (by decide)) (le4 (lvR_lt gq gb) (by decide))) gt
    | 5, _ => exact s_assign (hp 4 rfl) gt
    | _ + 6, h => exact absurd h (by omega)
  intro a3 w3 hb3 hd3 hs3 hk3 hiv3 hsp3
  have hB3 := hB2.trans hb3
  replace hd3 := hd3.trans hd2
  obtain ⟨⟨n5_3, i5_3⟩, _⟩ := hiv3
  obtain ⟨v4_3, t4_3, I4_3⟩ : ∃ v, a3.tmps[4]? = some v ∧ v = (.int .i64 (cmpI (lvL p b c) (lvR q b c))) := tv_get (k := 4) (hsp3 5 (by decide)) (by omega)
  clear hb3 hk3 hsp3
  refine wp_ret ?_
  repeat first | refine then_ret ?_ | refine inBlock_ret ?_
  refine bodyPost_ret (res_t rfl t4_3) hd3 ⟨_, rfl, hB3, ?_⟩
  exact I4_3

set_option maxRecDepth 100000 in
set_option maxHeartbeats 1600000 in
theorem rmul_raw (v1 v2 : Value) (p b q c : Int) (gp : (p.natAbs : Int) < pw 300) (gb : (b.natAbs : Int) < pw 300) (gq : (q.natAbs : Int) < pw 300) (gc : (c.natAbs : Int) < pw 300) (w : World) (i0 : IsR w v1 p b) (i1 : IsR w v2 q c) :
    Calls Tryz.prog 16 #[v1, v2] w fun e w' => ∃ r, e = .returned r ∧ Below w.heap.size w w' ∧ IsR w' r ((p / (Int.gcd p (bel c) : Int)) * (q / (Int.gcd q (bel b) : Int))) (lowB ((bel b / (Int.gcd q (bel b) : Int)) * (bel c / (Int.gcd p (bel c) : Int)))) := by
  refine calls_act (fn := Tryz.f16) (by kernel_rfl) rfl (N := 42) (by kernel_rfl) (by simp) ?_
  intro a0 hs0 hd0 hx0
  have t0 : a0.tmps[0]? = some v1 := hx0 0 _ rfl
  have t1 : a0.tmps[1]? = some v2 := hx0 1 _ rfl
  clear hx0
  have hB0 : Below w.heap.size w w := Below.refl _ _
  refine wp_seq ?_
  refine fxN (fun _ => False) (fun _ _ => True) (l := regionOf Tryz.f16 0) false (by kernel_rfl) 3 42 w.heap.size [0, 1]
    [XoR _ w.heap.size v1 (Xrat _ _ p b), XoR _ w.heap.size v2 (Xrat _ _ q c), XoR _ w.heap.size zaR (Xrat _ _ 0 0)]
    (Sx.and (Sx.at (Xrat _ _ p b) v1) (Sx.and (Sx.at (Xrat _ _ q c) v2) (Sx.any _))) [(2, some 0), (3, some 1), (4, some 2)] [] (by kernel_rfl) (by kernel_rfl) (by kernel_rfl) hs0 (And.intro i0 (And.intro i1 trivial)) hB0.size List.nodup_nil fan (fac (npR rfl) (fac (npR rfl) (fac (npR rfl) fan))) ?_ ?_ ?_
  · intro i hi hns a w' hb hiv hk hp hold
    obtain ⟨i0, i1, _⟩ := hiv
    have k0 := (hk 0 (by decide)).trans t0
    have k1 := (hk 1 (by decide)).trans t1
    match i, hi with
    | 0, _ => exact sB_R hb.size k0 i0 i0 rfl
    | 1, _ => exact sB_R hb.size k1 i1 i1 rfl
    | 2, _ => exact sO_R hb.size isR_zero rfl
    | _ + 3, h => exact absurd h (by omega)
  · exact fan
  intro a1 w1 hb1 hd1 hs1 hk1 hiv1 hsp1 hst1 hds1
  have hB1 := hB0.trans hb1
  replace hd1 := hd1.trans hd0
  obtain ⟨i0_1, i1_1, _⟩ := hiv1
  obtain ⟨r2_1, t2_1, b2_1, n2_1, I2_1⟩ := toR (k := 2) (hsp1 0 (by decide) fan) hB0.size (by omega)
  obtain ⟨r3_1, t3_1, b3_1, n3_1, I3_1⟩ := toR (k := 3) (hsp1 1 (by decide) fan) hB0.size (by omega)
  obtain ⟨r4_1, t4_1, b4_1, n4_1, I4_1⟩ := toR (k := 4) (hsp1 2 (by decide) fan) hB0.size (by omega)
  have ne2_4_1 : r2_1 ≠ r4_1 := ne_ptr (hds1 (2, some 0) (.head _) (4, some 2) (.tail _ (.tail _ (.head _))) (by decide)) t2_1 t4_1
  have ne3_4_1 : r3_1 ≠ r4_1 := ne_ptr (hds1 (3, some 1) (.tail _ (.head _)) (4, some 2) (.tail _ (.tail _ (.head _))) (by decide)) t3_1 t4_1
  clear hb1 hk1 hsp1 hst1 hds1
  refine wp_seq ?_
  refine fxN (fun r => w1.heap.size ≤ r) (fun _ _ => True) (l := regionOf Tryz.f16 1) true (by kernel_rfl) 8 42 w.heap.size [2, 3, 4]
    [Xrat _ _ p b, Xnum _ _ (bel (b)), Xrat _ _ q c, Xnum _ _ (bel (c)), Sx.box _ w1.heap.size 26, Sx.box _ w1.heap.size 26, Sx.any _, Sx.any _]
    (Sx.and (XhR r2_1 (Nat.not_le_of_lt n2_1.lt) v1 (Xrat _ _ p b)) (Sx.and (XhR r3_1 (Nat.not_le_of_lt n3_1.lt) v2 (Xrat _ _ q c)) (Sx.and (XhR r4_1 (Nat.not_le_of_lt n4_1.lt) zaR (Xrat _ _ 0 0)) (Sx.any _)))) [(5, some 4), (6, some 5)] [stNI 6 5 (Xnum _ _ (bel (b))), stNI 7 6 (Xnum _ _ (bel (c)))] (by kernel_rfl) (by kernel_rfl) (by kernel_rfl) hs1 (And.intro (And.intro n2_1 I2_1) (And.intro (And.intro n3_1 I3_1) (And.intro (And.intro n4_1 I4_1) trivial))) hB1.size (show ([6, 7] : List Nat).Nodup by decide) (fac nst (fac nst fan)) (fac (nby rfl) (fac (nby rfl) fan)) ?_ ?_ ?_
  · intro i hi hns a w' hb hiv hk hp hold
    obtain ⟨⟨n2, i2⟩, ⟨n3, i3⟩, ⟨n4, i4⟩, _⟩ := hiv
    have k2 := (hk 2 (by decide)).trans t2_1
    have k3 := (hk 3 (by decide)).trans t3_1
    match i, hi with
    | 0, _ => exact s_load k2 (load_R n2) i2 (gf rfl)
    | 1, _ => exact s_call1 enter_bel (below_any _ (p) (b) (le3n gb (by decide)) w' (hp 0 rfl)) (gf rfl)
    | 2, _ => exact s_load k3 (load_R n3) i3 (gf rfl)
    | 3, _ => exact s_call1 enter_bel (below_any _ (q) (c) (le3n gc (by decide)) w' (hp 2 rfl)) (gf rfl)
    | 4, _ => exact sA_I hb.size hb.size (fac (zI w') (fac (zI w') fan))
    | 5, _ => exact sA_I hb.size hb.size (fac (zI w') (fac (zI w') fan))
    | 6, _ => exact absurd rfl (hns _ (.head _))
    | 7, _ => exact absurd rfl (hns _ (.tail _ (.head _)))
    | _ + 8, h => exact absurd h (by omega)
  · refine fac ?_ (fac ?_ (fan))
    · intro a w' hb hiv hk hp ho hf
      exact sN_I (hp 4 rfl) (hp 1 rfl) (hp 1 rfl) hB1.size (hf 4 (.head _)) (fun _ _ => trivial)
    · intro a w' hb hiv hk hp ho hf
      exact sN_I (hp 5 rfl) (hp 3 rfl) (hp 3 rfl) hB1.size (hf 5 (.tail _ (.head _))) (fun _ _ => trivial)
  intro a2 w2 hb2 hd2 hs2 hk2 hiv2 hsp2 hst2 hds2
  have hB2 := hB1.trans hb2
  replace hd2 := hd2.trans hd1
  obtain ⟨⟨n2_2, i2_2⟩, ⟨n3_2, i3_2⟩, ⟨n4_2, i4_2⟩, _⟩ := hiv2
  have t2_2 := (hk2 2 (by decide)).trans t2_1
  have t3_2 := (hk2 3 (by decide)).trans t3_1
  have t4_2 := (hk2 4 (by decide)).trans t4_1
  obtain ⟨r5_2, v5_2, t5_2, b5_2, n5_2, I5_2⟩ := tnI (k := 5) (hst2 _ (.head _)) (hsp2 4 (by decide) (fac (nq rfl) (fac (nq rfl) fan))) hB1.size (by omega)
  obtain ⟨r6_2, v6_2, t6_2, b6_2, n6_2, I6_2⟩ := tnI (k := 6) (hst2 _ (.tail _ (.head _))) (hsp2 5 (by decide) (fac (nq rfl) (fac (nq rfl) fan))) hB1.size (by omega)
  have ne4_5_2 : r4_1 ≠ r5_2 := by have := n4_1.lt; have := b5_2.2; omega
  have ne4_6_2 : r4_1 ≠ r6_2 := by have := n4_1.lt; have := b6_2.2; omega
  clear hb2 hk2 hsp2 hst2 hds2
  refine wp_seq ?_
  refine fxN (fun r => w2.heap.size ≤ r) (fun _ _ => True) (l := regionOf Tryz.f16 2) true (by kernel_rfl) 12 42 w.heap.size [2, 3, 4, 5, 6]
    [Xval _ _ (.pointer (some ⟨r2_1, 0, none⟩)), Xnum _ _ p, Xnum _ _ (bel (c)), Xnum _ _ (Int.gcd (p) (bel (c)) : Int), Xval _ _ (.pointer (some ⟨r3_1, 0, none⟩)), Xnum _ _ q, Xnum _ _ (bel (b)), Xnum _ _ (Int.gcd (q) (bel (b)) : Int), Sx.box _ w2.heap.size 26, Sx.box _ w2.heap.size 26, Sx.any _, Sx.any _]
    (Sx.and (XhR r2_1 (Nat.not_le_of_lt n2_2.lt) v1 (Xrat _ _ p b)) (Sx.and (XhR r3_1 (Nat.not_le_of_lt n3_2.lt) v2 (Xrat _ _ q c)) (Sx.and (XhR r4_1 (Nat.not_le_of_lt n4_2.lt) zaR (Xrat _ _ 0 0)) (Sx.and (XhI r5_2 (Nat.not_le_of_lt n5_2.lt) v5_2 (Xnum _ _ (bel (b)))) (Sx.and (XhI r6_2 (Nat.not_le_of_lt n6_2.lt) v6_2 (Xnum _ _ (bel (c)))) (Sx.any _)))))) [(7, some 8), (8, some 9)] [stNI 10 7 (Xnum _ _ (Int.gcd (p) (bel (c)) : Int)), stNI 11 8 (Xnum _ _ (Int.gcd (q) (bel (b)) : Int))] (by kernel_rfl) (by kernel_rfl) (by kernel_rfl) hs2 (And.intro (And.intro n2_2 i2_2) (And.intro (And.intro n3_2 i3_2) (And.intro (And.intro n4_2 i4_2) (And.intro (And.intro n5_2 I5_2) (And.intro (And.intro n6_2 I6_2) trivial))))) hB2.size (show ([10, 11] : List Nat).Nodup by decide) (fac nst (fac nst fan)) (fac (nby rfl) (fac (nby rfl) fan)) ?_ ?_ ?_
  · intro i hi hns a w' hb hiv hk hp hold
    obtain ⟨⟨n2, i2⟩, ⟨n3, i3⟩, ⟨n4, i4⟩, ⟨n5, i5⟩, ⟨n6, i6⟩, _⟩ := hiv
    have k2 := (hk 2 (by decide)).trans t2_2
    have k3 := (hk 3 (by decide)).trans t3_2
    have k5 := (hk 5 (by decide)).trans t5_2
    have k6 := (hk 6 (by decide)).trans t6_2
    match i, hi with
    | 0, _ => exact s_field k2 field_R0 rfl (gf rfl)
    | 1, _ =>
      obtain ⟨u, hr, hu⟩ := ldR0 n2 i2
      exact s_loadP (hp 0 rfl) hr hu (gf rfl)
    | 2, _ => exact s_load k6 (load_bx n6) i6 (gf rfl)
    | 3, _ => exact s_call2 enter_Gcd (gcd_any quoLong_any _ _ (p) (bel (c)) w' (hp 1 rfl) (hp 2 rfl) (le4 gp (by decide)) (le4 (bel_lt gc) (by decide))) (gf rfl)
    | 4, _ => exact s_field k3 field_R0 rfl (gf rfl)
    | 5, _ =>
      obtain ⟨u, hr, hu⟩ := ldR0 n3 i3
      exact s_loadP (hp 4 rfl) hr hu (gf rfl)
    | 6, _ => exact s_load k5 (load_bx n5) i5 (gf rfl)
    | 7, _ => exact s_call2 enter_Gcd (gcd_any quoLong_any _ _ (q) (bel (b)) w' (hp 5 rfl) (hp 6 rfl) (le4 gq (by decide)) (le4 (bel_lt gb) (by decide))) (gf rfl)
    | 8, _ => exact sA_I hb.size hb.size (fac (zI w') (fac (zI w') fan))
    | 9, _ => exact sA_I hb.size hb.size (fac (zI w') (fac (zI w') fan))
    | 10, _ => exact absurd rfl (hns _ (.head _))
    | 11, _ => exact absurd rfl (hns _ (.tail _ (.head _)))
    | _ + 12, h => exact absurd h (by omega)
  · refine fac ?_ (fac ?_ (fan))
    · intro a w' hb hiv hk hp ho hf
      exact sN_I (hp 8 rfl) (hp 3 rfl) (hp 3 rfl) hB2.size (hf 8 (.head _)) (fun _ _ => trivial)
    · intro a w' hb hiv hk hp ho hf
      exact sN_I (hp 9 rfl) (hp 7 rfl) (hp 7 rfl) hB2.size (hf 9 (.tail _ (.head _))) (fun _ _ => trivial)
  intro a3 w3 hb3 hd3 hs3 hk3 hiv3 hsp3 hst3 hds3
  have hB3 := hB2.trans hb3
  replace hd3 := hd3.trans hd2
  obtain ⟨⟨n2_3, i2_3⟩, ⟨n3_3, i3_3⟩, ⟨n4_3, i4_3⟩, ⟨n5_3, i5_3⟩, ⟨n6_3, i6_3⟩, _⟩ := hiv3
  have t2_3 := (hk3 2 (by decide)).trans t2_2
  have t3_3 := (hk3 3 (by decide)).trans t3_2
  have t4_3 := (hk3 4 (by decide)).trans t4_2
  have t5_3 := (hk3 5 (by decide)).trans t5_2
  have t6_3 := (hk3 6 (by decide)).trans t6_2
  obtain ⟨r7_3, v7_3, t7_3, b7_3, n7_3, I7_3⟩ := tnI (k := 7) (hst3 _ (.head _)) (hsp3 8 (by decide) (fac (nq rfl) (fac (nq rfl) fan))) hB2.size (by omega)
  obtain ⟨r8_3, v8_3, t8_3, b8_3, n8_3, I8_3⟩ := tnI (k := 8) (hst3 _ (.tail _ (.head _))) (hsp3 9 (by decide) (fac (nq rfl) (fac (nq rfl) fan))) hB2.size (by omega)
  have ne4_7_3 : r4_1 ≠ r7_3 := by have := n4_2.lt; have := b7_3.2; omega
  have ne4_8_3 : r4_1 ≠ r8_3 := by have := n4_2.lt; have := b8_3.2; omega
  clear hb3 hk3 hsp3 hst3 hds3
  refine wp_seq ?_
  refine fxN (fun r => w3.heap.size ≤ r) (fun _ _ => True) (l := regionOf Tryz.f16 3) true (by kernel_rfl) 11 42 w.heap.size [2, 3, 4, 5, 6, 7, 8]
    [Xval _ _ (.pointer (some ⟨r2_1, 0, none⟩)), Xnum _ _ p, Xnum _ _ (Int.gcd (p) (bel (c)) : Int), Xnum _ _ (p / ((Int.gcd (p) (bel (c)) : Int))), Xval _ _ (.pointer (some ⟨r3_1, 0, none⟩)), Xnum _ _ q, Xnum _ _ (Int.gcd (q) (bel (b)) : Int), Xnum _ _ (q / ((Int.gcd (q) (bel (b)) : Int))), Xnum _ _ ((p / ((Int.gcd (p) (bel (c)) : Int))) * (q / ((Int.gcd (q) (bel (b)) : Int)))), Sx.box _ w3.heap.size 26, Sx.any _]
    (Sx.and (XhR r2_1 (Nat.not_le_of_lt n2_3.lt) v1 (Xrat _ _ p b)) (Sx.and (XhR r3_1 (Nat.not_le_of_lt n3_3.lt) v2 (Xrat _ _ q c)) (Sx.and (XhR r4_1 (Nat.not_le_of_lt n4_3.lt) zaR (Xrat _ _ 0 0)) (Sx.and (XhI r5_2 (Nat.not_le_of_lt n5_3.lt) v5_2 (Xnum _ _ (bel (b)))) (Sx.and (XhI r6_2 (Nat.not_le_of_lt n6_3.lt) v6_2 (Xnum _ _ (bel (c)))) (Sx.and (XhI r7_3 (Nat.not_le_of_lt n7_3.lt) v7_3 (Xnum _ _ (Int.gcd (p) (bel (c)) : Int))) (Sx.and (XhI r8_3 (Nat.not_le_of_lt n8_3.lt) v8_3 (Xnum _ _ (Int.gcd (q) (bel (b)) : Int))) (Sx.any _)))))))) [(9, some 9)] [stNI 10 9 (Xnum _ _ ((p / ((Int.gcd (p) (bel (c)) : Int))) * (q / ((Int.gcd (q) (bel (b)) : Int)))))] (by kernel_rfl) (by kernel_rfl) (by kernel_rfl) hs3 (And.intro (And.intro n2_3 i2_3) (And.intro (And.intro n3_3 i3_3) (And.intro (And.intro n4_3 i4_3) (And.intro (And.intro n5_3 i5_3) (And.intro (And.intro n6_3 i6_3) (And.intro (And.intro n7_3 I7_3) (And.intro (And.intro n8_3 I8_3) trivial))))))) hB3.size (show ([10] : List Nat).Nodup by decide) (fac nst fan) (fac (nby rfl) fan) ?_ ?_ ?_
  · intro i hi hns a w' hb hiv hk hp hold
    obtain ⟨⟨n2, i2⟩, ⟨n3, i3⟩, ⟨n4, i4⟩, ⟨n5, i5⟩, ⟨n6, i6⟩, ⟨n7, i7⟩, ⟨n8, i8⟩, _⟩ := hiv
    have k2 := (hk 2 (by decide)).trans t2_3
    have k3 := (hk 3 (by decide)).trans t3_3
    have k7 := (hk 7 (by decide)).trans t7_3
    have k8 := (hk 8 (by decide)).trans t8_3
    match i, hi with
    | 0, _ => exact s_field k2 field_R0 rfl (gf rfl)
    | 1, _ =>
      obtain ⟨u, hr, hu⟩ := ldR0 n2 i2
      exact s_loadP (hp 0 rfl) hr hu (gf rfl)
    | 2, _ => exact s_load k7 (load_bx n7) i7 (gf rfl)
    | 3, _ => exact s_call2 enter_part (part_any _ _ (p) ((Int.gcd (p) (bel (c)) : Int)) (le3n gp (by decide)) (le3n (gcd_lt2 gp (bel_lt gc)) (by decide)) w' (hp 1 rfl) (hp 2 rfl)) (gf rfl)
    | 4, _ => exact s_field k3 field_R0 rfl (gf rfl)
    | 5, _ =>
      obtain ⟨u, hr, hu⟩ := ldR0 n3 i3
      exact s_loadP (hp 4 rfl) hr hu (gf rfl)
    | 6, _ => exact s_load k8 (load_bx n8) i8 (gf rfl)
    | 7, _ => exact s_call2 enter_part (part_any _ _ (q) ((Int.gcd (q) (bel (b)) : Int)) (le3n gq (by decide)) (le3n (gcd_lt2 gq (bel_lt gb)) (by decide)) w' (hp 5 rfl) (hp 6 rfl)) (gf rfl)
    | 8, _ => exact s_call2 enter_Mul (mul_any _ _ (p / ((Int.gcd (p) (bel (c)) : Int))) (q / ((Int.gcd (q) (bel (b)) : Int))) w' (hp 3 rfl) (hp 7 rfl) (le4 (ediv_lt gp) (by decide)) (le4 (ediv_lt gq) (by decide))) (gf rfl)
    | 9, _ => exact sA_I hb.size hb.size (fac (zI w') fan)
    | 10, _ => exact absurd rfl (hns _ (.head _))
    | _ + 11, h => exact absurd h (by omega)
  · refine fac ?_ (fan)
    · intro a w' hb hiv hk hp ho hf
      exact sN_I (hp 9 rfl) (hp 8 rfl) (hp 8 rfl) hB3.size (hf 9 (.head _)) (fun _ _ => trivial)
  intro a4 w4 hb4 hd4 hs4 hk4 hiv4 hsp4 hst4 hds4
  have hB4 := hB3.trans hb4
  replace hd4 := hd4.trans hd3
  obtain ⟨⟨n2_4, i2_4⟩, ⟨n3_4, i3_4⟩, ⟨n4_4, i4_4⟩, ⟨n5_4, i5_4⟩, ⟨n6_4, i6_4⟩, ⟨n7_4, i7_4⟩, ⟨n8_4, i8_4⟩, _⟩ := hiv4
  have t4_4 := (hk4 4 (by decide)).trans t4_3
  have t5_4 := (hk4 5 (by decide)).trans t5_3
  have t6_4 := (hk4 6 (by decide)).trans t6_3
  have t7_4 := (hk4 7 (by decide)).trans t7_3
  have t8_4 := (hk4 8 (by decide)).trans t8_3
  obtain ⟨r9_4, v9_4, t9_4, b9_4, n9_4, I9_4⟩ := tnI (k := 9) (hst4 _ (.head _)) (hsp4 9 (by decide) (fac (nq rfl) fan)) hB3.size (by omega)
  have ne4_9_4 : r4_1 ≠ r9_4 := by have := n4_3.lt; have := b9_4.2; omega
  clear hb4 hk4 hsp4 hst4 hds4
  refine wp_seq ?_
  refine fxN (fun r => w4.heap.size ≤ r) (fun _ _ => True) (l := regionOf Tryz.f16 4) true (by kernel_rfl) 9 42 w.heap.size [4, 5, 6, 7, 8, 9]
    [Xnum _ _ (bel (b)), Xnum _ _ (Int.gcd (q) (bel (b)) : Int), Xnum _ _ ((bel (b)) / ((Int.gcd (q) (bel (b)) : Int))), Xnum _ _ (bel (c)), Xnum _ _ (Int.gcd (p) (bel (c)) : Int), Xnum _ _ ((bel (c)) / ((Int.gcd (p) (bel (c)) : Int))), Xnum _ _ (((bel (b)) / ((Int.gcd (q) (bel (b)) : Int))) * ((bel (c)) / ((Int.gcd (p) (bel (c)) : Int)))), Sx.box _ w4.heap.size 26, Sx.any _]
    (Sx.and (XhR r4_1 (Nat.not_le_of_lt n4_4.lt) zaR (Xrat _ _ 0 0)) (Sx.and (XhI r5_2 (Nat.not_le_of_lt n5_4.lt) v5_2 (Xnum _ _ (bel (b)))) (Sx.and (XhI r6_2 (Nat.not_le_of_lt n6_4.lt) v6_2 (Xnum _ _ (bel (c)))) (Sx.and (XhI r7_3 (Nat.not_le_of_lt n7_4.lt) v7_3 (Xnum _ _ (Int.gcd (p) (bel (c)) : Int))) (Sx.and (XhI r8_3 (Nat.not_le_of_lt n8_4.lt) v8_3 (Xnum _ _ (Int.gcd (q) (bel (b)) : Int))) (Sx.and (XhI r9_4 (Nat.not_le_of_lt n9_4.lt) v9_4 (Xnum _ _ ((p / ((Int.gcd (p) (bel (c)) : Int))) * (q / ((Int.gcd (q) (bel (b)) : Int)))))) (Sx.any _))))))) [(10, some 7)] [stNI 8 10 (Xnum _ _ (((bel (b)) / ((Int.gcd (q) (bel (b)) : Int))) * ((bel (c)) / ((Int.gcd (p) (bel (c)) : Int)))))] (by kernel_rfl) (by kernel_rfl) (by kernel_rfl) hs4 (And.intro (And.intro n4_4 i4_4) (And.intro (And.intro n5_4 i5_4) (And.intro (And.intro n6_4 i6_4) (And.intro (And.intro n7_4 i7_4) (And.intro (And.intro n8_4 i8_4) (And.intro (And.intro n9_4 I9_4) trivial)))))) hB4.size (show ([8] : List Nat).Nodup by decide) (fac nst fan) (fac (nby rfl) fan) ?_ ?_ ?_
  · intro i hi hns a w' hb hiv hk hp hold
    obtain ⟨⟨n4, i4⟩, ⟨n5, i5⟩, ⟨n6, i6⟩, ⟨n7, i7⟩, ⟨n8, i8⟩, ⟨n9, i9⟩, _⟩ := hiv
    have k5 := (hk 5 (by decide)).trans t5_4
    have k6 := (hk 6 (by decide)).trans t6_4
    have k7 := (hk 7 (by decide)).trans t7_4
    have k8 := (hk 8 (by decide)).trans t8_4
    match i, hi with
    | 0, _ => exact s_load k5 (load_bx n5) i5 (gf rfl)
    | 1, _ => exact s_load k8 (load_bx n8) i8 (gf rfl)
    | 2, _ => exact s_call2 enter_part (part_any _ _ (bel (b)) ((Int.gcd (q) (bel (b)) : Int)) (le3n (bel_lt gb) (by decide)) (le3n (gcd_lt2 gq (bel_lt gb)) (by decide)) w' (hp 0 rfl) (hp 1 rfl)) (gf rfl)
    | 3, _ => exact s_load k6 (load_bx n6) i6 (gf rfl)
    | 4, _ => exact s_load k7 (load_bx n7) i7 (gf rfl)
    | 5, _ => exact s_call2 enter_part (part_any _ _ (bel (c)) ((Int.gcd (p) (bel (c)) : Int)) (le3n (bel_lt gc) (by decide)) (le3n (gcd_lt2 gp (bel_lt gc)) (by decide)) w' (hp 3 rfl) (hp 4 rfl)) (gf rfl)
    | 6, _ => exact s_call2 enter_Mul (mul_any _ _ ((bel (b)) / ((Int.gcd (q) (bel (b)) : Int))) ((bel (c)) / ((Int.gcd (p) (bel (c)) : Int))) w' (hp 2 rfl) (hp 5 rfl) (le4 (ediv_lt (bel_lt gb)) (by decide)) (le4 (ediv_lt (bel_lt gc)) (by decide))) (gf rfl)
    | 7, _ => exact sA_I hb.size hb.size (fac (zI w') fan)
    | 8, _ => exact absurd rfl (hns _ (.head _))
    | _ + 9, h => exact absurd h (by omega)
  · refine fac ?_ (fan)
    · intro a w' hb hiv hk hp ho hf
      exact sN_I (hp 7 rfl) (hp 6 rfl) (hp 6 rfl) hB4.size (hf 7 (.head _)) (fun _ _ => trivial)
  intro a5 w5 hb5 hd5 hs5 hk5 hiv5 hsp5 hst5 hds5
  have hB5 := hB4.trans hb5
  replace hd5 := hd5.trans hd4
  obtain ⟨⟨n4_5, i4_5⟩, ⟨n5_5, i5_5⟩, ⟨n6_5, i6_5⟩, ⟨n7_5, i7_5⟩, ⟨n8_5, i8_5⟩, ⟨n9_5, i9_5⟩, _⟩ := hiv5
  have t4_5 := (hk5 4 (by decide)).trans t4_4
  have t9_5 := (hk5 9 (by decide)).trans t9_4
  obtain ⟨r10_5, v10_5, t10_5, b10_5, n10_5, I10_5⟩ := tnI (k := 10) (hst5 _ (.head _)) (hsp5 7 (by decide) (fac (nq rfl) fan)) hB4.size (by omega)
  have ne4_10_5 : r4_1 ≠ r10_5 := by have := n4_4.lt; have := b10_5.2; omega
  clear hb5 hk5 hsp5 hst5 hds5
  refine wp_seq ?_
  refine fx3 (fun r => r = r4_1) (fun _ _ => True) (l := regionOf Tryz.f16 5) false (by kernel_rfl) 4 42 w.heap.size [4, 9, 10]
    [Xnum _ _ ((p / ((Int.gcd (p) (bel (c)) : Int))) * (q / ((Int.gcd (q) (bel (b)) : Int)))), Xnum _ _ (((bel (b)) / ((Int.gcd (q) (bel (b)) : Int))) * ((bel (c)) / ((Int.gcd (p) (bel (c)) : Int)))), Xrat _ _ ((p / ((Int.gcd (p) (bel (c)) : Int))) * (q / ((Int.gcd (q) (bel (b)) : Int)))) (lowB (((bel (b)) / ((Int.gcd (q) (bel (b)) : Int))) * ((bel (c)) / ((Int.gcd (p) (bel (c)) : Int))))), Sx.any _]
    (Sx.and (XhI r9_4 (show ¬ (r9_4 = r4_1) by have := n9_5.lt; omega) v9_4 (Xnum _ _ ((p / ((Int.gcd (p) (bel (c)) : Int))) * (q / ((Int.gcd (q) (bel (b)) : Int)))))) (Sx.and (XhI r10_5 (show ¬ (r10_5 = r4_1) by have := n10_5.lt; omega) v10_5 (Xnum _ _ (((bel (b)) / ((Int.gcd (q) (bel (b)) : Int))) * ((bel (c)) / ((Int.gcd (p) (bel (c)) : Int)))))) (Sx.any _))) [(4, none)] [stXR 3 4 (Xrat _ _ ((p / ((Int.gcd (p) (bel (c)) : Int))) * (q / ((Int.gcd (q) (bel (b)) : Int)))) (lowB (((bel (b)) / ((Int.gcd (q) (bel (b)) : Int))) * ((bel (c)) / ((Int.gcd (p) (bel (c)) : Int)))))) r4_1 zaR (Xrat _ _ 0 0)]
    (by kernel_rfl) (by kernel_rfl) (by kernel_rfl) hs5 (And.intro (And.intro n9_5 i9_5) (And.intro (And.intro n10_5 I10_5) trivial)) hB5.size (fac (fun _ _ => trivial) fan) (show ([3] : List Nat).Nodup by decide) (fac (.inr (And.intro (show (4 : Nat) ∈ ([4, 9, 10] : List Nat) by decide) (And.intro (.head _) (getD_of t4_5)))) fan) (fac (And.intro n4_5 i4_5) fan) (fac (fun _ => ⟨r4_1, getD_of t4_5, n4_5.lt⟩) fan) (dis_one rfl) (fac (fun i hi => by cases hi) fan) ?_ ?_ ?_
  · intro i hi hns a w' hb hiv hk hp hold
    obtain ⟨⟨n9, i9⟩, ⟨n10, i10⟩, _⟩ := hiv
    have k9 := (hk 9 (by decide)).trans t9_5
    have k10 := (hk 10 (by decide)).trans t10_5
    match i, hi with
    | 0, _ => exact s_load k9 (load_bx n9) i9 (gf rfl)
    | 1, _ => exact s_load k10 (load_bx n10) i10 (gf rfl)
    | 2, _ => exact s_call2 enter_low (low_any _ _ ((p / ((Int.gcd (p) (bel (c)) : Int))) * (q / ((Int.gcd (q) (bel (b)) : Int)))) (((bel (b)) / ((Int.gcd (q) (bel (b)) : Int))) * ((bel (c)) / ((Int.gcd (p) (bel (c)) : Int)))) (le3n (mul_lt (ediv_lt gp) (ediv_lt gq)) (by decide)) (le3n (mul_lt (ediv_lt (bel_lt gb)) (ediv_lt (bel_lt gc))) (by decide)) w' (hp 0 rfl) (hp 1 rfl)) (gf rfl)
    | 3, _ => exact absurd rfl (hns _ (.head _))
    | _ + 4, h => exact absurd h (by omega)
  · refine fac ?_ (fan)
    · intro a w' hb hiv hk hp ho hf
      exact sX_R ((hk 4 (by decide)).trans t4_5) ho.1 (hp 2 rfl) (hp 2 rfl) b4_1.1 (by simp) trivial
  intro a6 w6 hb6 hd6 hs6 hk6 hiv6 hsp6 hst6 hds6
  have hB6 := hB5.trans hb6
  replace hd6 := hd6.trans hd5
  obtain ⟨⟨n9_6, i9_6⟩, ⟨n10_6, i10_6⟩, _⟩ := hiv6
  have t4_6 := (hk6 4 (by decide)).trans t4_5
  obtain ⟨v4_6, n4_6, I4_6⟩ := txR (hst6 _ (.head _)) t4_6
  clear hb6 hk6 hsp6 hst6 hds6
  refine wp_ret ?_
  repeat first | refine then_ret ?_ | refine inBlock_ret ?_
  refine bodyPost_ret (res_R rfl t4_6 n4_6) hd6 ⟨_, rfl, hB6, ?_⟩
  exact I4_6

set_option maxRecDepth 100000 in
set_option maxHeartbeats 1600000 in
theorem rfloor_raw (v1 : Value) (p b : Int) (gp : (p.natAbs : Int) < pw 300) (gb : (b.natAbs : Int) < pw 300) (w : World) (i0 : IsR w v1 p b) :
    Calls Tryz.prog 21 #[v1] w fun e w' => ∃ r, e = .returned r ∧ Below w.heap.size w w' ∧ IsI w' r (p / bel b) := by
  refine calls_act (fn := Tryz.f21) (by kernel_rfl) rfl (N := 8) (by kernel_rfl) (by simp) ?_
  intro a0 hs0 hd0 hx0
  have t0 : a0.tmps[0]? = some v1 := hx0 0 _ rfl
  clear hx0
  have hB0 : Below w.heap.size w w := Below.refl _ _
  refine wp_seq ?_
  refine fxN (fun _ => False) (fun _ _ => True) (l := regionOf Tryz.f21 0) false (by kernel_rfl) 2 8 w.heap.size [0]
    [XoR _ w.heap.size v1 (Xrat _ _ p b), XoI _ w.heap.size zaI (Xnum _ _ 0)]
    (Sx.and (Sx.at (Xrat _ _ p b) v1) (Sx.any _)) [(1, some 0), (2, some 1)] [] (by kernel_rfl) (by kernel_rfl) (by kernel_rfl) hs0 (And.intro i0 trivial) hB0.size List.nodup_nil fan (fac (npR rfl) (fac (npI rfl) fan)) ?_ ?_ ?_
  · intro i hi hns a w' hb hiv hk hp hold
    obtain ⟨i0, _⟩ := hiv
    have k0 := (hk 0 (by decide)).trans t0
    match i, hi with
    | 0, _ => exact sB_R hb.size k0 i0 i0 rfl
    | 1, _ => exact sO_I hb.size isI_zero rfl
    | _ + 2, h => exact absurd h (by omega)
  · exact fan
  intro a1 w1 hb1 hd1 hs1 hk1 hiv1 hsp1 hst1 hds1
  have hB1 := hB0.trans hb1
  replace hd1 := hd1.trans hd0
  obtain ⟨i0_1, _⟩ := hiv1
  obtain ⟨r1_1, t1_1, b1_1, n1_1, I1_1⟩ := toR (k := 1) (hsp1 0 (by decide) fan) hB0.size (by omega)
  obtain ⟨r2_1, t2_1, b2_1, n2_1, I2_1⟩ := toI (k := 2) (hsp1 1 (by decide) fan) hB0.size (by omega)
  have ne1_2_1 : r1_1 ≠ r2_1 := ne_ptr (hds1 (1, some 0) (.head _) (2, some 1) (.tail _ (.head _)) (by decide)) t1_1 t2_1
  clear hb1 hk1 hsp1 hst1 hds1
  refine wp_seq ?_
  refine fx3 (fun r => r = r2_1) (fun _ _ => True) (l := regionOf Tryz.f21 1) true (by kernel_rfl) 6 8 w.heap.size [1, 2]
    [Xval _ _ (.pointer (some ⟨r1_1, 0, none⟩)), Xnum _ _ p, Xrat _ _ p b, Xnum _ _ (bel (b)), Xnum _ _ (p / (bel (b))), Sx.any _]
    (Sx.and (XhR r1_1 (show ¬ (r1_1 = r2_1) by have := n1_1.lt; omega) v1 (Xrat _ _ p b)) (Sx.any _)) [(2, none)] [stXI 5 2 (Xnum _ _ (p / (bel (b)))) r2_1 zaI (Xnum _ _ 0)]
    (by kernel_rfl) (by kernel_rfl) (by kernel_rfl) hs1 (And.intro (And.intro n1_1 I1_1) trivial) hB1.size (fac (fun _ _ => trivial) fan) (show ([5] : List Nat).Nodup by decide) (fac (.inr (And.intro (show (2 : Nat) ∈ ([1, 2] : List Nat) by decide) (And.intro (.head _) (getD_of t2_1)))) fan) (fac (And.intro n2_1 I2_1) fan) (fac (fun _ => ⟨r2_1, getD_of t2_1, n2_1.lt⟩) fan) (dis_one rfl) (fac (fun i hi => by cases hi) fan) ?_ ?_ ?_
  · intro i hi hns a w' hb hiv hk hp hold
    obtain ⟨⟨n1, i1⟩, _⟩ := hiv
    have k1 := (hk 1 (by decide)).trans t1_1
    match i, hi with
    | 0, _ => exact s_field k1 field_R0 rfl (gf rfl)
    | 1, _ =>
      obtain ⟨u, hr, hu⟩ := ldR0 n1 i1
      exact s_loadP (hp 0 rfl) hr hu (gf rfl)
    | 2, _ => exact s_load k1 (load_R n1) i1 (gf rfl)
    | 3, _ => exact s_call1 enter_bel (below_any _ (p) (b) (le3n gb (by decide)) w' (hp 2 rfl)) (gf rfl)
    | 4, _ => exact s_call2 enter_part (part_any _ _ (p) (bel (b)) (le3n gp (by decide)) (le3n (bel_lt gb) (by decide)) w' (hp 1 rfl) (hp 3 rfl)) (gf rfl)
    | 5, _ => exact absurd rfl (hns _ (.head _))
    | _ + 6, h => exact absurd h (by omega)
  · refine fac ?_ (fan)
    · intro a w' hb hiv hk hp ho hf
      exact sX_I ((hk 2 (by decide)).trans t2_1) ho.1 (hp 4 rfl) (hp 4 rfl) b2_1.1 (by simp) trivial
  intro a2 w2 hb2 hd2 hs2 hk2 hiv2 hsp2 hst2 hds2
  have hB2 := hB1.trans hb2
  replace hd2 := hd2.trans hd1
  obtain ⟨⟨n1_2, i1_2⟩, _⟩ := hiv2
  have t2_2 := (hk2 2 (by decide)).trans t2_1
  obtain ⟨v2_2, n2_2, I2_2⟩ := txI (hst2 _ (.head _)) t2_2
  clear hb2 hk2 hsp2 hst2 hds2
  refine wp_ret ?_
  repeat first | refine then_ret ?_ | refine inBlock_ret ?_
  refine bodyPost_ret (res_I rfl t2_2 n2_2) hd2 ⟨_, rfl, hB2, ?_⟩
  exact I2_2

end Go.Proofs.YtlcfldkmojpkpaaGreatDoor
