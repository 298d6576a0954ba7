/- RatHalves: for every four texts the law returns true and leaves them as they were; its row lists three tables of the library, which the card ties to the program's text. -/
import Derived.Test.YtlcfldkmojpkpaaGreatDoorGC
import Derived.Test.YtlcfldkmojpkpaaGreatDoorCards
import Derived.Test.YtlcfldkmojpkpaaGreatDoorTie
import Derived.WalkKit
import Derived.ProofKit
import Derived.OpenShut
import Derived.Deep.DeepHandedRow
import Derived.Lib.LaidTab
import Derived.LaidSub
import Derived.ChangeMaps5

/- RatHalves: its walk. -/
namespace Go.Proofs.YtlcfldkmojpkpaaGreatDoor
open Go Go.RowKit

theorem cmpQ_eq {a b : Rat} (h : a = b) : (cmpQ a b == 0) = true := by
  subst h
  unfold cmpQ
  simp [Rat.lt_irrefl]
theorem cmpQ_same {a b c d : Rat} (h1 : a < b ↔ c < d) (h2 : b < a ↔ d < c) : (cmpQ a b == cmpQ c d) = true := by
  unfold cmpQ
  simp only [h1, h2]
  simp

theorem half2 : Rat.divInt 1 2 + Rat.divInt 1 2 = 1 := by
  rw [Rat.divInt_add_divInt _ _ (by decide) (by decide)]
  rw [show (1 : Rat) = Rat.divInt 1 1 from rfl, Rat.divInt_eq_divInt_iff (by decide) (by decide)]
  decide
theorem mid_e {a b h : Rat} (hh : h + h = 1) : (a + b) * h + (a + b) * h = a + b := by grind
theorem mid_a {a b h : Rat} (hh : h + h = 1) : a < (a + b) * h ↔ a < b := by have e := mid_e (a := a) (b := b) hh; generalize (a + b) * h = m at *; grind
theorem mid_b {a b h : Rat} (hh : h + h = 1) : (a + b) * h < a ↔ b < a := by have e := mid_e (a := a) (b := b) hh; generalize (a + b) * h = m at *; grind
theorem mid_c {a b h : Rat} (hh : h + h = 1) : (a + b) * h < b ↔ a < b := by have e := mid_e (a := a) (b := b) hh; generalize (a + b) * h = m at *; grind
theorem mid_d {a b h : Rat} (hh : h + h = 1) : b < (a + b) * h ↔ b < a := by have e := mid_e (a := a) (b := b) hh; generalize (a + b) * h = m at *; grind
theorem cmp_sub (a b : Rat) : (cmpQ a b == sgn (a - b).num) = true := by
  have h1 : (a - b).num < 0 ↔ a < b := by
    have h : (a - b).num < 0 ↔ a - b < 0 := by rw [Rat.lt_iff]; simp
    rw [h]; grind
  have h2 : 0 < (a - b).num ↔ b < a := by
    have h : 0 < (a - b).num ↔ 0 < a - b := by rw [Rat.lt_iff]; simp
    rw [h]; grind
  unfold cmpQ sgn
  simp only [h1, h2]
  simp

set_option maxRecDepth 100000 in
set_option maxHeartbeats 1600000 in
theorem halves_no (s t u v : ByteArray) (hz : ∀ z ∈ [s, t, u, v], z.size ≤ 9223372036854775807) (hl : ¬ ∀ z ∈ [s, t, u, v], z.size ≤ 120) (w : World) (hT : Tab w)  :
    Calls Tryz.prog 5 #[(.string s), (.string t), (.string u), (.string v)] w fun e w' => ∃ r, e = .returned r ∧ Below w.heap.size w w' ∧ r = .bool true := by
  refine calls_act (fn := Tryz.f5) (by kernel_rfl) rfl (N := 88) (by kernel_rfl) (by simp) ?_
  intro a0 hs0 hd0 hx0
  have t0 : a0.tmps[0]? = some (.string s) := hx0 0 _ rfl
  have t1 : a0.tmps[1]? = some (.string t) := hx0 1 _ rfl
  have t2 : a0.tmps[2]? = some (.string u) := hx0 2 _ rfl
  have t3 : a0.tmps[3]? = some (.string v) := hx0 3 _ rfl
  clear hx0
  have hB0 : Below w.heap.size w w := Below.refl _ _
  refine wp_seq ?_
  refine fx3n Zr (l := regionOf Tryz.f5 0) false (by kernel_rfl) 1 88 w.heap.size [0, 1, 2, 3] [Xval _ _ (.bool false)] (Sx.any _) (by kernel_rfl) (by kernel_rfl) (by kernel_rfl) hs0 trivial hB0.size ?_ ?_
  · intro i hi a w' hb hiv hk hp
    obtain ⟨_⟩ := hiv
    match i, hi with
    | 0, _ => exact s_cassign rfl gt
    | _ + 1, h => exact absurd h (by omega)
  intro a1 w1 hb1 hd1 hs1 hk1 hiv1 hsp1
  have hB1 := hB0.trans hb1
  replace hd1 := hd1.trans hd0
  have t0_1 := (hk1 0 (by decide)).trans t0
  have t1_1 := (hk1 1 (by decide)).trans t1
  have t2_1 := (hk1 2 (by decide)).trans t2
  have t3_1 := (hk1 3 (by decide)).trans t3
  obtain ⟨v8_1, t8_1, I8_1⟩ : ∃ v, a1.tmps[8]? = some v ∧ v = (.bool false) := tv_get (k := 8) (hsp1 0 (by decide)) (by omega)
  clear hb1 hk1 hsp1 hiv1
  refine wp_seq ?_
  refine wp_seq ?_
  refine fx3n Zr (l := regionOf Tryz.f5 1) false (by kernel_rfl) 2 88 w.heap.size [0, 1, 2, 3, 8] [Xval _ _ (.bool true), Xval _ _ (.bool false)] (Sx.any _) (by kernel_rfl) (by kernel_rfl) (by kernel_rfl) hs1 trivial hB1.size ?_ ?_
  · intro i hi a w' hb hiv hk hp
    obtain ⟨_⟩ := hiv
    match i, hi with
    | 0, _ => exact s_call0 enter_known2 (known2_yes w' (hT.below (hB1.trans hb))) gt
    | 1, _ => exact s_not (hp 0 rfl) rfl gt
    | _ + 2, h => exact absurd h (by omega)
  intro a2 w2 hb2 hd2 hs2 hk2 hiv2 hsp2
  have hB2 := hB1.trans hb2
  replace hd2 := hd2.trans hd1
  have t0_2 := (hk2 0 (by decide)).trans t0_1
  have t1_2 := (hk2 1 (by decide)).trans t1_1
  have t2_2 := (hk2 2 (by decide)).trans t2_1
  have t3_2 := (hk2 3 (by decide)).trans t3_1
  have t8_2 := (hk2 8 (by decide)).trans t8_1
  obtain ⟨v17_2, t17_2, I17_2⟩ : ∃ v, a2.tmps[17]? = some v ∧ v = (.bool false) := tv_get (k := 17) (hsp2 1 (by decide)) (by omega)
  clear hb2 hk2 hsp2 hiv2
  refine wp_cond_false (show Act.eval a2 (.tmp 17) = .bool false by rw [eval_of t17_2, I17_2]) ?_
  refine wp_skip ?_
  refine wp_seq ?_
  refine wp_seq ?_
  refine fx3n Zr (l := regionOf Tryz.f5 3) false (by kernel_rfl) 7 88 w.heap.size [0, 1, 2, 3, 8] [Xval _ _ (.string s), Xval _ _ (.string t), Xval _ _ (.string u), Xval _ _ (.string v), Xss _ [s, t, u, v], Xval _ _ (.bool false), Xval _ _ (.bool true)] (Sx.any _) (by kernel_rfl) (by kernel_rfl) (by kernel_rfl) hs2 trivial hB2.size ?_ ?_
  · intro i hi a w' hb hiv hk hp
    obtain ⟨_⟩ := hiv
    have k0 := (hk 0 (by decide)).trans t0_2
    have k1 := (hk 1 (by decide)).trans t1_2
    have k2 := (hk 2 (by decide)).trans t2_2
    have k3 := (hk 3 (by decide)).trans t3_2
    match i, hi with
    | 0, _ => exact s_kmove k0 rfl gt
    | 1, _ => exact s_kmove k1 rfl gt
    | 2, _ => exact s_kmove k2 rfl gt
    | 3, _ => exact s_kmove k3 rfl gt
    | 4, _ => exact s_ss4 (hp 0 rfl) (hp 1 rfl) (hp 2 rfl) (hp 3 rfl) gt
    | 5, _ => exact s_call1 enter_light2 (light2_no _ [s, t, u, v] w' (hp 4 rfl) (by simp) hz hl) gt
    | 6, _ => exact s_not (hp 5 rfl) rfl gt
    | _ + 7, h => exact absurd h (by omega)
  intro a3 w3 hb3 hd3 hs3 hk3 hiv3 hsp3
  have hB3 := hB2.trans hb3
  replace hd3 := hd3.trans hd2
  have t0_3 := (hk3 0 (by decide)).trans t0_2
  have t1_3 := (hk3 1 (by decide)).trans t1_2
  have t2_3 := (hk3 2 (by decide)).trans t2_2
  have t3_3 := (hk3 3 (by decide)).trans t3_2
  have t8_3 := (hk3 8 (by decide)).trans t8_2
  obtain ⟨v24_3, t24_3, I24_3⟩ : ∃ v, a3.tmps[24]? = some v ∧ v = (.bool true) := tv_get (k := 24) (hsp3 6 (by decide)) (by omega)
  clear hb3 hk3 hsp3 hiv3
  refine wp_cond_true (show Act.eval a3 (.tmp 24) = .bool true by rw [eval_of t24_3, I24_3]) ?_
  refine wp_seq ?_
  refine fx3n Zr (l := regionOf Tryz.f5 4) false (by kernel_rfl) 1 88 w.heap.size [0, 1, 2, 3] [Xval _ _ (.bool true)] (Sx.any _) (by kernel_rfl) (by kernel_rfl) (by kernel_rfl) hs3 trivial hB3.size ?_ ?_
  · intro i hi a w' hb hiv hk hp
    obtain ⟨_⟩ := hiv
    match i, hi with
    | 0, _ => exact s_cassign rfl gt
    | _ + 1, h => exact absurd h (by omega)
  intro a4 w4 hb4 hd4 hs4 hk4 hiv4 hsp4
  have hB4 := hB3.trans hb4
  replace hd4 := hd4.trans hd3
  have t0_4 := (hk4 0 (by decide)).trans t0_3
  have t1_4 := (hk4 1 (by decide)).trans t1_3
  have t2_4 := (hk4 2 (by decide)).trans t2_3
  have t3_4 := (hk4 3 (by decide)).trans t3_3
  obtain ⟨v8_4, t8_4, I8_4⟩ : ∃ v, a4.tmps[8]? = some v ∧ v = (.bool true) := tv_get (k := 8) (hsp4 0 (by decide)) (by omega)
  clear hb4 hk4 hsp4 hiv4
  refine wp_ret ?_
  repeat first | refine then_ret ?_ | refine inBlock_ret ?_
  refine bodyPost_ret (res_t rfl t8_4) hd4 ⟨_, rfl, hB4, ?_⟩
  exact I8_4

set_option maxRecDepth 100000 in
set_option maxHeartbeats 1600000 in
theorem halves_yes (s t u v : ByteArray) (qA qB : Rat) (hl : ∀ z ∈ [s, t, u, v], z.size ≤ 120) (bqA : Bd qA 40) (_kqA : Bq qA 100) (hqA : ∀ w, Calls Tryz.prog 8 #[.string s, .string t] w (PostRQ qA w)) (bqB : Bd qB 40) (_kqB : Bq qB 100) (hqB : ∀ w, Calls Tryz.prog 8 #[.string u, .string v] w (PostRQ qB w))  (w : World) (hT : Tab w)  :
    Calls Tryz.prog 5 #[(.string s), (.string t), (.string u), (.string v)] w fun e w' => ∃ r, e = .returned r ∧ Below w.heap.size w w' ∧ r = .bool true := by
  refine calls_act (fn := Tryz.f5) (by kernel_rfl) rfl (N := 88) (by kernel_rfl) (by simp) ?_
  intro a0 hs0 hd0 hx0
  have t0 : a0.tmps[0]? = some (.string s) := hx0 0 _ rfl
  have t1 : a0.tmps[1]? = some (.string t) := hx0 1 _ rfl
  have t2 : a0.tmps[2]? = some (.string u) := hx0 2 _ rfl
  have t3 : a0.tmps[3]? = some (.string v) := hx0 3 _ rfl
  clear hx0
  have hB0 : Below w.heap.size w w := Below.refl _ _
  refine wp_seq ?_
  refine fx3n Zr (l := regionOf Tryz.f5 0) false (by kernel_rfl) 1 88 w.heap.size [0, 1, 2, 3] [Xval _ _ (.bool false)] (Sx.any _) (by kernel_rfl) (by kernel_rfl) (by kernel_rfl) hs0 trivial hB0.size ?_ ?_
  · intro i hi a w' hb hiv hk hp
    obtain ⟨_⟩ := hiv
    match i, hi with
    | 0, _ => exact s_cassign rfl gt
    | _ + 1, h => exact absurd h (by omega)
  intro a1 w1 hb1 hd1 hs1 hk1 hiv1 hsp1
  have hB1 := hB0.trans hb1
  replace hd1 := hd1.trans hd0
  have t0_1 := (hk1 0 (by decide)).trans t0
  have t1_1 := (hk1 1 (by decide)).trans t1
  have t2_1 := (hk1 2 (by decide)).trans t2
  have t3_1 := (hk1 3 (by decide)).trans t3
  obtain ⟨v8_1, t8_1, I8_1⟩ : ∃ v, a1.tmps[8]? = some v ∧ v = (.bool false) := tv_get (k := 8) (hsp1 0 (by decide)) (by omega)
  clear hb1 hk1 hsp1 hiv1
  refine wp_seq ?_
  refine wp_seq ?_
  refine fx3n Zr (l := regionOf Tryz.f5 1) false (by kernel_rfl) 2 88 w.heap.size [0, 1, 2, 3, 8] [Xval _ _ (.bool true), Xval _ _ (.bool false)] (Sx.any _) (by kernel_rfl) (by kernel_rfl) (by kernel_rfl) hs1 trivial hB1.size ?_ ?_
  · intro i hi a w' hb hiv hk hp
    obtain ⟨_⟩ := hiv
    match i, hi with
    | 0, _ => exact s_call0 enter_known2 (known2_yes w' (hT.below (hB1.trans hb))) gt
    | 1, _ => exact s_not (hp 0 rfl) rfl gt
    | _ + 2, h => exact absurd h (by omega)
  intro a2 w2 hb2 hd2 hs2 hk2 hiv2 hsp2
  have hB2 := hB1.trans hb2
  replace hd2 := hd2.trans hd1
  have t0_2 := (hk2 0 (by decide)).trans t0_1
  have t1_2 := (hk2 1 (by decide)).trans t1_1
  have t2_2 := (hk2 2 (by decide)).trans t2_1
  have t3_2 := (hk2 3 (by decide)).trans t3_1
  have t8_2 := (hk2 8 (by decide)).trans t8_1
  obtain ⟨v17_2, t17_2, I17_2⟩ : ∃ v, a2.tmps[17]? = some v ∧ v = (.bool false) := tv_get (k := 17) (hsp2 1 (by decide)) (by omega)
  clear hb2 hk2 hsp2 hiv2
  refine wp_cond_false (show Act.eval a2 (.tmp 17) = .bool false by rw [eval_of t17_2, I17_2]) ?_
  refine wp_skip ?_
  refine wp_seq ?_
  refine wp_seq ?_
  refine fx3n Zr (l := regionOf Tryz.f5 3) false (by kernel_rfl) 7 88 w.heap.size [0, 1, 2, 3, 8] [Xval _ _ (.string s), Xval _ _ (.string t), Xval _ _ (.string u), Xval _ _ (.string v), Xss _ [s, t, u, v], Xval _ _ (.bool true), Xval _ _ (.bool false)] (Sx.any _) (by kernel_rfl) (by kernel_rfl) (by kernel_rfl) hs2 trivial hB2.size ?_ ?_
  · intro i hi a w' hb hiv hk hp
    obtain ⟨_⟩ := hiv
    have k0 := (hk 0 (by decide)).trans t0_2
    have k1 := (hk 1 (by decide)).trans t1_2
    have k2 := (hk 2 (by decide)).trans t2_2
    have k3 := (hk 3 (by decide)).trans t3_2
    match i, hi with
    | 0, _ => exact s_kmove k0 rfl gt
    | 1, _ => exact s_kmove k1 rfl gt
    | 2, _ => exact s_kmove k2 rfl gt
    | 3, _ => exact s_kmove k3 rfl gt
    | 4, _ => exact s_ss4 (hp 0 rfl) (hp 1 rfl) (hp 2 rfl) (hp 3 rfl) gt
    | 5, _ => exact s_call1 enter_light2 (light2_yes _ [s, t, u, v] w' (hp 4 rfl) (by simp) hl) gt
    | 6, _ => exact s_not (hp 5 rfl) rfl gt
    | _ + 7, h => exact absurd h (by omega)
  intro a3 w3 hb3 hd3 hs3 hk3 hiv3 hsp3
  have hB3 := hB2.trans hb3
  replace hd3 := hd3.trans hd2
  have t0_3 := (hk3 0 (by decide)).trans t0_2
  have t1_3 := (hk3 1 (by decide)).trans t1_2
  have t2_3 := (hk3 2 (by decide)).trans t2_2
  have t3_3 := (hk3 3 (by decide)).trans t3_2
  have t8_3 := (hk3 8 (by decide)).trans t8_2
  obtain ⟨v24_3, t24_3, I24_3⟩ : ∃ v, a3.tmps[24]? = some v ∧ v = (.bool false) := tv_get (k := 24) (hsp3 6 (by decide)) (by omega)
  clear hb3 hk3 hsp3 hiv3
  refine wp_cond_false (show Act.eval a3 (.tmp 24) = .bool false by rw [eval_of t24_3, I24_3]) ?_
  refine wp_skip ?_
  refine wp_seq ?_
  refine fxN (fun r => w3.heap.size ≤ r) Zr (l := regionOf Tryz.f5 5) false (by kernel_rfl) 10 88 w.heap.size [0, 1, 2, 3, 8]
    [Xval _ _ (.string s), Xval _ _ (.string t), Xtup (Xrt _ _ qA) (Xqt _ qA), Xtup (Xrt _ _ qA) (Xqt _ qA), Xrt _ _ qA, Xqt _ qA, Sx.box _ w3.heap.size 28, Sx.box _ w3.heap.size 33, Sx.any _, Sx.any _]
    (Sx.any _) [(9, some 6), (10, some 7)] [stNR 8 9 (Xrt _ _ qA), stNQ 9 10 (Xqt _ qA)] (by kernel_rfl) (by kernel_rfl) (by kernel_rfl) hs3 trivial hB3.size (show ([8, 9] : List Nat).Nodup by decide) (fac nst (fac nst fan)) (fac (nby rfl) (fac (nby rfl) fan)) ?_ ?_ ?_
  · intro i hi hns a w' hb hiv hk hp hold
    obtain ⟨_⟩ := hiv
    have k0 := (hk 0 (by decide)).trans t0_3
    have k1 := (hk 1 (by decide)).trans t1_3
    match i, hi with
    | 0, _ => exact s_kmove k0 rfl (gf rfl)
    | 1, _ => exact s_kmove k1 rfl (gf rfl)
    | 2, _ => exact s_call2 enter_frac2 (arg2 (hp 0 rfl) (hp 1 rfl) (hqA w')) (gf rfl)
    | 3, _ => exact s_move (hp 2 rfl) (gf rfl)
    | 4, _ => exact s_ext0 (hp 3 rfl) (gf rfl)
    | 5, _ => exact s_ext1 (hp 3 rfl) (gf rfl)
    | 6, _ => exact sA_R hb.size hb.size (fac (zR w') (fac (zR w') fan))
    | 7, _ => exact sA_Q hb.size hb.size (fac (zQ w') (fac (zQ w') fan))
    | 8, _ => exact absurd rfl (hns _ (.head _))
    | 9, _ => exact absurd rfl (hns _ (.tail _ (.head _)))
    | _ + 10, h => exact absurd h (by omega)
  · refine fac ?_ (fac ?_ (fan))
    · intro a w' hb hiv hk hp ho hf
      exact sN_R (hp 6 rfl) (hp 4 rfl) (hp 4 rfl) hB3.size (hf 6 (.head _)) (fun _ h => h)
    · intro a w' hb hiv hk hp ho hf
      exact sN_Q (hp 7 rfl) (hp 5 rfl) (hp 5 rfl) hB3.size (hf 7 (.tail _ (.head _))) (fun _ h => h)
  intro a4 w4 hb4 hd4 hs4 hk4 hiv4 hsp4 hst4 hds4
  have hB4 := hB3.trans hb4
  replace hd4 := hd4.trans hd3
  have t2_4 := (hk4 2 (by decide)).trans t2_3
  have t3_4 := (hk4 3 (by decide)).trans t3_3
  have t8_4 := (hk4 8 (by decide)).trans t8_3
  obtain ⟨r9_4, v9_4, t9_4, b9_4, n9_4, I9_4⟩ := tnR (k := 9) (hst4 _ (.head _)) (hsp4 6 (by decide) (fac (nq rfl) (fac (nq rfl) fan))) hB3.size (by omega)
  clear hb4 hk4 hsp4 hst4 hds4 hiv4
  refine wp_seq ?_
  refine fxN (fun r => w4.heap.size ≤ r) Zr (l := regionOf Tryz.f5 6) false (by kernel_rfl) 10 88 w.heap.size [2, 3, 8, 9]
    [Xval _ _ (.string u), Xval _ _ (.string v), Xtup (Xrt _ _ qB) (Xqt _ qB), Xtup (Xrt _ _ qB) (Xqt _ qB), Xrt _ _ qB, Xqt _ qB, Sx.box _ w4.heap.size 28, Sx.box _ w4.heap.size 33, Sx.any _, Sx.any _]
    (Sx.and (XhR r9_4 (Nat.not_le_of_lt n9_4.lt) v9_4 (Xrt _ _ qA)) (Sx.any _)) [(11, some 6), (12, some 7)] [stNR 8 11 (Xrt _ _ qB), stNQ 9 12 (Xqt _ qB)] (by kernel_rfl) (by kernel_rfl) (by kernel_rfl) hs4 (And.intro (And.intro n9_4 I9_4) trivial) hB4.size (show ([8, 9] : List Nat).Nodup by decide) (fac nst (fac nst fan)) (fac (nby rfl) (fac (nby rfl) fan)) ?_ ?_ ?_
  · intro i hi hns a w' hb hiv hk hp hold
    obtain ⟨⟨n9, i9⟩, _⟩ := hiv
    have k2 := (hk 2 (by decide)).trans t2_4
    have k3 := (hk 3 (by decide)).trans t3_4
    match i, hi with
    | 0, _ => exact s_kmove k2 rfl (gf rfl)
    | 1, _ => exact s_kmove k3 rfl (gf rfl)
    | 2, _ => exact s_call2 enter_frac2 (arg2 (hp 0 rfl) (hp 1 rfl) (hqB w')) (gf rfl)
    | 3, _ => exact s_move (hp 2 rfl) (gf rfl)
    | 4, _ => exact s_ext0 (hp 3 rfl) (gf rfl)
    | 5, _ => exact s_ext1 (hp 3 rfl) (gf rfl)
    | 6, _ => exact sA_R hb.size hb.size (fac (zR w') (fac (zR w') fan))
    | 7, _ => exact sA_Q hb.size hb.size (fac (zQ w') (fac (zQ w') fan))
    | 8, _ => exact absurd rfl (hns _ (.head _))
    | 9, _ => exact absurd rfl (hns _ (.tail _ (.head _)))
    | _ + 10, h => exact absurd h (by omega)
  · refine fac ?_ (fac ?_ (fan))
    · intro a w' hb hiv hk hp ho hf
      exact sN_R (hp 6 rfl) (hp 4 rfl) (hp 4 rfl) hB4.size (hf 6 (.head _)) (fun _ h => h)
    · intro a w' hb hiv hk hp ho hf
      exact sN_Q (hp 7 rfl) (hp 5 rfl) (hp 5 rfl) hB4.size (hf 7 (.tail _ (.head _))) (fun _ h => h)
  intro a5 w5 hb5 hd5 hs5 hk5 hiv5 hsp5 hst5 hds5
  have hB5 := hB4.trans hb5
  replace hd5 := hd5.trans hd4
  obtain ⟨⟨n9_5, i9_5⟩, _⟩ := hiv5
  have t8_5 := (hk5 8 (by decide)).trans t8_4
  have t9_5 := (hk5 9 (by decide)).trans t9_4
  obtain ⟨r11_5, v11_5, t11_5, b11_5, n11_5, I11_5⟩ := tnR (k := 11) (hst5 _ (.head _)) (hsp5 6 (by decide) (fac (nq rfl) (fac (nq rfl) fan))) hB4.size (by omega)
  clear hb5 hk5 hsp5 hst5 hds5
  refine wp_seq ?_
  refine fxN (fun r => w5.heap.size ≤ r) Zr (l := regionOf Tryz.f5 7) false (by kernel_rfl) 9 88 w.heap.size [8, 9, 11]
    [Xnum _ _ 1, Xnum _ _ 2, Xtup (Xrt _ _ (Rat.divInt 1 2)) (Xval _ _ (.bool true)), Xtup (Xrt _ _ (Rat.divInt 1 2)) (Xval _ _ (.bool true)), Xrt _ _ (Rat.divInt 1 2), Xval _ _ (.bool true), Sx.box _ w5.heap.size 28, Sx.any _, Xval _ _ (.bool true)]
    (Sx.and (XhR r9_4 (Nat.not_le_of_lt n9_5.lt) v9_4 (Xrt _ _ qA)) (Sx.and (XhR r11_5 (Nat.not_le_of_lt n11_5.lt) v11_5 (Xrt _ _ qB)) (Sx.any _))) [(13, some 6)] [stNR 7 13 (Xrt _ _ (Rat.divInt 1 2))] (by kernel_rfl) (by kernel_rfl) (by kernel_rfl) hs5 (And.intro (And.intro n9_5 i9_5) (And.intro (And.intro n11_5 I11_5) trivial)) hB5.size (show ([7] : List Nat).Nodup by decide) (fac nst fan) (fac (nby rfl) fan) ?_ ?_ ?_
  · intro i hi hns a w' hb hiv hk hp hold
    obtain ⟨⟨n9, i9⟩, ⟨n11, i11⟩, _⟩ := hiv
    match i, hi with
    | 0, _ => exact s_callC enter_Of (of_ct 1 w' (by decide) (by decide)) (gf rfl)
    | 1, _ => exact s_callC enter_Of (of_ct 2 w' (by decide) (by decide)) (gf rfl)
    | 2, _ => exact s_call2 enter_rof (rof_any _ _ 1 2 w' (hp 0 rfl) (hp 1 rfl) (le1n (pw_one1) (by decide)) (le1n (pw_one2) (by decide))) (gf rfl)
    | 3, _ => exact s_move (hp 2 rfl) (gf rfl)
    | 4, _ => exact s_ext0 (hp 3 rfl) (gf rfl)
    | 5, _ => exact s_ext1 (hp 3 rfl) (gf rfl)
    | 6, _ => exact sA_R hb.size hb.size (fac (zR w') fan)
    | 7, _ => exact absurd rfl (hns _ (.head _))
    | 8, _ => exact s_assign (hp 5 rfl) (gf rfl)
    | _ + 9, h => exact absurd h (by omega)
  · refine fac ?_ (fan)
    · intro a w' hb hiv hk hp ho hf
      exact sN_R (hp 6 rfl) (hp 4 rfl) (hp 4 rfl) hB5.size (hf 6 (.head _)) (fun _ h => h)
  intro a6 w6 hb6 hd6 hs6 hk6 hiv6 hsp6 hst6 hds6
  have hB6 := hB5.trans hb6
  replace hd6 := hd6.trans hd5
  obtain ⟨⟨n9_6, i9_6⟩, ⟨n11_6, i11_6⟩, _⟩ := hiv6
  have t8_6 := (hk6 8 (by decide)).trans t8_5
  have t9_6 := (hk6 9 (by decide)).trans t9_5
  have t11_6 := (hk6 11 (by decide)).trans t11_5
  obtain ⟨r13_6, v13_6, t13_6, b13_6, n13_6, I13_6⟩ := tnR (k := 13) (hst6 _ (.head _)) (hsp6 6 (by decide) (fac (nq rfl) fan)) hB5.size (by omega)
  obtain ⟨v14_6, t14_6, I14_6⟩ : ∃ v, a6.tmps[14]? = some v ∧ v = (.bool true) := tv_get (k := 14) (hsp6 8 (by decide) (fac (nq rfl) fan)) (by omega)
  clear hb6 hk6 hsp6 hst6 hds6
  refine wp_seq ?_
  refine fxN (fun r => w6.heap.size ≤ r) Zr (l := regionOf Tryz.f5 8) true (by kernel_rfl) 7 88 w.heap.size [8, 9, 11, 13, 14]
    [Xrt _ _ qA, Xrt _ _ qB, Xrt _ _ (qA + qB), Xrt _ _ (Rat.divInt 1 2), Xrt _ _ ((qA + qB) * (Rat.divInt 1 2)), Sx.box _ w6.heap.size 28, Sx.any _]
    (Sx.and (XhR r9_4 (Nat.not_le_of_lt n9_6.lt) v9_4 (Xrt _ _ qA)) (Sx.and (XhR r11_5 (Nat.not_le_of_lt n11_6.lt) v11_5 (Xrt _ _ qB)) (Sx.and (XhR r13_6 (Nat.not_le_of_lt n13_6.lt) v13_6 (Xrt _ _ (Rat.divInt 1 2))) (Sx.any _)))) [(15, some 5)] [stNR 6 15 (Xrt _ _ ((qA + qB) * (Rat.divInt 1 2)))] (by kernel_rfl) (by kernel_rfl) (by kernel_rfl) hs6 (And.intro (And.intro n9_6 i9_6) (And.intro (And.intro n11_6 i11_6) (And.intro (And.intro n13_6 I13_6) trivial))) hB6.size (show ([6] : List Nat).Nodup by decide) (fac nst fan) (fac (nby rfl) fan) ?_ ?_ ?_
  · intro i hi hns a w' hb hiv hk hp hold
    obtain ⟨⟨n9, i9⟩, ⟨n11, i11⟩, ⟨n13, i13⟩, _⟩ := hiv
    have k9 := (hk 9 (by decide)).trans t9_6
    have k11 := (hk 11 (by decide)).trans t11_6
    have k13 := (hk 13 (by decide)).trans t13_6
    match i, hi with
    | 0, _ => exact s_load k9 (load_R n9) i9 (gf rfl)
    | 1, _ => exact s_load k11 (load_R n11) i11 (gf rfl)
    | 2, _ => exact s_call2 enter_radd (radd_any _ _ qA qB w' (hp 0 rfl) (hp 1 rfl) (bqA.mono (by decide)) (bqB.mono (by decide))) (gf rfl)
    | 3, _ => exact s_load k13 (load_R n13) i13 (gf rfl)
    | 4, _ => exact s_call2 enter_rmul (rmul_any _ _ (qA + qB) (Rat.divInt 1 2) w' (hp 2 rfl) (hp 3 rfl) ((Bd.add2 bqA bqB).mono (by decide)) (bd_half.mono (by decide))) (gf rfl)
    | 5, _ => exact sA_R hb.size hb.size (fac (zR w') fan)
    | 6, _ => exact absurd rfl (hns _ (.head _))
    | _ + 7, h => exact absurd h (by omega)
  · refine fac ?_ (fan)
    · intro a w' hb hiv hk hp ho hf
      exact sN_R (hp 5 rfl) (hp 4 rfl) (hp 4 rfl) hB6.size (hf 5 (.head _)) (fun _ h => h)
  intro a7 w7 hb7 hd7 hs7 hk7 hiv7 hsp7 hst7 hds7
  have hB7 := hB6.trans hb7
  replace hd7 := hd7.trans hd6
  obtain ⟨⟨n9_7, i9_7⟩, ⟨n11_7, i11_7⟩, ⟨n13_7, i13_7⟩, _⟩ := hiv7
  have t8_7 := (hk7 8 (by decide)).trans t8_6
  have t9_7 := (hk7 9 (by decide)).trans t9_6
  have t11_7 := (hk7 11 (by decide)).trans t11_6
  have t14_7 := (hk7 14 (by decide)).trans t14_6
  obtain ⟨r15_7, v15_7, t15_7, b15_7, n15_7, I15_7⟩ := tnR (k := 15) (hst7 _ (.head _)) (hsp7 5 (by decide) (fac (nq rfl) fan)) hB6.size (by omega)
  clear hb7 hk7 hsp7 hst7 hds7
  refine wp_seq ?_
  refine fx3n Zr (l := regionOf Tryz.f5 9) true (by kernel_rfl) 41 88 w.heap.size [9, 11, 14, 15] [Xval _ _ (.bool true), Xval _ _ (.bool true), Xrt _ _ qA, Xrt _ _ ((qA + qB) * (Rat.divInt 1 2)), Xval _ _ (.int .i64 (cmpQ qA ((qA + qB) * (Rat.divInt 1 2)))), Xrt _ _ qA, Xrt _ _ qB, Xval _ _ (.int .i64 (cmpQ qA qB)), Xval _ _ (.bool true), Xval _ _ (.bool true), Xval _ _ (.bool true), Xrt _ _ ((qA + qB) * (Rat.divInt 1 2)), Xrt _ _ qB, Xval _ _ (.int .i64 (cmpQ ((qA + qB) * (Rat.divInt 1 2)) qB)), Xrt _ _ qA, Xrt _ _ qB, Xval _ _ (.int .i64 (cmpQ qA qB)), Xval _ _ (.bool true), Xval _ _ (.bool true), Xval _ _ (.bool true), Xrt _ _ ((qA + qB) * (Rat.divInt 1 2)), Xrt _ _ ((qA + qB) * (Rat.divInt 1 2)), Xrt _ _ (((qA + qB) * (Rat.divInt 1 2)) + ((qA + qB) * (Rat.divInt 1 2))), Xrt _ _ qA, Xrt _ _ qB, Xrt _ _ (qA + qB), Xval _ _ (.int .i64 (cmpQ (((qA + qB) * (Rat.divInt 1 2)) + ((qA + qB) * (Rat.divInt 1 2))) (qA + qB))), Xval _ _ (.bool true), Xval _ _ (.bool true), Xval _ _ (.bool true), Xrt _ _ qA, Xrt _ _ qB, Xval _ _ (.int .i64 (cmpQ qA qB)), Xrt _ _ qA, Xrt _ _ qB, Xrt _ _ (qA - qB), Xnum _ _ ((qA - qB).num), Xval _ _ (.int .i64 (sgn ((qA - qB).num))), Xval _ _ (.bool true), Xval _ _ (.bool true), Xval _ _ (.bool true)] (Sx.and (XhR r9_4 (fun h => h) v9_4 (Xrt _ _ qA)) (Sx.and (XhR r11_5 (fun h => h) v11_5 (Xrt _ _ qB)) (Sx.and (XhR r15_7 (fun h => h) v15_7 (Xrt _ _ ((qA + qB) * (Rat.divInt 1 2)))) (Sx.any _)))) (by kernel_rfl) (by kernel_rfl) (by kernel_rfl) hs7 (And.intro (And.intro n9_7 i9_7) (And.intro (And.intro n11_7 i11_7) (And.intro (And.intro n15_7 I15_7) trivial))) hB7.size ?_ ?_
  · intro i hi a w' hb hiv hk hp
    obtain ⟨⟨n9, i9⟩, ⟨n11, i11⟩, ⟨n15, i15⟩, _⟩ := hiv
    have k9 := (hk 9 (by decide)).trans t9_7
    have k11 := (hk 11 (by decide)).trans t11_7
    have k14 := (hk 14 (by decide)).trans t14_7
    have k15 := (hk 15 (by decide)).trans t15_7
    match i, hi with
    | 0, _ => exact s_kmove k14 I14_6 gt
    | 1, _ => exact s_move (hp 0 rfl) gt
    | 2, _ => exact s_load k9 (load_R n9) i9 gt (wanted_slot rfl (hp 1 rfl) rfl)
    | 3, _ => exact s_load k15 (load_R n15) i15 gt (wanted_slot rfl (hp 1 rfl) rfl)
    | 4, _ => exact s_call2 enter_rcmp (rcmp_any _ _ qA ((qA + qB) * (Rat.divInt 1 2)) w' (hp 2 rfl) (hp 3 rfl) (bqA.mono (by decide)) ((Bd.mul2 (Bd.add2 bqA bqB) bd_half).mono (by decide))) gt (wanted_slot rfl (hp 1 rfl) rfl)
    | 5, _ => exact s_load k9 (load_R n9) i9 gt (wanted_slot rfl (hp 1 rfl) rfl)
    | 6, _ => exact s_load k11 (load_R n11) i11 gt (wanted_slot rfl (hp 1 rfl) rfl)
    | 7, _ => exact s_call2 enter_rcmp (rcmp_any _ _ qA qB w' (hp 5 rfl) (hp 6 rfl) (bqA.mono (by decide)) (bqB.mono (by decide))) gt (wanted_slot rfl (hp 1 rfl) rfl)
    | 8, _ => exact s_eql (hp 4 rfl) (hp 7 rfl) (congrArg Value.bool (show ((cmpQ qA ((qA + qB) * (Rat.divInt 1 2))) == (cmpQ qA qB)) = true from cmpQ_same (mid_a half2) (mid_b half2))) gt (wanted_slot rfl (hp 1 rfl) rfl)
    | 9, _ => exact s_pickT (hp 1 rfl) (hp 8 rfl) gt
    | 10, _ => exact s_move (hp 9 rfl) gt
    | 11, _ => exact s_load k15 (load_R n15) i15 gt (wanted_slot rfl (hp 10 rfl) rfl)
    | 12, _ => exact s_load k11 (load_R n11) i11 gt (wanted_slot rfl (hp 10 rfl) rfl)
    | 13, _ => exact s_call2 enter_rcmp (rcmp_any _ _ ((qA + qB) * (Rat.divInt 1 2)) qB w' (hp 11 rfl) (hp 12 rfl) ((Bd.mul2 (Bd.add2 bqA bqB) bd_half).mono (by decide)) (bqB.mono (by decide))) gt (wanted_slot rfl (hp 10 rfl) rfl)
    | 14, _ => exact s_load k9 (load_R n9) i9 gt (wanted_slot rfl (hp 10 rfl) rfl)
    | 15, _ => exact s_load k11 (load_R n11) i11 gt (wanted_slot rfl (hp 10 rfl) rfl)
    | 16, _ => exact s_call2 enter_rcmp (rcmp_any _ _ qA qB w' (hp 14 rfl) (hp 15 rfl) (bqA.mono (by decide)) (bqB.mono (by decide))) gt (wanted_slot rfl (hp 10 rfl) rfl)
    | 17, _ => exact s_eql (hp 13 rfl) (hp 16 rfl) (congrArg Value.bool (show ((cmpQ ((qA + qB) * (Rat.divInt 1 2)) qB) == (cmpQ qA qB)) = true from cmpQ_same (mid_c half2) (mid_d half2))) gt (wanted_slot rfl (hp 10 rfl) rfl)
    | 18, _ => exact s_pickT (hp 10 rfl) (hp 17 rfl) gt
    | 19, _ => exact s_move (hp 18 rfl) gt
    | 20, _ => exact s_load k15 (load_R n15) i15 gt (wanted_slot rfl (hp 19 rfl) rfl)
    | 21, _ => exact s_load k15 (load_R n15) i15 gt (wanted_slot rfl (hp 19 rfl) rfl)
    | 22, _ => exact s_call2 enter_radd (radd_any _ _ ((qA + qB) * (Rat.divInt 1 2)) ((qA + qB) * (Rat.divInt 1 2)) w' (hp 20 rfl) (hp 21 rfl) ((Bd.mul2 (Bd.add2 bqA bqB) bd_half).mono (by decide)) ((Bd.mul2 (Bd.add2 bqA bqB) bd_half).mono (by decide))) gt (wanted_slot rfl (hp 19 rfl) rfl)
    | 23, _ => exact s_load k9 (load_R n9) i9 gt (wanted_slot rfl (hp 19 rfl) rfl)
    | 24, _ => exact s_load k11 (load_R n11) i11 gt (wanted_slot rfl (hp 19 rfl) rfl)
    | 25, _ => exact s_call2 enter_radd (radd_any _ _ qA qB w' (hp 23 rfl) (hp 24 rfl) (bqA.mono (by decide)) (bqB.mono (by decide))) gt (wanted_slot rfl (hp 19 rfl) rfl)
    | 26, _ => exact s_call2 enter_rcmp (rcmp_any _ _ (((qA + qB) * (Rat.divInt 1 2)) + ((qA + qB) * (Rat.divInt 1 2))) (qA + qB) w' (hp 22 rfl) (hp 25 rfl) ((Bd.add2 (Bd.mul2 (Bd.add2 bqA bqB) bd_half) (Bd.mul2 (Bd.add2 bqA bqB) bd_half)).mono (by decide)) ((Bd.add2 bqA bqB).mono (by decide))) gt (wanted_slot rfl (hp 19 rfl) rfl)
    | 27, _ => exact s_eql (hp 26 rfl) rfl (congrArg Value.bool (show ((cmpQ (((qA + qB) * (Rat.divInt 1 2)) + ((qA + qB) * (Rat.divInt 1 2))) (qA + qB)) == 0) = true from cmpQ_eq (mid_e half2))) gt (wanted_slot rfl (hp 19 rfl) rfl)
    | 28, _ => exact s_pickT (hp 19 rfl) (hp 27 rfl) gt
    | 29, _ => exact s_move (hp 28 rfl) gt
    | 30, _ => exact s_load k9 (load_R n9) i9 gt (wanted_slot rfl (hp 29 rfl) rfl)
    | 31, _ => exact s_load k11 (load_R n11) i11 gt (wanted_slot rfl (hp 29 rfl) rfl)
    | 32, _ => exact s_call2 enter_rcmp (rcmp_any _ _ qA qB w' (hp 30 rfl) (hp 31 rfl) (bqA.mono (by decide)) (bqB.mono (by decide))) gt (wanted_slot rfl (hp 29 rfl) rfl)
    | 33, _ => exact s_load k9 (load_R n9) i9 gt (wanted_slot rfl (hp 29 rfl) rfl)
    | 34, _ => exact s_load k11 (load_R n11) i11 gt (wanted_slot rfl (hp 29 rfl) rfl)
    | 35, _ => exact s_call2 enter_rsub (rsub_any _ _ qA qB w' (hp 33 rfl) (hp 34 rfl) (bqA.mono (by decide)) (bqB.mono (by decide))) gt (wanted_slot rfl (hp 29 rfl) rfl)
    | 36, _ => exact s_call1 enter_top (rtop_any _ (qA - qB) w' (hp 35 rfl) ((Bd.sub2 bqA bqB).mono (by decide))) gt (wanted_slot rfl (hp 29 rfl) rfl)
    | 37, _ => exact s_call1 enter_Sign (sign_ct _ ((qA - qB).num) w' (hp 36 rfl)) gt (wanted_slot rfl (hp 29 rfl) rfl)
    | 38, _ => exact s_eql (hp 32 rfl) (hp 37 rfl) (congrArg Value.bool (show ((cmpQ qA qB) == (sgn ((qA - qB).num))) = true from cmp_sub _ _)) gt (wanted_slot rfl (hp 29 rfl) rfl)
    | 39, _ => exact s_pickT (hp 29 rfl) (hp 38 rfl) gt
    | 40, _ => exact s_assign (hp 39 rfl) gt
    | _ + 41, h => exact absurd h (by omega)
  intro a8 w8 hb8 hd8 hs8 hk8 hiv8 hsp8
  have hB8 := hB7.trans hb8
  replace hd8 := hd8.trans hd7
  obtain ⟨⟨n9_8, i9_8⟩, ⟨n11_8, i11_8⟩, ⟨n15_8, i15_8⟩, _⟩ := hiv8
  obtain ⟨v8_8, t8_8, I8_8⟩ : ∃ v, a8.tmps[8]? = some v ∧ v = (.bool true) := tv_get (k := 8) (hsp8 40 (by decide)) (by omega)
  clear hb8 hk8 hsp8
  refine wp_ret ?_
  repeat first | refine then_ret ?_ | refine inBlock_ret ?_
  refine bodyPost_ret (res_t rfl t8_8) hd8 ⟨_, rfl, hB8, ?_⟩
  exact I8_8

theorem halves_walk (s t u v : ByteArray) (w : World) (hT : Tab w) (hz : ∀ z ∈ [s, t, u, v], z.size ≤ 9223372036854775807) :
    Calls Tryz.prog 5 #[.string s, .string t, .string u, .string v] w fun e w' => e = .returned (.bool true) ∧ Below w.heap.size w w' := by
  by_cases h : ∀ z ∈ [s, t, u, v], z.size ≤ 120
  · skip
    obtain ⟨qA, bqA, kqA, hqA⟩ := frac2_all s t (h s (by simp)) (h t (by simp))
    obtain ⟨qB, bqB, kqB, hqB⟩ := frac2_all u v (h u (by simp)) (h v (by simp))
    refine Calls.mono (halves_yes s t u v qA qB h bqA kqA hqA bqB kqB hqB w hT) ?_
    rintro e w' ⟨r, rfl, hb, rfl⟩
    exact ⟨rfl, hb⟩
  · refine Calls.mono (halves_no s t u v hz h w hT) ?_
    rintro e w' ⟨r, rfl, hb, rfl⟩
    exact ⟨rfl, hb⟩

end Go.Proofs.YtlcfldkmojpkpaaGreatDoor

namespace Go.Proofs.YtlcfldkmojpkpaaGreatDoor
open Go.ChangeShapes Go.WideShapes Go.ChangeAt Go.RowKit
open Go.ChangeMaps (open_string shut_string)

theorem ratHalves_own : ownKnob Tryz.prog.godebug = none := by kernel_rfl
theorem ratHalves_g : Tryz.prog.globalNamed "internal/strconv.uint64pow10" = some 0 := by kernel_rfl
theorem ratHalves_gt : (Tryz.prog.globals[0]?).map (·.type) = some 134 := by kernel_rfl
theorem ratHalves_ca : Tryz.prog.cellsOf 134 = 20 := by kernel_rfl
theorem ratHalves_ce : Tryz.prog.cellsOf 86 = 1 := by kernel_rfl
theorem ratHalves_table {W : World} (h : laidMetH Tryz.prog Rows.ratHalvesRow.laid W) : Tab W := by
  have h1 := laidMetH.filter (fun x => x.1 == "internal/strconv.uint64pow10") h
  have e : Rows.ratHalvesRow.laid.filter (fun x => x.1 == "internal/strconv.uint64pow10") = [("internal/strconv.uint64pow10", Lib.tabData .u64 Lib.pow10Tab)] := by kernel_rfl
  rw [e] at h1
  exact Lib.tabIs_of_head (rest := []) ratHalves_g ratHalves_gt Tryz.underlying134 Tryz.underlying86 ratHalves_ce ratHalves_ca h1

set_option maxRecDepth 100000 in
theorem ratHalves_contract (H : Type) (enc : TypeId × Value → H) (W : World) (base : Nat) (args : Array Value) (ds gs : List (DataW H)) (before : List MemPlace)
    (hval : ∀ (j : Nat) t v, Tryz.f5.params[j]? = some t → args[j]? = some v → Value.okWide Tryz.prog W .any base t v)
    (hW : DataW.Whole enc Tryz.prog Tryz.f5.params.toList Rows.ratHalvesSpec.vars false W args.toList ds gs before) (hL : laidMetH Tryz.prog Rows.ratHalvesRow.laid W) :
    Calls Tryz.prog 5 args W fun e W' => ∃ v, e = .returned v ∧ Rows.ratHalvesSpec.post enc Tryz.prog Tryz.f5 false true false false W args v W' := by
  have hW' := hW
  obtain ⟨p, q, hA0, hV, rfl, hfz, hnd⟩ := hW
  have hA : DataW.TrodAll enc Tryz.prog W 0 (fun _ => true) true Tryz.f5.params.toList args.toList ds p := hA0
  rw [Tryz.params5] at hA hval
  obtain ⟨v0, vs0, d0, ds0, p0, q0, hargs, rfl, rfl, h0, r0⟩ := trodAll_cons hA
  obtain ⟨v1, vs1, d1, ds1, p1, q1, rfl, rfl, rfl, h1, r1⟩ := trodAll_cons r0
  obtain ⟨v2, vs2, d2, ds2, p2, q2, rfl, rfl, rfl, h2, r2⟩ := trodAll_cons r1
  obtain ⟨v3, vs3, d3, ds3, p3, q3, rfl, rfl, rfl, h3, r3⟩ := trodAll_cons r2
  obtain ⟨rfl, rfl, rfl⟩ := trodAll_nil r3
  obtain rfl : args = #[v0, v1, v2, v3] := by cases args; simp_all
  obtain ⟨rfl, rfl⟩ := trodVars_none hV
  obtain ⟨s0, rfl, rfl, rfl, w0⟩ := open_string Tryz.underlying9 (hval 0 9 v0 rfl rfl) h0
  obtain ⟨s1, rfl, rfl, rfl, w1⟩ := open_string Tryz.underlying9 (hval 1 9 v1 rfl rfl) h1
  obtain ⟨s2, rfl, rfl, rfl, w2⟩ := open_string Tryz.underlying9 (hval 2 9 v2 rfl rfl) h2
  obtain ⟨s3, rfl, rfl, rfl, w3⟩ := open_string Tryz.underlying9 (hval 3 9 v3 rfl rfl) h3
  clear hA0 hargs
  simp only [List.append_nil] at hW'
  have m0 : s0.size ≤ 9223372036854775807 := by unfold maxLen at w0; omega
  have m1 : s1.size ≤ 9223372036854775807 := by unfold maxLen at w1; omega
  have m2 : s2.size ≤ 9223372036854775807 := by unfold maxLen at w2; omega
  have m3 : s3.size ≤ 9223372036854775807 := by unfold maxLen at w3; omega
  refine (halves_walk s0 s1 s2 s3 W (ratHalves_table hL) (fac m0 (fac m1 (fac m2 (fac m3 fan))))).mono fun e W' ⟨he, hnx⟩ => ?_
  subst he
  refine ⟨_, rfl, _, _, _, [], [], [], hW', ?_, ?_, rfl, hnx.frame _, fun h => by cases h⟩
  · exact trodAll_cons_mk (shut_bool Tryz.underlying4 _) trodAll_mk0
  · exact (trodAll_cons_mk (shut_string Tryz.underlying9 w0) (trodAll_cons_mk (shut_string Tryz.underlying9 w1) (trodAll_cons_mk (shut_string Tryz.underlying9 w2) (trodAll_cons_mk (shut_string Tryz.underlying9 w3) trodAll_mk0))))

def ratHalves_put (cs : Array Value) : Obj → Obj
  | .cells _ t frozen => .cells cs t frozen
  | o => o
theorem ratHalves_met (os : Os) : laidMet Tryz.prog Rows.ratHalvesRow.laid (({ World.holding Tryz.prog os ⟨#[], #[], []⟩ with heap := (((World.holding Tryz.prog os ⟨#[], #[], []⟩).heap.modify 0 (ratHalves_put #[.int .u64 1, .int .u64 10, .int .u64 100, .int .u64 1000, .int .u64 10000, .int .u64 100000, .int .u64 1000000, .int .u64 10000000, .int .u64 100000000, .int .u64 1000000000, .int .u64 10000000000, .int .u64 100000000000, .int .u64 1000000000000, .int .u64 10000000000000, .int .u64 100000000000000, .int .u64 1000000000000000, .int .u64 10000000000000000, .int .u64 100000000000000000, .int .u64 1000000000000000000, .int .u64 10000000000000000000])).modify 1 (ratHalves_put #[.int .u8 0, .int .u8 1, .int .u8 28, .int .u8 2, .int .u8 29, .int .u8 14, .int .u8 24, .int .u8 3, .int .u8 30, .int .u8 22, .int .u8 20, .int .u8 15, .int .u8 25, .int .u8 17, .int .u8 4, .int .u8 8, .int .u8 31, .int .u8 27, .int .u8 13, .int .u8 23, .int .u8 21, .int .u8 19, .int .u8 16, .int .u8 7, .int .u8 26, .int .u8 12, .int .u8 18, .int .u8 6, .int .u8 11, .int .u8 5, .int .u8 10, .int .u8 9])).modify 2 (ratHalves_put #[.int .u8 0, .int .u8 1, .int .u8 56, .int .u8 2, .int .u8 57, .int .u8 49, .int .u8 28, .int .u8 3, .int .u8 61, .int .u8 58, .int .u8 42, .int .u8 50, .int .u8 38, .int .u8 29, .int .u8 17, .int .u8 4, .int .u8 62, .int .u8 47, .int .u8 59, .int .u8 36, .int .u8 45, .int .u8 43, .int .u8 51, .int .u8 22, .int .u8 53, .int .u8 39, .int .u8 33, .int .u8 30, .int .u8 24, .int .u8 18, .int .u8 12, .int .u8 5, .int .u8 63, .int .u8 55, .int .u8 48, .int .u8 27, .int .u8 60, .int .u8 41, .int .u8 37, .int .u8 16, .int .u8 46, .int .u8 35, .int .u8 44, .int .u8 21, .int .u8 52, .int .u8 32, .int .u8 23, .int .u8 11, .int .u8 54, .int .u8 26, .int .u8 40, .int .u8 15, .int .u8 34, .int .u8 20, .int .u8 31, .int .u8 10, .int .u8 25, .int .u8 14, .int .u8 19, .int .u8 9, .int .u8 13, .int .u8 8, .int .u8 7, .int .u8 6]) } : World).forCall (fun _ _ => 0) ⟨#[], #[.string ⟨#[]⟩, .string ⟨#[]⟩, .string ⟨#[]⟩, .string ⟨#[]⟩], []⟩).memory :=
  laidMet_of_run' 8 (by kernel_rfl) (by kernel_rfl)
theorem ratHalves_reads (os : Os) {H : Type} (enc : TypeId × Value → H) : ∃ places, DataW.whole enc Tryz.prog (({ World.holding Tryz.prog os ⟨#[], #[], []⟩ with heap := (((World.holding Tryz.prog os ⟨#[], #[], []⟩).heap.modify 0 (ratHalves_put #[.int .u64 1, .int .u64 10, .int .u64 100, .int .u64 1000, .int .u64 10000, .int .u64 100000, .int .u64 1000000, .int .u64 10000000, .int .u64 100000000, .int .u64 1000000000, .int .u64 10000000000, .int .u64 100000000000, .int .u64 1000000000000, .int .u64 10000000000000, .int .u64 100000000000000, .int .u64 1000000000000000, .int .u64 10000000000000000, .int .u64 100000000000000000, .int .u64 1000000000000000000, .int .u64 10000000000000000000])).modify 1 (ratHalves_put #[.int .u8 0, .int .u8 1, .int .u8 28, .int .u8 2, .int .u8 29, .int .u8 14, .int .u8 24, .int .u8 3, .int .u8 30, .int .u8 22, .int .u8 20, .int .u8 15, .int .u8 25, .int .u8 17, .int .u8 4, .int .u8 8, .int .u8 31, .int .u8 27, .int .u8 13, .int .u8 23, .int .u8 21, .int .u8 19, .int .u8 16, .int .u8 7, .int .u8 26, .int .u8 12, .int .u8 18, .int .u8 6, .int .u8 11, .int .u8 5, .int .u8 10, .int .u8 9])).modify 2 (ratHalves_put #[.int .u8 0, .int .u8 1, .int .u8 56, .int .u8 2, .int .u8 57, .int .u8 49, .int .u8 28, .int .u8 3, .int .u8 61, .int .u8 58, .int .u8 42, .int .u8 50, .int .u8 38, .int .u8 29, .int .u8 17, .int .u8 4, .int .u8 62, .int .u8 47, .int .u8 59, .int .u8 36, .int .u8 45, .int .u8 43, .int .u8 51, .int .u8 22, .int .u8 53, .int .u8 39, .int .u8 33, .int .u8 30, .int .u8 24, .int .u8 18, .int .u8 12, .int .u8 5, .int .u8 63, .int .u8 55, .int .u8 48, .int .u8 27, .int .u8 60, .int .u8 41, .int .u8 37, .int .u8 16, .int .u8 46, .int .u8 35, .int .u8 44, .int .u8 21, .int .u8 52, .int .u8 32, .int .u8 23, .int .u8 11, .int .u8 54, .int .u8 26, .int .u8 40, .int .u8 15, .int .u8 34, .int .u8 20, .int .u8 31, .int .u8 10, .int .u8 25, .int .u8 14, .int .u8 19, .int .u8 9, .int .u8 13, .int .u8 8, .int .u8 7, .int .u8 6]) } : World).forCall (fun _ _ => 0) ⟨#[], #[.string ⟨#[]⟩, .string ⟨#[]⟩, .string ⟨#[]⟩, .string ⟨#[]⟩], []⟩).memory Tryz.f5.params.toList Rows.ratHalvesSpec.vars false #[Value.string ⟨#[]⟩, Value.string ⟨#[]⟩, Value.string ⟨#[]⟩, Value.string ⟨#[]⟩].toList 8 = some ([.lit (.string []), .lit (.string []), .lit (.string []), .lit (.string [])], [], places) :=
  ⟨[], by kernel_rfl⟩

set_option maxRecDepth 100000 in
theorem ratHalves_lifted (os : Os) (started : os.Started) (H : Type) (enc : TypeId × Value → H) (F : Stop.Interp) :
    ReturnsInHanded {} Tryz.checked os 5 .any ((OpenSpec.ofChange Rows.ratHalvesSpec).preRow enc Tryz.prog Tryz.f5 Rows.ratHalvesRow.domain false Rows.ratHalvesRow.laid) (((OpenSpec.ofChange Rows.ratHalvesSpec).at F).post enc Tryz.prog Tryz.f5 false true false false) := by
  obtain ⟨places, hx⟩ := ratHalves_reads os enc
  refine returnsInHanded_of_row (C := Tryz.checked) (s := OpenSpec.ofChange Rows.ratHalvesSpec) ratHalves_own started (by kernel_rfl) Tryz.func5
    (witness_row_at (enc := enc) (C := Tryz.checked) false ({ World.holding Tryz.prog os ⟨#[], #[], []⟩ with heap := (((World.holding Tryz.prog os ⟨#[], #[], []⟩).heap.modify 0 (ratHalves_put #[.int .u64 1, .int .u64 10, .int .u64 100, .int .u64 1000, .int .u64 10000, .int .u64 100000, .int .u64 1000000, .int .u64 10000000, .int .u64 100000000, .int .u64 1000000000, .int .u64 10000000000, .int .u64 100000000000, .int .u64 1000000000000, .int .u64 10000000000000, .int .u64 100000000000000, .int .u64 1000000000000000, .int .u64 10000000000000000, .int .u64 100000000000000000, .int .u64 1000000000000000000, .int .u64 10000000000000000000])).modify 1 (ratHalves_put #[.int .u8 0, .int .u8 1, .int .u8 28, .int .u8 2, .int .u8 29, .int .u8 14, .int .u8 24, .int .u8 3, .int .u8 30, .int .u8 22, .int .u8 20, .int .u8 15, .int .u8 25, .int .u8 17, .int .u8 4, .int .u8 8, .int .u8 31, .int .u8 27, .int .u8 13, .int .u8 23, .int .u8 21, .int .u8 19, .int .u8 16, .int .u8 7, .int .u8 26, .int .u8 12, .int .u8 18, .int .u8 6, .int .u8 11, .int .u8 5, .int .u8 10, .int .u8 9])).modify 2 (ratHalves_put #[.int .u8 0, .int .u8 1, .int .u8 56, .int .u8 2, .int .u8 57, .int .u8 49, .int .u8 28, .int .u8 3, .int .u8 61, .int .u8 58, .int .u8 42, .int .u8 50, .int .u8 38, .int .u8 29, .int .u8 17, .int .u8 4, .int .u8 62, .int .u8 47, .int .u8 59, .int .u8 36, .int .u8 45, .int .u8 43, .int .u8 51, .int .u8 22, .int .u8 53, .int .u8 39, .int .u8 33, .int .u8 30, .int .u8 24, .int .u8 18, .int .u8 12, .int .u8 5, .int .u8 63, .int .u8 55, .int .u8 48, .int .u8 27, .int .u8 60, .int .u8 41, .int .u8 37, .int .u8 16, .int .u8 46, .int .u8 35, .int .u8 44, .int .u8 21, .int .u8 52, .int .u8 32, .int .u8 23, .int .u8 11, .int .u8 54, .int .u8 26, .int .u8 40, .int .u8 15, .int .u8 34, .int .u8 20, .int .u8 31, .int .u8 10, .int .u8 25, .int .u8 14, .int .u8 19, .int .u8 9, .int .u8 13, .int .u8 8, .int .u8 7, .int .u8 6]) } : World) #[.string ⟨#[]⟩, .string ⟨#[]⟩, .string ⟨#[]⟩, .string ⟨#[]⟩] rfl (by kernel_rfl) (by kernel_rfl) (by kernel_rfl)
      (OpenSpec.preRow_of_cond 8 hx (by kernel_rfl) (fun k hk => by cases hk) (by kernel_rfl) (ratHalves_met os))) ?_
  intro W base args ds gs before hval hW _ _ _ hL _ _
  exact ratHalves_contract H enc W base args ds gs before hval hW hL

theorem ratHalves_said : Rows.RatHalvesSaid :=
  OpenClaim.holds_of_cond 5 Tryz.f5 rfl rfl rfl rfl rfl rfl rfl ⟨rfl, rfl, rfl, rfl, rfl⟩ rfl rfl rfl rfl rfl (by kernel_rfl) Tryz.func5 (by kernel_rfl)
    (of_decide_eq_true (by kernel_rfl)) (by unfold Func.isWrapper; first | (rw [if_pos (by decide +kernel)]; kernel_rfl) | (rw [if_neg (by decide +kernel)]; exact ⟨rfl, rfl⟩))
    (fun os started H enc _ F => by rw [OpenClaim.pre_eq_preRow]; exact ratHalves_lifted os started H enc F)

theorem ratHalves_plain (f : FuncId) (fn : Func) (hf : Tryz.pinned.checked.prog.funcNamed "avow/avowlaw2.RatHalves" = some f) (hfn : Tryz.pinned.checked.prog.funcs[f]? = some fn) :
    false = Tryz.pinned.checked.prog.looks [] ∧ ∀ (j : Nat) t, fn.params[j]? = some t → Tryz.pinned.checked.prog.wantsStandIn t = false := by
  obtain rfl : f = 5 := Option.some.inj ((show Tryz.prog.funcNamed "avow/avowlaw2.RatHalves" = some 5 by kernel_rfl).symm.trans hf) |>.symm
  obtain rfl : fn = Tryz.f5 := (Option.some.inj (Tryz.func5.symm.trans hfn)).symm
  refine ⟨by kernel_rfl, fun j t ht => ?_⟩
  rw [Tryz.params5] at ht
  obtain rfl : t = 9 := by simpa using Array.mem_of_getElem? ht
  exact (show Tryz.prog.wantsStandIn 9 = false by kernel_rfl)

theorem ratHalves_holds : Rows.RatHalvesCardSaid :=
  Claim7.holds_tied_plain_at .later [] _ _ _ _ ratHalves_said (fun _ h => by cases h) (by kernel_rfl) (fun _ h => by cases h) ratHalves_row_tie rfl ⟨rfl, rfl⟩ (by kernel_rfl) rfl ratHalves_plain (by kernel_rfl)

end Go.Proofs.YtlcfldkmojpkpaaGreatDoor
