/- RatReckons: for every four texts the law returns true and leaves them as they were; its row lists three tables of the library, which the card ties to the program's text. -/
import Derived.Test.YtlcfldkmojpkpaaGreatDoorGB
import Derived.Laws.Strings
import Derived.Test.YtlcfldkmojpkpaaGreatDoorCards
import Derived.Test.YtlcfldkmojpkpaaGreatDoorTie
import Derived.WalkKit
import Derived.ProofKit
import Derived.OpenShut
import Derived.Deep.DeepHandedRow
import Derived.Lib.LaidTab
import Derived.LaidSub
import Derived.ChangeMaps5

/- The example of avowlaw2; its lists of texts. -/
/- Fractions as Rat: package rat's functions are the rationals'. -/
namespace Go.Proofs.YtlcfldkmojpkpaaGreatDoor
open Go Go.RowKit

theorem bel_low {d : Int} (h : d ≠ 0) : bel (lowB d) = d := by
  unfold bel lowB
  by_cases h1 : d = 1
  · simp [h1]
  · simp [h1, h]
theorem rat_low {q : Rat} {N M P D : Int} (hq : q = Rat.divInt N M) (hM : M ≠ 0) (hD : 0 < D) (hc : P.natAbs.Coprime D.natAbs) (hx : P * M = N * D) : q.num = P ∧ (q.den : Int) = D := by
  have h1 : q = Rat.divInt P D := by
    rw [hq]
    exact (Rat.divInt_eq_divInt_iff hM (by omega)).2 hx.symm
  obtain ⟨d, rfl⟩ : ∃ d : Nat, D = (d : Int) := ⟨D.toNat, by omega⟩
  have hd : d ≠ 0 := by omega
  have h2 : q = ⟨P, d, hd, by simpa using hc⟩ := by
    rw [h1, Rat.mk_eq_divInt]
  rw [h2]
  exact ⟨rfl, rfl⟩
theorem cop_of {a b : Nat} (h : ∀ d, d ∣ a → d ∣ b → d = 1) : a.Coprime b := h _ (Nat.gcd_dvd_left a b) (Nat.gcd_dvd_right a b)
theorem cop_lin {p y x : Int} (s : Int) (c1 : p.natAbs.Coprime x.natAbs) (c2 : y.natAbs.Coprime x.natAbs) : (p * y + s * x).natAbs.Coprime x.natAbs := by
  apply cop_of
  intro d h1 h2
  have h3 : (d : Int) ∣ p * y + s * x := Int.ofNat_dvd_left.2 h1
  have h4 : (d : Int) ∣ x := Int.ofNat_dvd_left.2 h2
  have h5 : (d : Int) ∣ p * y := (Int.dvd_add_left (Int.dvd_trans h4 (Int.dvd_mul_left s x))).1 h3
  have h6 : d ∣ p.natAbs * y.natAbs := by rw [← Int.natAbs_mul]; exact Int.ofNat_dvd_left.1 h5
  have h7 : d.Coprime y.natAbs := Nat.Coprime.coprime_dvd_left h2 c2.symm
  have h8 : d ∣ p.natAbs := Nat.Coprime.dvd_of_dvd_mul_right h7 h6
  exact Nat.Coprime.eq_one_of_dvd (Nat.Coprime.coprime_dvd_left h8 c1) h2
theorem gcd_parts {x y : Int} (hx : 0 < x) : ∃ g x' y' : Int, g = (Int.gcd x y : Int) ∧ 0 < g ∧ x = g * x' ∧ y = g * y' ∧ x / g = x' ∧ y / g = y' ∧ x'.natAbs.Coprime y'.natAbs := by
  have hg : 0 < Int.gcd x y := Int.gcd_pos_of_ne_zero_left y (by omega)
  have h1 : ((Int.gcd x y : Nat) : Int) ∣ x := Int.gcd_dvd_left ..
  have h2 : ((Int.gcd x y : Nat) : Int) ∣ y := Int.gcd_dvd_right ..
  obtain ⟨x', e1⟩ := h1
  obtain ⟨y', e2⟩ := h2
  refine ⟨(Int.gcd x y : Int), x', y', rfl, by omega, e1, e2, ?_, ?_, ?_⟩
  · conv => lhs; lhs; rw [e1]
    exact Int.mul_ediv_cancel_left x' (by omega)
  · conv => lhs; lhs; rw [e2]
    exact Int.mul_ediv_cancel_left y' (by omega)
  · have h3 := Nat.coprime_div_gcd_div_gcd (m := x.natAbs) (n := y.natAbs) hg
    have e3 : x.natAbs / x.natAbs.gcd y.natAbs = x'.natAbs := by
      have : x.natAbs = Int.gcd x y * x'.natAbs := by conv => lhs; rw [e1, Int.natAbs_mul, Int.natAbs_natCast]
      show x.natAbs / Int.gcd x y = _
      rw [this, Nat.mul_div_cancel_left _ hg]
    have e4 : y.natAbs / x.natAbs.gcd y.natAbs = y'.natAbs := by
      have : y.natAbs = Int.gcd x y * y'.natAbs := by conv => lhs; rw [e2, Int.natAbs_mul, Int.natAbs_natCast]
      show y.natAbs / Int.gcd x y = _
      rw [this, Nat.mul_div_cancel_left _ hg]
    rw [e3, e4] at h3
    exact h3
theorem cop_mulL {a x g x' : Int} (c : a.natAbs.Coprime x.natAbs) (e : x = g * x') : a.natAbs.Coprime x'.natAbs := by
  have : x'.natAbs ∣ x.natAbs := by rw [e, Int.natAbs_mul]; exact Nat.dvd_mul_left _ _
  exact (Nat.Coprime.coprime_dvd_left this c.symm).symm
theorem gcd_parts' (t : Int) {g : Int} (hg : 0 < g) : ∃ s P G : Int, s = (Int.gcd t g : Int) ∧ 0 < s ∧ t = s * P ∧ g = s * G ∧ t / s = P ∧ g / s = G ∧ P.natAbs.Coprime G.natAbs ∧ 0 < G := by
  obtain ⟨s, G, P, h1, h2, h3, h4, h5, h6, h7⟩ := gcd_parts (x := g) (y := t) hg
  refine ⟨s, P, G, by rw [h1, Int.gcd_comm], h2, h4, h3, h6, h5, h7.symm, ?_⟩
  rcases Int.lt_or_le 0 G with h | h
  · exact h
  · have := Int.mul_le_mul_of_nonneg_left h (Int.le_of_lt h2)
    simp at this
    omega
theorem pos_of_mul {a b c : Int} (h : a = b * c) (ha : 0 < a) (hb : 0 < b) : 0 < c := by
  rcases Int.lt_or_le 0 c with h' | h'
  · exact h'
  · have := Int.mul_le_mul_of_nonneg_left h' (Int.le_of_lt hb)
    simp at this
    omega
/-- Sums and differences (e: 1, -1) of fractions in lowest terms. -/
theorem join_rat (q1 q2 : Rat) (e : Int) (q : Rat) (hq : q = Rat.divInt (q1.num * (q2.den : Int) + e * q2.num * (q1.den : Int)) ((q1.den : Int) * (q2.den : Int))) (he : e = 1 ∨ e = -1) :
    jnT (lvL q1.num (lowB q1.den) (lowB q2.den) + e * lvR q2.num (lowB q1.den) (lowB q2.den)) (lvG (lowB q1.den) (lowB q2.den)) = q.num ∧
    jnB (lvL q1.num (lowB q1.den) (lowB q2.den) + e * lvR q2.num (lowB q1.den) (lowB q2.den)) (lvG (lowB q1.den) (lowB q2.den)) (lvS (lowB q1.den) (lowB q2.den)) = q.den := by
  have d1 : 0 < (q1.den : Int) := by have := q1.den_pos; omega
  have d2 : 0 < (q2.den : Int) := by have := q2.den_pos; omega
  unfold lvL lvR lvS lvG
  rw [bel_low (by omega), bel_low (by omega)]
  obtain ⟨g, x', y', hg, gp, ex, ey, ex', ey', cxy⟩ := gcd_parts (x := (q1.den : Int)) (y := (q2.den : Int)) d1
  rw [← hg, ex', ey']
  obtain ⟨t, ht⟩ : ∃ t, t = q1.num * y' + e * (q2.num * x') := ⟨_, rfl⟩
  rw [← ht]
  have xp := pos_of_mul ex d1 gp
  have yp := pos_of_mul ey d2 gp
  have c1 : q1.num.natAbs.Coprime (q1.den : Int).natAbs := q1.reduced
  have c2 : q2.num.natAbs.Coprime (q2.den : Int).natAbs := q2.reduced
  have c3 := cop_mulL c1 ex
  have c4 := cop_mulL c2 ey
  have ce : (e * q2.num).natAbs = q2.num.natAbs := by
    rcases he with rfl | rfl <;> simp
  have cx : t.natAbs.Coprime x'.natAbs := by
    rw [ht, ← Int.mul_assoc]
    exact cop_lin (e * q2.num) c3 cxy.symm
  have cy : t.natAbs.Coprime y'.natAbs := by
    rw [ht, ← Int.mul_assoc, Int.add_comm]
    exact cop_lin q1.num (by rw [ce]; exact c4) cxy
  obtain ⟨s, P, G, hs, sp, et, eg, et', eg', cPG, Gp⟩ := gcd_parts' t gp
  unfold jnT jnB
  rw [← hs, et', eg']
  have hP : P.natAbs ∣ t.natAbs := by rw [et, Int.natAbs_mul]; exact Nat.dvd_mul_left _ _
  have hfin := rat_low (P := P) (D := G * (y' * x')) hq (by
      have := Int.mul_pos d1 d2
      omega) (Int.mul_pos Gp (Int.mul_pos yp xp)) (by
      rw [Int.natAbs_mul, Int.natAbs_mul]
      exact cPG.mul_right ((Nat.Coprime.coprime_dvd_left hP cy).mul_right (Nat.Coprime.coprime_dvd_left hP cx))) (by
      have h1 : q1.num * (q2.den : Int) + e * q2.num * (q1.den : Int) = g * t := by rw [ht, ex, ey]; grind
      rw [h1, ex, ey]
      conv => rhs; rw [et]
      have : g * x' * (g * y') = g * (s * G) * (x' * y') := by rw [← eg]; grind
      rw [this]
      grind)
  exact ⟨hfin.1.symm, hfin.2.symm⟩
theorem mul_rat (q1 q2 : Rat) :
    (q1.num / (Int.gcd q1.num (bel (lowB q2.den)) : Int)) * (q2.num / (Int.gcd q2.num (bel (lowB q1.den)) : Int)) = (q1 * q2).num ∧
    (bel (lowB q1.den) / (Int.gcd q2.num (bel (lowB q1.den)) : Int)) * (bel (lowB q2.den) / (Int.gcd q1.num (bel (lowB q2.den)) : Int)) = (q1 * q2).den := by
  have d1 : 0 < (q1.den : Int) := by have := q1.den_pos; omega
  have d2 : 0 < (q2.den : Int) := by have := q2.den_pos; omega
  rw [bel_low (by omega), bel_low (by omega)]
  obtain ⟨s, p, y, hs, sp, ep, ey, ep', ey', c1, yp⟩ := gcd_parts' q1.num d2
  obtain ⟨u, r, x, hu, up, er, ex, er', ex', c2, xp⟩ := gcd_parts' q2.num d1
  rw [← hs, ← hu, ep', er', ex', ey']
  have r1 : q1.num.natAbs.Coprime (q1.den : Int).natAbs := q1.reduced
  have r2 : q2.num.natAbs.Coprime (q2.den : Int).natAbs := q2.reduced
  have cpx : p.natAbs.Coprime x.natAbs := (cop_mulL (cop_mulL r1 ex).symm ep).symm
  have cry : r.natAbs.Coprime y.natAbs := (cop_mulL (cop_mulL r2 ey).symm er).symm
  have hfin := rat_low (q := q1 * q2) (N := q1.num * q2.num) (M := (q1.den : Int) * (q2.den : Int)) (P := p * r) (D := x * y) (by
      conv => lhs; rw [← Rat.num_divInt_den q1, ← Rat.num_divInt_den q2]
      exact Rat.divInt_mul_divInt ..) (by have := Int.mul_pos d1 d2; omega) (Int.mul_pos xp yp) (by
      rw [Int.natAbs_mul, Int.natAbs_mul]
      exact (cpx.mul_right c1).mul_left (c2.mul_right cry)) (by
      rw [ep, er, ex, ey]; grind)
  exact ⟨hfin.1.symm, hfin.2.symm⟩
theorem cmp_rat (q1 q2 : Rat) : cmpI (lvL q1.num (lowB q1.den) (lowB q2.den)) (lvR q2.num (lowB q1.den) (lowB q2.den)) = if q1 < q2 then -1 else if q2 < q1 then 1 else 0 := by
  have d1 : 0 < (q1.den : Int) := by have := q1.den_pos; omega
  have d2 : 0 < (q2.den : Int) := by have := q2.den_pos; omega
  unfold lvL lvR lvG
  rw [bel_low (by omega), bel_low (by omega)]
  obtain ⟨g, x', y', hg, gp, ex, ey, ex', ey', cxy⟩ := gcd_parts (x := (q1.den : Int)) (y := (q2.den : Int)) d1
  rw [← hg, ex', ey']
  have h1 : q1.num * (q2.den : Int) = g * (q1.num * y') := by rw [ey]; grind
  have h2 : q2.num * (q1.den : Int) = g * (q2.num * x') := by rw [ex]; grind
  have l1 : q1 < q2 ↔ q1.num * y' < q2.num * x' := by
    rw [Rat.lt_iff, h1, h2]
    exact Int.mul_lt_mul_left gp
  have l2 : q2 < q1 ↔ q2.num * x' < q1.num * y' := by
    rw [Rat.lt_iff, h1, h2]
    exact Int.mul_lt_mul_left gp
  unfold cmpI
  simp only [l1, l2]
theorem of_rat {z y : Int} (hy : 0 < y) : z / (Int.gcd z y : Int) = (Rat.divInt z y).num ∧ y / (Int.gcd z y : Int) = (Rat.divInt z y).den := by
  obtain ⟨s, P, G, hs, sp, ep, eg, ep', eg', c, Gp⟩ := gcd_parts' z hy
  rw [← hs, ep', eg']
  have hfin := rat_low (q := Rat.divInt z y) rfl (by omega) Gp c (by
    conv => rhs; rw [ep]
    rw [show P * y = P * (s * G) by rw [← eg]]
    grind)
  exact ⟨hfin.1.symm, hfin.2.symm⟩
theorem of_rat_neg {z y : Int} (hy : y < 0) : (-z) / (Int.gcd (-z) (-y) : Int) = (Rat.divInt z y).num ∧ (-y) / (Int.gcd (-z) (-y) : Int) = (Rat.divInt z y).den := by
  rw [← Rat.neg_divInt_neg z y]
  exact of_rat (by omega)
theorem inv_rat_pos {q : Rat} (h : 0 < q.num) : (q.den : Int) = (q⁻¹).num ∧ q.num = (q⁻¹).den := by
  have hfin := rat_low (q := q⁻¹) (P := (q.den : Int)) (D := q.num) (Rat.inv_def q) (by omega) h (by have := q.reduced; exact this.symm) (by rfl)
  exact ⟨hfin.1.symm, hfin.2.symm⟩
theorem inv_rat_neg {q : Rat} (h : q.num < 0) : -(q.den : Int) = (q⁻¹).num ∧ -q.num = (q⁻¹).den := by
  have hfin := rat_low (q := q⁻¹) (P := -(q.den : Int)) (D := -q.num) (Rat.inv_def q) (by omega) (by omega) (by have := q.reduced; simpa using this.symm) (by grind)
  exact ⟨hfin.1.symm, hfin.2.symm⟩
theorem add_divInt (q1 q2 : Rat) : q1 + q2 = Rat.divInt (q1.num * (q2.den : Int) + q2.num * (q1.den : Int)) ((q1.den : Int) * (q2.den : Int)) := by
  have d1 : (q1.den : Int) ≠ 0 := by have := q1.den_pos; omega
  have d2 : (q2.den : Int) ≠ 0 := by have := q2.den_pos; omega
  conv => lhs; rw [← Rat.num_divInt_den q1, ← Rat.num_divInt_den q2]
  exact Rat.divInt_add_divInt _ _ d1 d2
theorem sub_divInt (q1 q2 : Rat) : q1 - q2 = Rat.divInt (q1.num * (q2.den : Int) - q2.num * (q1.den : Int)) ((q1.den : Int) * (q2.den : Int)) := by
  have d1 : (q1.den : Int) ≠ 0 := by have := q1.den_pos; omega
  have d2 : (q2.den : Int) ≠ 0 := by have := q2.den_pos; omega
  conv => lhs; rw [← Rat.num_divInt_den q1, ← Rat.num_divInt_den q2]
  exact Rat.divInt_sub_divInt _ _ d1 d2
theorem add_rat (q1 q2 : Rat) : jnT (lvL q1.num (lowB q1.den) (lowB q2.den) + lvR q2.num (lowB q1.den) (lowB q2.den)) (lvG (lowB q1.den) (lowB q2.den)) = (q1 + q2).num ∧
    jnB (lvL q1.num (lowB q1.den) (lowB q2.den) + lvR q2.num (lowB q1.den) (lowB q2.den)) (lvG (lowB q1.den) (lowB q2.den)) (lvS (lowB q1.den) (lowB q2.den)) = (q1 + q2).den := by
  have h := join_rat q1 q2 1 (q1 + q2) (by rw [Int.one_mul]; exact add_divInt q1 q2) (.inl rfl)
  rwa [Int.one_mul] at h
theorem sub_rat (q1 q2 : Rat) : jnT (lvL q1.num (lowB q1.den) (lowB q2.den) - lvR q2.num (lowB q1.den) (lowB q2.den)) (lvG (lowB q1.den) (lowB q2.den)) = (q1 - q2).num ∧
    jnB (lvL q1.num (lowB q1.den) (lowB q2.den) - lvR q2.num (lowB q1.den) (lowB q2.den)) (lvG (lowB q1.den) (lowB q2.den)) (lvS (lowB q1.den) (lowB q2.den)) = (q1 - q2).den := by
  have h := join_rat q1 q2 (-1) (q1 - q2) (by rw [sub_divInt]; congr 1; grind) (.inr rfl)
  rwa [show lvL q1.num (lowB q1.den) (lowB q2.den) + -1 * lvR q2.num (lowB q1.den) (lowB q2.den) = lvL q1.num (lowB q1.den) (lowB q2.den) - lvR q2.num (lowB q1.den) (lowB q2.den) by omega] at h

/-- A Go value of type rat.Rat is this rational; the document's R is. -/
def IsRt (w : World) (v : Value) (q : Rat) : Prop := IsR w v q.num (lowB q.den)
def IsQt (w : World) (v : Value) (q : Rat) : Prop := IsQ w v q.num q.den
/-- Its numbers are below a power. -/
structure Bd (q : Rat) (k : Nat) : Prop where
  n : (q.num.natAbs : Int) < pw k
  d : (((q.den : Int)).natAbs : Int) < pw k
theorem Bd.mono {q : Rat} {j k : Nat} (h : Bd q j) (hk : j ≤ k) : Bd q k := ⟨Int.lt_of_lt_of_le h.n (pw_mono hk), Int.lt_of_lt_of_le h.d (pw_mono hk)⟩
def cmpQ (q1 q2 : Rat) : Int := if q1 < q2 then -1 else if q2 < q1 then 1 else 0
theorem radd_any (v1 v2 : Value) (q1 q2 : Rat) (w : World) (h1 : IsRt w v1 q1) (h2 : IsRt w v2 q2) (b1 : Bd q1 300) (b2 : Bd q2 300) :
    Calls Tryz.prog 12 #[v1, v2] w fun e w' => ∃ r, e = .returned r ∧ Below w.heap.size w w' ∧ IsRt w' r (q1 + q2) := by
  refine Calls.mono (radd_raw v1 v2 _ _ _ _ b1.n (lowB_lt b1.d) b2.n (lowB_lt b2.d) w h1 h2) ?_
  rintro e w' ⟨r, rfl, hb, h⟩
  refine ⟨r, rfl, hb, ?_⟩
  rw [(add_rat q1 q2).1, (add_rat q1 q2).2] at h
  exact h
theorem rsub_any (v1 v2 : Value) (q1 q2 : Rat) (w : World) (h1 : IsRt w v1 q1) (h2 : IsRt w v2 q2) (b1 : Bd q1 300) (b2 : Bd q2 300) :
    Calls Tryz.prog 14 #[v1, v2] w fun e w' => ∃ r, e = .returned r ∧ Below w.heap.size w w' ∧ IsRt w' r (q1 - q2) := by
  refine Calls.mono (rsub_raw v1 v2 _ _ _ _ b1.n (lowB_lt b1.d) b2.n (lowB_lt b2.d) w h1 h2) ?_
  rintro e w' ⟨r, rfl, hb, h⟩
  refine ⟨r, rfl, hb, ?_⟩
  rw [(sub_rat q1 q2).1, (sub_rat q1 q2).2] at h
  exact h
theorem rmul_any (v1 v2 : Value) (q1 q2 : Rat) (w : World) (h1 : IsRt w v1 q1) (h2 : IsRt w v2 q2) (b1 : Bd q1 300) (b2 : Bd q2 300) :
    Calls Tryz.prog 16 #[v1, v2] w fun e w' => ∃ r, e = .returned r ∧ Below w.heap.size w w' ∧ IsRt w' r (q1 * q2) := by
  refine Calls.mono (rmul_raw v1 v2 _ _ _ _ b1.n (lowB_lt b1.d) b2.n (lowB_lt b2.d) w h1 h2) ?_
  rintro e w' ⟨r, rfl, hb, h⟩
  refine ⟨r, rfl, hb, ?_⟩
  rw [(mul_rat q1 q2).1, (mul_rat q1 q2).2] at h
  exact h
theorem rcmp_any (v1 v2 : Value) (q1 q2 : Rat) (w : World) (h1 : IsRt w v1 q1) (h2 : IsRt w v2 q2) (b1 : Bd q1 300) (b2 : Bd q2 300) :
    Calls Tryz.prog 19 #[v1, v2] w fun e w' => ∃ r, e = .returned r ∧ Below w.heap.size w w' ∧ r = .int .i64 (cmpQ q1 q2) := by
  refine Calls.mono (rcmp_raw v1 v2 _ _ _ _ b1.n (lowB_lt b1.d) b2.n (lowB_lt b2.d) w h1 h2) ?_
  rintro e w' ⟨r, rfl, hb, h⟩
  refine ⟨r, rfl, hb, ?_⟩
  rw [h, cmp_rat]
  rfl
theorem rneg_rt (v1 : Value) (q1 : Rat) (w : World) (h1 : IsRt w v1 q1) (b1 : Bd q1 300) :
    Calls Tryz.prog 18 #[v1] w fun e w' => ∃ r, e = .returned r ∧ Below w.heap.size w w' ∧ IsRt w' r (-q1) := by
  refine Calls.mono (rneg_any v1 _ _ (le3n b1.n (by decide)) (le3n (lowB_lt b1.d) (by decide)) w h1) ?_
  rintro e w' ⟨r, rfl, hb, h⟩
  refine ⟨r, rfl, hb, ?_⟩
  unfold IsRt
  rw [Rat.neg_num, Rat.neg_den]
  exact h
theorem rfloor_any (v1 : Value) (q1 : Rat) (w : World) (h1 : IsRt w v1 q1) (b1 : Bd q1 300) :
    Calls Tryz.prog 21 #[v1] w fun e w' => ∃ r, e = .returned r ∧ Below w.heap.size w w' ∧ IsI w' r q1.floor := by
  refine Calls.mono (rfloor_raw v1 _ _ b1.n (lowB_lt b1.d) w h1) ?_
  rintro e w' ⟨r, rfl, hb, h⟩
  refine ⟨r, rfl, hb, ?_⟩
  rw [Rat.floor_def]
  rw [bel_low (by have := q1.den_pos; omega)] at h
  exact h
theorem rtop_any (v1 : Value) (q1 : Rat) (w : World) (h1 : IsRt w v1 q1) (b1 : Bd q1 300) :
    Calls Tryz.prog 26 #[v1] w fun e w' => ∃ r, e = .returned r ∧ Below w.heap.size w w' ∧ IsI w' r q1.num := top_any v1 _ _ (le3n b1.n (by decide)) w h1
theorem whole_rt (v1 : Value) (z : Int) (w : World) (h1 : IsI w v1 z) (hz : (z.natAbs : Int) < pw 3000) :
    Calls Tryz.prog 29 #[v1] w fun e w' => ∃ r, e = .returned r ∧ Below w.heap.size w w' ∧ IsRt w' r (z : Rat) := by
  refine Calls.mono (whole_any v1 z hz w h1) ?_
  rintro e w' ⟨r, rfl, hb, h⟩
  exact ⟨r, rfl, hb, h⟩
theorem rof_any (v1 v2 : Value) (z y : Int) (w : World) (h1 : IsI w v1 z) (h2 : IsI w v2 y) (bz : (z.natAbs : Int) < pw 700) (by_ : (y.natAbs : Int) < pw 700) :
    Calls Tryz.prog 32 #[v1, v2] w fun e w' => ∃ r, e = .returned r ∧ Below w.heap.size w w' ∧ ∃ xx yy, r = .tuple #[xx, yy] ∧ IsRt w' xx (Rat.divInt z y) ∧ yy = .bool (decide (y ≠ 0)) := by
  refine Calls.mono (rof_raw v1 v2 z y bz by_ w h1 h2) ?_
  rintro e w' ⟨r, rfl, hb, x, ok, p, b, rfl, hx, rfl, k0, kp, kn⟩
  refine ⟨_, rfl, hb, x, _, rfl, ?_, rfl⟩
  rcases Int.lt_trichotomy y 0 with h | h | h
  · obtain ⟨rfl, rfl⟩ := kn h
    rw [(of_rat_neg h).1, (of_rat_neg h).2] at hx
    exact hx
  · obtain ⟨rfl, rfl⟩ := k0 h
    rw [h, Rat.divInt_zero]
    exact hx
  · obtain ⟨rfl, rfl⟩ := kp h
    rw [(of_rat h).1, (of_rat h).2] at hx
    exact hx
theorem fr_rat (z y : Int) : frT z y = (Rat.divInt z y).num ∧ frB z y = (Rat.divInt z y).den := by
  unfold frT frB
  by_cases h0 : y = 0
  · rw [if_pos h0, if_pos h0, h0, Rat.divInt_zero]
    exact ⟨rfl, rfl⟩
  · rw [if_neg h0, if_neg h0]
    by_cases h1 : y < 0
    · rw [if_pos h1, if_pos h1]
      exact of_rat_neg h1
    · rw [if_neg h1, if_neg h1]
      exact of_rat (by omega)

end Go.Proofs.YtlcfldkmojpkpaaGreatDoor

/- The helps of avowlaw2. -/
namespace Go.Proofs.YtlcfldkmojpkpaaGreatDoor
open Go Go.RowKit

set_option maxRecDepth 100000 in
set_option maxHeartbeats 800000 in
theorem light2_any (b off n cap : Nat) (ss : List ByteArray) (w : World) (hn : ss.length = n) (hl : n ≤ 10) (hsz : ∀ s ∈ ss, s.size ≤ 9223372036854775807) (hat : ∀ j (hj : j < ss.length), w.cell? ⟨b, off + j, none⟩ = some (.string (ss[j]'hj))) :
    Calls Tryz.prog 7 #[.slice (some ⟨b, off, none⟩) n cap] w fun e w' => ((∀ s ∈ ss, s.size ≤ 120) ∧ e = .returned (.bool true) ∨ (∃ s ∈ ss, 120 < s.size) ∧ e = .returned (.bool false)) ∧ w' = w := by
  go_enter Tryz.func7, Tryz.ntmps7
  go_wp2
  go_loop [3] (fun iv => ∃ i : Nat, i ≤ n ∧ iv = .int .i64 i ∧ ∀ j (hj : j < ss.length), j < i → (ss[j]'hj).size ≤ 120) (fun iv => n - (intOf iv).toNat)
  case atStart => exact ⟨0, Nat.zero_le _, rfl, fun j _ h => absurd h (Nat.not_lt_zero _)⟩
  case round =>
    obtain ⟨i, hi0, rfl, hall⟩ := hrel
    by_cases hi : i < n
    · have hil : i < ss.length := by omega
      have hc := hat i hil
      have hmem : ss[i]'hil ∈ ss := List.getElem_mem _
      have hmax := hsz _ hmem
      obtain ⟨S, hS⟩ : ∃ S, S = ss[i]'hil := ⟨_, rfl⟩
      rw [← hS] at hc hmem hmax
      have HS := hide hS
      have HA := hide hall
      have HN := hide hn
      clear hS hat hall hn hsz
      by_cases h3 : (120 : Int) < (S.size : Int)
      · have HM := hide hmem
        clear hmem
        go_wp2
        go_ret
        exact ⟨.inr ⟨⟨S, unhide HM, by omega⟩, rfl⟩, rfl⟩
      · have t1 : decide ((120 : Int) < (S.size : Int)) = false := by simp; omega
        clear hmem
        go_wp2
        refine ⟨⟨i + 1, by omega, by simp, fun j hj hji => ?_⟩, by simp [intOf]; omega⟩
        by_cases e : j = i
        · subst e
          rw [← unhide HS]; omega
        · exact unhide HA j hj (by omega)
    · have hok : Hid (∀ s ∈ ss, s.size ≤ 120) := fun s hs => by
        obtain ⟨j, hj, rfl⟩ := List.getElem_of_mem hs
        exact hall j hj (by omega)
      clear hat hall
      go_wp2
      go_ret
      exact ⟨.inl ⟨unhide hok, rfl⟩, rfl⟩

set_option maxRecDepth 100000 in
set_option maxHeartbeats 800000 in
theorem must_all (T : ByteArray) (z : Int) (w : World) (b : Bool) (hp : ∀ w, Calls Tryz.prog 91 #[.string T] w fun e w' => ∃ r, e = .returned (.tuple #[r, .bool b]) ∧ Below w.heap.size w w' ∧ IsN w' r z) :
    Calls Tryz.prog 63 #[.string T] w fun e w' => ∃ r, e = .returned r ∧ Below w.heap.size w w' ∧ IsN w' r z := by
  have HP := hide hp
  clear hp
  go_enter Tryz.func63, Tryz.ntmps63
  go_wp2_with fail
  refine (unhide HP _).mono ?_
  rintro e w1 ⟨r, rfl, hb1, hI⟩
  obtain ⟨b1, a1, l1, c1, rfl⟩ := hI.form
  have HI := hide hI
  clear hI
  have hbox := (NB.new w false none 0 0).below hb1
  have hbw : Below w.heap.size w w1 := ((Below.refl _ w).alloc (Nat.le_refl _) _).trans (hb1.mono (by simp))
  obtain ⟨kR0, kR1, kRf0, kRf1⟩ := hbox.facts
  have hlt := hbox.lt
  go_wp2
  refine bodyPost_ret (v := .agg #[.bool b1, .slice a1 l1 c1]) ?_ rfl ?_
  · simp [results, Tryz.results63, go_sem, kR0, kR1, hlt]
  · refine ⟨_, rfl, (below_put hbw (Nat.le_refl _) _ _).alloc (by simp; omega) _, ((unhide HI).putN hbox _ _).below ((Below.refl _ _).alloc (Nat.le_refl _) _)⟩

/-! ### Bounds -/
theorem Bd.of {q : Rat} {N M : Int} {j : Nat} (hq : q = Rat.divInt N M) (hM : 0 < M) (h1 : (N.natAbs : Int) < pw j) (h2 : (M.natAbs : Int) < pw j) : Bd q j := by
  obtain ⟨e1, e2⟩ := of_rat (z := N) hM
  rw [← hq] at e1 e2
  exact ⟨by rw [← e1]; exact ediv_lt h1, by rw [← e2]; exact ediv_lt h2⟩
theorem den_pos' (q : Rat) : 0 < (q.den : Int) := by have := q.den_pos; omega
theorem Bd.add2 {q1 q2 : Rat} {j k : Nat} (h1 : Bd q1 j) (h2 : Bd q2 k) : Bd (q1 + q2) (j + k + 1) :=
  Bd.of (add_divInt q1 q2) (Int.mul_pos (den_pos' q1) (den_pos' q2)) (Int.lt_of_lt_of_le (add_lt2 (mul_lt h1.n h2.d) (mul_lt h2.n h1.d)) (pw_mono (by omega))) (Int.lt_of_lt_of_le (mul_lt h1.d h2.d) (pw_mono (by omega)))
theorem Bd.sub2 {q1 q2 : Rat} {j k : Nat} (h1 : Bd q1 j) (h2 : Bd q2 k) : Bd (q1 - q2) (j + k + 1) :=
  Bd.of (sub_divInt q1 q2) (Int.mul_pos (den_pos' q1) (den_pos' q2)) (Int.lt_of_lt_of_le (sub_lt2 (mul_lt h1.n h2.d) (mul_lt h2.n h1.d)) (pw_mono (by omega))) (Int.lt_of_lt_of_le (mul_lt h1.d h2.d) (pw_mono (by omega)))
theorem mul_divInt' (q1 q2 : Rat) : q1 * q2 = Rat.divInt (q1.num * q2.num) ((q1.den : Int) * (q2.den : Int)) := by
  conv => lhs; rw [← Rat.num_divInt_den q1, ← Rat.num_divInt_den q2]
  exact Rat.divInt_mul_divInt ..
theorem Bd.mul2 {q1 q2 : Rat} {j k : Nat} (h1 : Bd q1 j) (h2 : Bd q2 k) : Bd (q1 * q2) (j + k) :=
  Bd.of (mul_divInt' q1 q2) (Int.mul_pos (den_pos' q1) (den_pos' q2)) (mul_lt h1.n h2.n) (mul_lt h1.d h2.d)
theorem Bd.neg {q : Rat} {k : Nat} (h : Bd q k) : Bd (-q) k := ⟨by rw [Rat.neg_num]; exact neg_pw h.n, by rw [Rat.neg_den]; exact h.d⟩
theorem Bd.whole {z : Int} {k : Nat} (h : (z.natAbs : Int) < pw (k + 1)) : Bd (z : Rat) (k + 1) := ⟨h, Int.lt_of_lt_of_le (pw_one1 : (((1 : Int).natAbs : Nat) : Int) < pw 1) (pw_mono (by omega))⟩
theorem Bd.floor {q : Rat} {k : Nat} (h : Bd q k) : ((q.floor).natAbs : Int) < pw k := by
  rw [Rat.floor_def]
  exact ediv_lt h.n
theorem bd_zero : Bd 0 1 := ⟨pw_one0, pw_one1⟩
/-- The same of the document's numbers. -/
structure Bq (q : Rat) (k : Nat) : Prop where
  n : (q.num.natAbs : Int) < T4.pw k
  d : (((q.den : Int)).natAbs : Int) < T4.pw k
theorem Bq.mono {q : Rat} {j k : Nat} (h : Bq q j) (hk : j ≤ k) : Bq q k := ⟨Int.lt_of_lt_of_le h.n (T4.pw_mono hk), Int.lt_of_lt_of_le h.d (T4.pw_mono hk)⟩
theorem Bq.of {q : Rat} {N M : Int} {j : Nat} (hq : q = Rat.divInt N M) (hM : 0 < M) (h1 : (N.natAbs : Int) < T4.pw j) (h2 : (M.natAbs : Int) < T4.pw j) : Bq q j := by
  obtain ⟨e1, e2⟩ := of_rat (z := N) hM
  rw [← hq] at e1 e2
  exact ⟨by rw [← e1]; exact ediv_lt h1, by rw [← e2]; exact ediv_lt h2⟩
theorem Bq.add {q1 q2 : Rat} {j k : Nat} (h1 : Bq q1 j) (h2 : Bq q2 k) : Bq (q1 + q2) (j + k + 1) :=
  Bq.of (add_divInt q1 q2) (Int.mul_pos (den_pos' q1) (den_pos' q2)) (Int.lt_of_lt_of_le (T4.add_lt2 (T4.mul_lt h1.n h2.d) (T4.mul_lt h2.n h1.d)) (T4.pw_mono (by omega))) (Int.lt_of_lt_of_le (T4.mul_lt h1.d h2.d) (T4.pw_mono (by omega)))
theorem Bq.mul {q1 q2 : Rat} {j k : Nat} (h1 : Bq q1 j) (h2 : Bq q2 k) : Bq (q1 * q2) (j + k) :=
  Bq.of (mul_divInt' q1 q2) (Int.mul_pos (den_pos' q1) (den_pos' q2)) (T4.mul_lt h1.n h2.n) (T4.mul_lt h1.d h2.d)
theorem Bq.neg {q : Rat} {k : Nat} (h : Bq q k) : Bq (-q) k := ⟨by rw [Rat.neg_num]; exact T4.neg_lt h.n, by rw [Rat.neg_den]; exact h.d⟩

/-! ### Shapes -/
def Xrt (T : Nat → Prop) (Z : World → Nat → Prop) (q : Rat) : Sx (kd T Z) := Xrat T Z q.num (lowB q.den)
def Xqt (T : Nat → Prop) (q : Rat) : Sx (kd T Zr) := Xfr T Zr (fun _ _ h => h) q.num q.den
theorem Bx.zrI {w : World} {r : Nat} {v : Value} (h : Bx w r v) (i : IsI w v 0) : Zr w r := by
  rcases i with ⟨rfl, _, _⟩ | ⟨b, off, cap, xs, e, h1, h2, h3, h4, h5, h6, h7⟩
  · exact h.zr0
  · omega
theorem arg1 {f : FuncId} {x u : Value} {w : World} {R : Ending → World → Prop} (p : x = u) (h : Calls Tryz.prog f #[u] w R) : Calls Tryz.prog f #[x] w R := by rw [p]; exact h
theorem arg2 {f : FuncId} {x u y v : Value} {w : World} {R : Ending → World → Prop} (p : x = u) (q : y = v) (h : Calls Tryz.prog f #[u, v] w R) : Calls Tryz.prog f #[x, y] w R := by rw [p, q]; exact h
theorem enter_parse : Enters Tryz.prog 62 := ⟨fun xs w => by go_simp⟩
theorem enter_must : Enters Tryz.prog 63 := ⟨fun xs w => by go_simp⟩
theorem enter_of2 : Enters Tryz.prog 33 := ⟨fun xs w => by go_simp⟩
theorem enter_frac2 : Enters Tryz.prog 8 := ⟨fun xs w => by go_simp⟩
theorem enter_known2 : Enters Tryz.prog 6 := ⟨fun xs w => by go_simp⟩
theorem enter_same2 : Enters Tryz.prog 11 := ⟨fun xs w => by go_simp⟩
theorem enter_light2 : Enters Tryz.prog 7 := ⟨fun xs w => by go_simp⟩
theorem enter_rof : Enters Tryz.prog 32 := ⟨fun xs w => by go_simp⟩
theorem enter_whole : Enters Tryz.prog 29 := ⟨fun xs w => by go_simp⟩
theorem enter_radd : Enters Tryz.prog 12 := ⟨fun xs w => by go_simp⟩
theorem enter_rsub : Enters Tryz.prog 14 := ⟨fun xs w => by go_simp⟩
theorem enter_rmul : Enters Tryz.prog 16 := ⟨fun xs w => by go_simp⟩
theorem enter_rneg : Enters Tryz.prog 18 := ⟨fun xs w => by go_simp⟩
theorem enter_rcmp : Enters Tryz.prog 19 := ⟨fun xs w => by go_simp⟩
theorem enter_rinv : Enters Tryz.prog 9 := ⟨fun xs w => by go_simp⟩
theorem enter_rfloor : Enters Tryz.prog 21 := ⟨fun xs w => by go_simp⟩
theorem enter_rstr : Enters Tryz.prog 28 := ⟨fun xs w => by go_simp⟩
theorem enter_qtext : Enters Tryz.prog 42 := ⟨fun xs w => by go_simp⟩
theorem enter_qadd : Enters Tryz.prog 13 := ⟨fun xs w => by go_simp⟩
theorem enter_qmul : Enters Tryz.prog 17 := ⟨fun xs w => by go_simp⟩
theorem enter_qneg : Enters Tryz.prog 15 := ⟨fun xs w => by go_simp⟩
theorem enter_qcmp : Enters Tryz.prog 20 := ⟨fun xs w => by go_simp⟩

/-! ### Results of two boxes -/
theorem res_IN {W : World} {fn : Func} {a : Act} {t r s r' : Nat} {v u : Value} (hf : fn.results = #[.cell t 26, .cell s 31]) (ht : a.tmps[t]? = some (.pointer (some ⟨r, 0, none⟩))) (hs : a.tmps[s]? = some (.pointer (some ⟨r', 0, none⟩))) (hb : Bx W r v) (hn : NB W r' u) : (results fn a.tmps).run Tryz.prog W = .ok (.tuple #[v, u]) W := by
  obtain ⟨_, _, _, _, rfl, _⟩ := id hb
  obtain ⟨_, _, _, _, rfl, _⟩ := id hn
  obtain ⟨k0, k1, _, _⟩ := hb.facts
  obtain ⟨m0, m1, _, _⟩ := hn.facts
  simp [results, hf, ht, hs, go_sem, k0, k1, m0, m1]
theorem res_RQ {W : World} {fn : Func} {a : Act} {t r s r' : Nat} {v u : Value} (hf : fn.results = #[.cell t 28, .cell s 33]) (ht : a.tmps[t]? = some (.pointer (some ⟨r, 0, none⟩))) (hs : a.tmps[s]? = some (.pointer (some ⟨r', 0, none⟩))) (hb : RB W r v) (hn : QB W r' u) : (results fn a.tmps).run Tryz.prog W = .ok (.tuple #[v, u]) W := by
  obtain ⟨_, _, _, _, _, _, _, _, rfl⟩ := hb.form
  obtain ⟨_, _, _, _, _, _, _, _, rfl⟩ := hn.form
  obtain ⟨k0, k1, k2, k3, _⟩ := hb.cell
  obtain ⟨m0, m1, m2, m3, _⟩ := hn.cell
  simp [results, hf, ht, hs, go_sem, k0, k1, k2, k3, m0, m1, m2, m3]

/-! ### The contracts of calls -/
def PostIN (z : Int) (w : World) : Ending → World → Prop := fun e w' => ∃ r, e = .returned r ∧ Below w.heap.size w w' ∧ ∃ xx yy, r = .tuple #[xx, yy] ∧ IsI w' xx z ∧ IsN w' yy z
def PostRQ (q : Rat) (w : World) : Ending → World → Prop := fun e w' => ∃ r, e = .returned r ∧ Below w.heap.size w w' ∧ ∃ xx yy, r = .tuple #[xx, yy] ∧ IsRt w' xx q ∧ IsQt w' yy q
theorem parse_ct {s : ByteArray} {b : Bool} {z : Int} (hp : ∀ w, Calls Tryz.prog 62 #[.string s] w fun e w' => ∃ r, e = .returned (.tuple #[r, .bool b]) ∧ Below w.heap.size w w' ∧ IsI w' r z) (w : World) :
    Calls Tryz.prog 62 #[.string s] w fun e w' => ∃ r, e = .returned r ∧ Below w.heap.size w w' ∧ ∃ xx yy, r = .tuple #[xx, yy] ∧ IsI w' xx z ∧ yy = .bool b := by
  refine Calls.mono (hp w) ?_
  rintro e w' ⟨r, rfl, hb, h⟩
  exact ⟨_, rfl, hb, r, _, rfl, h, rfl⟩
theorem rstr_rt (v : Value) (q : Rat) (w : World) (hT : Tab w) (h : IsRt w v q) (hb : Bd q 300) : Calls Tryz.prog 28 #[v] w fun e w' => ∃ r, e = .returned r ∧ Below w.heap.size w w' ∧ r = .string (rstr q.num (lowB q.den)) :=
  rstr_any v _ _ (Int.lt_of_lt_of_le hb.n (pw_mono (by decide))) (Int.lt_of_lt_of_le (lowB_lt hb.d) (pw_mono (by decide))) w hT h
theorem qtext_qt (v : Value) (q : Rat) (w : World) (h : IsQt w v q) (hb : Bq q 700) : Calls Tryz.prog 42 #[v] w fun e w' => ∃ r, e = .returned r ∧ Below w.heap.size w w' ∧ r = .string (rstr q.num (lowB q.den)) :=
  qtext_any v _ _ (Int.lt_of_lt_of_le hb.n (T4.pw_mono (by decide))) (Int.lt_of_lt_of_le hb.d (T4.pw_mono (by decide))) (by have := q.den_pos; omega) w h
theorem frac_qt (va vb : Value) (z y : Int) (hz : (z.natAbs : Int) < T4.pw 700) (hy : (y.natAbs : Int) < T4.pw 700) (w : World) (h1 : IsN w va z) (h2 : IsN w vb y) : Calls Tryz.prog 35 #[va, vb] w fun e w' => ∃ r, e = .returned r ∧ Below w.heap.size w w' ∧ ∃ xx yy, r = .tuple #[xx, yy] ∧ IsQt w' xx (Rat.divInt z y) ∧ yy = .bool (decide (y ≠ 0)) := by
  refine Calls.mono (frac_any va vb z y hz hy w h1 h2) ?_
  rintro e w' ⟨r, rfl, hb, xx, yy, rfl, h, rfl⟩
  refine ⟨_, rfl, hb, xx, _, rfl, ?_, rfl⟩
  rw [(fr_rat z y).1, (fr_rat z y).2] at h
  exact h
theorem qadd_qt (v1 v2 : Value) (q1 q2 : Rat) (w : World) (h1 : IsQt w v1 q1) (h2 : IsQt w v2 q2) (b1 : Bq q1 300) (b2 : Bq q2 300) : Calls Tryz.prog 13 #[v1, v2] w fun e w' => ∃ r, e = .returned r ∧ Below w.heap.size w w' ∧ IsQt w' r (q1 + q2) := by
  refine Calls.mono (qadd_raw v1 v2 _ _ _ _ b1.n b1.d b2.n b2.d w h1 h2) ?_
  rintro e w' ⟨r, rfl, hb, h⟩
  refine ⟨_, rfl, hb, ?_⟩
  rw [(fr_rat _ _).1, (fr_rat _ _).2, ← add_divInt] at h
  exact h
theorem qmul_qt (v1 v2 : Value) (q1 q2 : Rat) (w : World) (h1 : IsQt w v1 q1) (h2 : IsQt w v2 q2) (b1 : Bq q1 300) (b2 : Bq q2 300) : Calls Tryz.prog 17 #[v1, v2] w fun e w' => ∃ r, e = .returned r ∧ Below w.heap.size w w' ∧ IsQt w' r (q1 * q2) := by
  refine Calls.mono (qmul_raw v1 v2 _ _ _ _ b1.n b1.d b2.n b2.d w h1 h2) ?_
  rintro e w' ⟨r, rfl, hb, h⟩
  refine ⟨_, rfl, hb, ?_⟩
  rw [(fr_rat _ _).1, (fr_rat _ _).2, ← mul_divInt'] at h
  exact h
theorem qneg_qt (v1 : Value) (q1 : Rat) (w : World) (h1 : IsQt w v1 q1) (b1 : Bq q1 300) : Calls Tryz.prog 15 #[v1] w fun e w' => ∃ r, e = .returned r ∧ Below w.heap.size w w' ∧ IsQt w' r (-q1) := by
  refine Calls.mono (qneg_raw v1 _ _ b1.n b1.d w h1) ?_
  rintro e w' ⟨r, rfl, hb, h⟩
  refine ⟨_, rfl, hb, ?_⟩
  unfold IsQt
  rw [Rat.neg_num, Rat.neg_den]
  exact h
theorem sgn_cmpQ (q1 q2 : Rat) : sgn (q1.num * (q2.den : Int) - q2.num * (q1.den : Int)) = cmpQ q1 q2 := by
  unfold sgn cmpQ
  simp only [Rat.lt_iff]
  by_cases h : q1.num * (q2.den : Int) < q2.num * (q1.den : Int)
  · rw [if_pos (by omega), if_pos h]
  · rw [if_neg (by omega), if_neg h]
    by_cases h2 : q2.num * (q1.den : Int) < q1.num * (q2.den : Int)
    · rw [if_pos (by omega), if_pos h2]
    · rw [if_neg (by omega), if_neg h2]
theorem qcmp_qt (v1 v2 : Value) (q1 q2 : Rat) (w : World) (h1 : IsQt w v1 q1) (h2 : IsQt w v2 q2) (b1 : Bq q1 300) (b2 : Bq q2 300) : Calls Tryz.prog 20 #[v1, v2] w fun e w' => ∃ r, e = .returned r ∧ Below w.heap.size w w' ∧ r = .int .i64 (cmpQ q1 q2) := by
  refine Calls.mono (qcmp_raw v1 v2 _ _ _ _ b1.n b1.d b2.n b2.d w h1 h2) ?_
  rintro e w' ⟨r, rfl, hb, h⟩
  exact ⟨_, rfl, hb, by rw [h, sgn_cmpQ]⟩
theorem rinv_rt (v1 : Value) (q : Rat) (w : World) (h1 : IsRt w v1 q) (b1 : Bd q 300) : Calls Tryz.prog 9 #[v1] w fun e w' => ∃ r, e = .returned r ∧ Below w.heap.size w w' ∧ ∃ xx yy, r = .tuple #[xx, yy] ∧ IsRt w' xx q⁻¹ ∧ yy = .bool (decide (q.num ≠ 0)) := by
  refine Calls.mono (rinv_raw v1 _ _ (Int.lt_of_lt_of_le b1.n (pw_mono (by decide))) (Int.lt_of_lt_of_le (lowB_lt b1.d) (pw_mono (by decide))) w h1) ?_
  rintro e w' ⟨r, rfl, hb, x, ok, p2, b2, rfl, hx, rfl, h0, hp, hn⟩
  refine ⟨_, rfl, hb, x, _, rfl, ?_, rfl⟩
  rw [bel_low (by have := q.den_pos; omega)] at hp hn
  rcases Int.lt_trichotomy q.num 0 with h | h | h
  · obtain ⟨rfl, rfl⟩ := hn h
    obtain ⟨e1, e2⟩ := inv_rat_neg h
    unfold IsRt
    rw [← e1, ← e2]
    exact hx
  · obtain ⟨rfl, rfl⟩ := h0 h
    rw [Rat.num_eq_zero.1 h, Rat.inv_zero]
    exact hx
  · obtain ⟨rfl, rfl⟩ := hp h
    obtain ⟨e1, e2⟩ := inv_rat_pos h
    unfold IsRt
    rw [← e1, ← e2]
    exact hx
theorem Bd.inv {q : Rat} {k : Nat} (h : Bd q k) (h0 : 0 < k) : Bd q⁻¹ k := by
  rcases Int.lt_trichotomy q.num 0 with e | e | e
  · obtain ⟨e1, e2⟩ := inv_rat_neg e
    exact ⟨by rw [← e1]; exact neg_pw h.d, by rw [← e2]; exact neg_pw h.n⟩
  · rw [Rat.num_eq_zero.1 e, Rat.inv_zero]
    exact bd_zero.mono h0
  · obtain ⟨e1, e2⟩ := inv_rat_pos e
    exact ⟨by rw [← e1]; exact h.d, by rw [← e2]; exact h.n⟩

set_option maxRecDepth 100000 in
set_option maxHeartbeats 1600000 in
theorem of2_raw (s : ByteArray) (z : Int) (b : Bool) (hP : ∀ w, Calls Tryz.prog 62 #[.string s] w fun e w' => ∃ r, e = .returned (.tuple #[r, .bool b]) ∧ Below w.heap.size w w' ∧ IsI w' r z) (hQ : ∀ w, Calls Tryz.prog 91 #[.string s] w fun e w' => ∃ r, e = .returned (.tuple #[r, .bool b]) ∧ Below w.heap.size w w' ∧ IsN w' r z) (w : World)  :
    Calls Tryz.prog 33 #[(.string s)] w fun e w' => ∃ r, e = .returned r ∧ Below w.heap.size w w' ∧ ∃ xx yy, r = .tuple #[xx, yy] ∧ IsI w' xx z ∧ IsN w' yy z := by
  refine calls_act (fn := Tryz.f33) (by kernel_rfl) rfl (N := 14) (by kernel_rfl) (by simp) ?_
  intro a0 hs0 hd0 hx0
  have t0 : a0.tmps[0]? = some (.string s) := hx0 0 _ rfl
  clear hx0
  have hB0 : Below w.heap.size w w := Below.refl _ _
  refine wp_seq ?_
  refine fxN (fun _ => False) Zr (l := regionOf Tryz.f33 0) false (by kernel_rfl) 2 14 w.heap.size [0]
    [XoI _ w.heap.size zaI (Xnum _ _ 0), XoN _ w.heap.size zaN (Xdoc _ _ (fun _ _ h => h) 0)]
    (Sx.any _) [(2, some 0), (3, some 1)] [] (by kernel_rfl) (by kernel_rfl) (by kernel_rfl) hs0 trivial hB0.size List.nodup_nil fan (fac (npI rfl) (fac (npN rfl) fan)) ?_ ?_ ?_
  · intro i hi hns a w' hb hiv hk hp hold
    obtain ⟨_⟩ := hiv
    match i, hi with
    | 0, _ => exact sO_I hb.size isI_zero rfl
    | 1, _ => exact sO_N hb.size isN_zero rfl
    | _ + 2, h => exact absurd h (by omega)
  · exact fan
  intro a1 w1 hb1 hd1 hs1 hk1 hiv1 hsp1 hst1 hds1
  have hB1 := hB0.trans hb1
  replace hd1 := hd1.trans hd0
  have t0_1 := (hk1 0 (by decide)).trans t0
  obtain ⟨r2_1, t2_1, b2_1, n2_1, I2_1⟩ := toI (k := 2) (hsp1 0 (by decide) fan) hB0.size (by omega)
  obtain ⟨r3_1, t3_1, b3_1, n3_1, I3_1⟩ := toN (k := 3) (hsp1 1 (by decide) fan) hB0.size (by omega)
  have ne2_3_1 : r2_1 ≠ r3_1 := ne_ptr (hds1 (2, some 0) (.head _) (3, some 1) (.tail _ (.head _)) (by decide)) t2_1 t3_1
  clear hb1 hk1 hsp1 hst1 hds1 hiv1
  refine wp_seq ?_
  refine fxN (fun r => w1.heap.size ≤ r) Zr (l := regionOf Tryz.f33 1) false (by kernel_rfl) 8 14 w.heap.size [0, 2, 3]
    [Xval _ _ (.string s), Xtup (Xnum _ _ z) (Xval _ _ (.bool b)), Xtup (Xnum _ _ z) (Xval _ _ (.bool b)), Xnum _ _ z, Xval _ _ (.bool b), Sx.box _ w1.heap.size 26, Sx.any _, Xval _ _ (.bool b)]
    (Sx.and (XhI r2_1 (Nat.not_le_of_lt n2_1.lt) zaI (Xnum _ _ 0)) (Sx.and (XhN r3_1 (Nat.not_le_of_lt n3_1.lt) zaN (Xdoc _ _ (fun _ _ h => h) 0)) (Sx.any _))) [(4, some 5)] [stNI 6 4 (Xnum _ _ z)] (by kernel_rfl) (by kernel_rfl) (by kernel_rfl) hs1 (And.intro (And.intro n2_1 I2_1) (And.intro (And.intro n3_1 I3_1) trivial)) hB1.size (show ([6] : List Nat).Nodup by decide) (fac nst fan) (fac (nby rfl) fan) ?_ ?_ ?_
  · intro i hi hns a w' hb hiv hk hp hold
    obtain ⟨⟨n2, i2⟩, ⟨n3, i3⟩, _⟩ := hiv
    have k0 := (hk 0 (by decide)).trans t0_1
    match i, hi with
    | 0, _ => exact s_kmove k0 rfl (gf rfl)
    | 1, _ => exact s_call1 enter_parse (arg1 (hp 0 rfl) (parse_ct hP w')) (gf rfl)
    | 2, _ => exact s_move (hp 1 rfl) (gf rfl)
    | 3, _ => exact s_ext0 (hp 2 rfl) (gf rfl)
    | 4, _ => exact s_ext1 (hp 2 rfl) (gf rfl)
    | 5, _ => exact sA_I hb.size hb.size (fac (zI w') fan)
    | 6, _ => exact absurd rfl (hns _ (.head _))
    | 7, _ => exact s_assign (hp 4 rfl) (gf rfl)
    | _ + 8, h => exact absurd h (by omega)
  · refine fac ?_ (fan)
    · intro a w' hb hiv hk hp ho hf
      exact sN_I (hp 5 rfl) (hp 3 rfl) (hp 3 rfl) hB1.size (hf 5 (.head _)) (fun _ h => h)
  intro a2 w2 hb2 hd2 hs2 hk2 hiv2 hsp2 hst2 hds2
  have hB2 := hB1.trans hb2
  replace hd2 := hd2.trans hd1
  obtain ⟨⟨n2_2, i2_2⟩, ⟨n3_2, i3_2⟩, _⟩ := hiv2
  have t0_2 := (hk2 0 (by decide)).trans t0_1
  have t2_2 := (hk2 2 (by decide)).trans t2_1
  have t3_2 := (hk2 3 (by decide)).trans t3_1
  obtain ⟨r4_2, v4_2, t4_2, b4_2, n4_2, I4_2⟩ := tnI (k := 4) (hst2 _ (.head _)) (hsp2 5 (by decide) (fac (nq rfl) fan)) hB1.size (by omega)
  have ne2_4_2 : r2_1 ≠ r4_2 := by have := n2_1.lt; have := b4_2.2; omega
  have ne3_4_2 : r3_1 ≠ r4_2 := by have := n3_1.lt; have := b4_2.2; omega
  clear hb2 hk2 hsp2 hst2 hds2
  refine wp_seq ?_
  refine fx3 (fun r => r = r2_1 ∨ r = r3_1) Zr (l := regionOf Tryz.f33 2) true (by kernel_rfl) 5 14 w.heap.size [0, 2, 3, 4]
    [Xnum _ _ z, Xval _ _ (.string s), Xdoc _ _ (fun _ _ h => h) z, Sx.any _, Sx.any _]
    (Sx.and (XhI r4_2 (show ¬ (r4_2 = r2_1 ∨ r4_2 = r3_1) by have := n4_2.lt; omega) v4_2 (Xnum _ _ z)) (Sx.any _)) [(2, none), (3, none)] [stXI 3 2 (Xnum _ _ z) r2_1 zaI (Xnum _ _ 0), stXN 4 3 (Xdoc _ _ (fun _ _ h => h) z) r3_1 zaN (Xdoc _ _ (fun _ _ h => h) 0)]
    (by kernel_rfl) (by kernel_rfl) (by kernel_rfl) hs2 (And.intro (And.intro n4_2 I4_2) trivial) hB2.size (fac (fun _ _ => trivial) (fac (fun _ _ => trivial) fan)) (show ([3, 4] : List Nat).Nodup by decide) (fac (.inr (And.intro (show (2 : Nat) ∈ ([0, 2, 3, 4] : List Nat) by decide) (And.intro (.head _) (getD_of t2_2)))) (fac (.inr (And.intro (show (3 : Nat) ∈ ([0, 2, 3, 4] : List Nat) by decide) (And.intro (.tail _ (.head _)) (getD_of t3_2)))) fan)) (fac (And.intro n2_2 i2_2) (fac (And.intro n3_2 i3_2) fan)) (fac (fun _ => ⟨r2_1, getD_of t2_2, n2_2.lt⟩) (fac (fun _ => ⟨r3_1, getD_of t3_2, n3_2.lt⟩) fan)) (dis_two t2_2 t3_2 ne2_3_1 rfl) (fac (fun i hi => by cases hi) (fac (fun i hi => by cases hi) fan)) ?_ ?_ ?_
  · intro i hi hns a w' hb hiv hk hp hold
    obtain ⟨⟨n4, i4⟩, _⟩ := hiv
    have k0 := (hk 0 (by decide)).trans t0_2
    have k4 := (hk 4 (by decide)).trans t4_2
    match i, hi with
    | 0, _ => exact s_load k4 (load_bx n4) i4 (gf rfl)
    | 1, _ => exact s_kmove k0 rfl (gf rfl)
    | 2, _ => exact s_call1 enter_must (arg1 (hp 1 rfl) (must_all s z w' b hQ)) (gf rfl)
    | 3, _ => exact absurd rfl (hns _ (.head _))
    | 4, _ => exact absurd rfl (hns _ (.tail _ (.head _)))
    | _ + 5, h => exact absurd h (by omega)
  · refine fac ?_ (fac ?_ (fan))
    · intro a w' hb hiv hk hp ho hf
      exact sX_I ((hk 2 (by decide)).trans t2_2) ho.1 (hp 0 rfl) (hp 0 rfl) b2_1.1 (by simp) ho.1.zr0
    · intro a w' hb hiv hk hp ho hf
      exact sX_N ((hk 3 (by decide)).trans t3_2) ho.1 (hp 2 rfl) (hp 2 rfl) b3_1.1 (by simp) ho.1.zr0
  intro a3 w3 hb3 hd3 hs3 hk3 hiv3 hsp3 hst3 hds3
  have hB3 := hB2.trans hb3
  replace hd3 := hd3.trans hd2
  obtain ⟨⟨n4_3, i4_3⟩, _⟩ := hiv3
  have t2_3 := (hk3 2 (by decide)).trans t2_2
  have t3_3 := (hk3 3 (by decide)).trans t3_2
  obtain ⟨v2_3, n2_3, I2_3⟩ := txI (hst3 _ (.head _)) t2_3
  obtain ⟨v3_3, n3_3, I3_3⟩ := txN (hst3 _ (.tail _ (.head _))) t3_3
  clear hb3 hk3 hsp3 hst3 hds3
  refine wp_ret ?_
  repeat first | refine then_ret ?_ | refine inBlock_ret ?_
  refine bodyPost_ret (res_IN rfl t2_3 t3_3 n2_3 n3_3) hd3 ⟨_, rfl, hB3, ?_⟩
  exact ⟨_, _, rfl, I2_3, I3_3⟩

theorem of2_all (s : ByteArray) (hs : s.size ≤ 120) : ∃ z : Int, (z.natAbs : Int) < pw 40 ∧ (z.natAbs : Int) < T4.pw 100 ∧ ∀ w, Calls Tryz.prog 33 #[.string s] w (PostIN z w) := by
  obtain ⟨b, z, hz1, hz2, _, hp, hq⟩ := both_parse s (by omega)
  exact ⟨z, hz1, hz2, fun w => of2_raw s z b hp hq w⟩
/-- The fraction of two numbers (0 below counts as 1). -/
def frQ (z y : Int) : Rat := Rat.divInt z (if y = 0 then 1 else y)

set_option maxRecDepth 100000 in
set_option maxHeartbeats 1600000 in
theorem frac2_raw (s t : ByteArray) (zA zB : Int) (gA : (zA.natAbs : Int) < pw 40) (kA : (zA.natAbs : Int) < T4.pw 100) (gB : (zB.natAbs : Int) < pw 40) (kB : (zB.natAbs : Int) < T4.pw 100) (hA : ∀ w, Calls Tryz.prog 33 #[.string s] w (PostIN zA w)) (hC : ∀ w, Calls Tryz.prog 33 #[.string t] w (PostIN zB w)) (w : World)  :
    Calls Tryz.prog 8 #[(.string s), (.string t)] w fun e w' => ∃ r, e = .returned r ∧ Below w.heap.size w w' ∧ ∃ xx yy, r = .tuple #[xx, yy] ∧ IsRt w' xx (frQ zA zB) ∧ IsQt w' yy (frQ zA zB) := by
  refine calls_act (fn := Tryz.f8) (by kernel_rfl) rfl (N := 43) (by kernel_rfl) (by simp) ?_
  intro a0 hs0 hd0 hx0
  have t0 : a0.tmps[0]? = some (.string s) := hx0 0 _ rfl
  have t1 : a0.tmps[1]? = some (.string t) := hx0 1 _ rfl
  clear hx0
  have hB0 : Below w.heap.size w w := Below.refl _ _
  refine wp_seq ?_
  refine fxN (fun _ => False) Zr (l := regionOf Tryz.f8 0) false (by kernel_rfl) 2 43 w.heap.size [0, 1]
    [XoR _ w.heap.size zaR (Xrat _ _ 0 0), XoQ _ w.heap.size zaQ (Xfr _ _ (fun _ _ h => h) 0 0)]
    (Sx.any _) [(4, some 0), (5, some 1)] [] (by kernel_rfl) (by kernel_rfl) (by kernel_rfl) hs0 trivial hB0.size List.nodup_nil fan (fac (npR rfl) (fac (npQ rfl) fan)) ?_ ?_ ?_
  · intro i hi hns a w' hb hiv hk hp hold
    obtain ⟨_⟩ := hiv
    match i, hi with
    | 0, _ => exact sO_R hb.size isR_zero rfl
    | 1, _ => exact sO_Q hb.size isQ_zero rfl
    | _ + 2, h => exact absurd h (by omega)
  · exact fan
  intro a1 w1 hb1 hd1 hs1 hk1 hiv1 hsp1 hst1 hds1
  have hB1 := hB0.trans hb1
  replace hd1 := hd1.trans hd0
  have t0_1 := (hk1 0 (by decide)).trans t0
  have t1_1 := (hk1 1 (by decide)).trans t1
  obtain ⟨r4_1, t4_1, b4_1, n4_1, I4_1⟩ := toR (k := 4) (hsp1 0 (by decide) fan) hB0.size (by omega)
  obtain ⟨r5_1, t5_1, b5_1, n5_1, I5_1⟩ := toQ (k := 5) (hsp1 1 (by decide) fan) hB0.size (by omega)
  have ne4_5_1 : r4_1 ≠ r5_1 := ne_ptr (hds1 (4, some 0) (.head _) (5, some 1) (.tail _ (.head _)) (by decide)) t4_1 t5_1
  clear hb1 hk1 hsp1 hst1 hds1 hiv1
  refine wp_seq ?_
  refine fxN (fun r => w1.heap.size ≤ r) Zr (l := regionOf Tryz.f8 1) false (by kernel_rfl) 9 43 w.heap.size [0, 1, 4, 5]
    [Xval _ _ (.string s), Xtup (Xnum _ _ zA) (Xdoc _ _ (fun _ _ h => h) zA), Xtup (Xnum _ _ zA) (Xdoc _ _ (fun _ _ h => h) zA), Xnum _ _ zA, Xdoc _ _ (fun _ _ h => h) zA, Sx.box _ w1.heap.size 26, Sx.box _ w1.heap.size 31, Sx.any _, Sx.any _]
    (Sx.and (XhR r4_1 (Nat.not_le_of_lt n4_1.lt) zaR (Xrat _ _ 0 0)) (Sx.and (XhQ r5_1 (Nat.not_le_of_lt n5_1.lt) zaQ (Xfr _ _ (fun _ _ h => h) 0 0)) (Sx.any _))) [(6, some 5), (7, some 6)] [stNI 7 6 (Xnum _ _ zA), stNN 8 7 (Xdoc _ _ (fun _ _ h => h) zA)] (by kernel_rfl) (by kernel_rfl) (by kernel_rfl) hs1 (And.intro (And.intro n4_1 I4_1) (And.intro (And.intro n5_1 I5_1) trivial)) hB1.size (show ([7, 8] : List Nat).Nodup by decide) (fac nst (fac nst fan)) (fac (nby rfl) (fac (nby rfl) fan)) ?_ ?_ ?_
  · intro i hi hns a w' hb hiv hk hp hold
    obtain ⟨⟨n4, i4⟩, ⟨n5, i5⟩, _⟩ := hiv
    have k0 := (hk 0 (by decide)).trans t0_1
    match i, hi with
    | 0, _ => exact s_kmove k0 rfl (gf rfl)
    | 1, _ => exact s_call1 enter_of2 (arg1 (hp 0 rfl) (hA w')) (gf rfl)
    | 2, _ => exact s_move (hp 1 rfl) (gf rfl)
    | 3, _ => exact s_ext0 (hp 2 rfl) (gf rfl)
    | 4, _ => exact s_ext1 (hp 2 rfl) (gf rfl)
    | 5, _ => exact sA_I hb.size hb.size (fac (zI w') (fac (zI w') fan))
    | 6, _ => exact sA_N hb.size hb.size (fac (zN w') (fac (zN w') fan))
    | 7, _ => exact absurd rfl (hns _ (.head _))
    | 8, _ => exact absurd rfl (hns _ (.tail _ (.head _)))
    | _ + 9, h => exact absurd h (by omega)
  · refine fac ?_ (fac ?_ (fan))
    · intro a w' hb hiv hk hp ho hf
      exact sN_I (hp 5 rfl) (hp 3 rfl) (hp 3 rfl) hB1.size (hf 5 (.head _)) (fun _ h => h)
    · intro a w' hb hiv hk hp ho hf
      exact sN_N (hp 6 rfl) (hp 4 rfl) (hp 4 rfl) hB1.size (hf 6 (.tail _ (.head _))) (fun _ h => h)
  intro a2 w2 hb2 hd2 hs2 hk2 hiv2 hsp2 hst2 hds2
  have hB2 := hB1.trans hb2
  replace hd2 := hd2.trans hd1
  obtain ⟨⟨n4_2, i4_2⟩, ⟨n5_2, i5_2⟩, _⟩ := hiv2
  have t1_2 := (hk2 1 (by decide)).trans t1_1
  have t4_2 := (hk2 4 (by decide)).trans t4_1
  have t5_2 := (hk2 5 (by decide)).trans t5_1
  obtain ⟨r6_2, v6_2, t6_2, b6_2, n6_2, I6_2⟩ := tnI (k := 6) (hst2 _ (.head _)) (hsp2 5 (by decide) (fac (nq rfl) (fac (nq rfl) fan))) hB1.size (by omega)
  obtain ⟨r7_2, v7_2, t7_2, b7_2, n7_2, I7_2⟩ := tnN (k := 7) (hst2 _ (.tail _ (.head _))) (hsp2 6 (by decide) (fac (nq rfl) (fac (nq rfl) fan))) hB1.size (by omega)
  have ne4_6_2 : r4_1 ≠ r6_2 := by have := n4_1.lt; have := b6_2.2; omega
  have ne4_7_2 : r4_1 ≠ r7_2 := by have := n4_1.lt; have := b7_2.2; omega
  have ne5_6_2 : r5_1 ≠ r6_2 := by have := n5_1.lt; have := b6_2.2; omega
  have ne5_7_2 : r5_1 ≠ r7_2 := by have := n5_1.lt; have := b7_2.2; omega
  clear hb2 hk2 hsp2 hst2 hds2
  refine wp_seq ?_
  refine fxN (fun r => w2.heap.size ≤ r) Zr (l := regionOf Tryz.f8 2) false (by kernel_rfl) 9 43 w.heap.size [1, 4, 5, 6, 7]
    [Xval _ _ (.string t), Xtup (Xnum _ _ zB) (Xdoc _ _ (fun _ _ h => h) zB), Xtup (Xnum _ _ zB) (Xdoc _ _ (fun _ _ h => h) zB), Xnum _ _ zB, Xdoc _ _ (fun _ _ h => h) zB, Sx.box _ w2.heap.size 26, Sx.box _ w2.heap.size 31, Sx.any _, Sx.any _]
    (Sx.and (XhR r4_1 (Nat.not_le_of_lt n4_2.lt) zaR (Xrat _ _ 0 0)) (Sx.and (XhQ r5_1 (Nat.not_le_of_lt n5_2.lt) zaQ (Xfr _ _ (fun _ _ h => h) 0 0)) (Sx.and (XhI r6_2 (Nat.not_le_of_lt n6_2.lt) v6_2 (Xnum _ _ zA)) (Sx.and (XhN r7_2 (Nat.not_le_of_lt n7_2.lt) v7_2 (Xdoc _ _ (fun _ _ h => h) zA)) (Sx.any _))))) [(8, some 5), (9, some 6)] [stNI 7 8 (Xnum _ _ zB), stNN 8 9 (Xdoc _ _ (fun _ _ h => h) zB)] (by kernel_rfl) (by kernel_rfl) (by kernel_rfl) hs2 (And.intro (And.intro n4_2 i4_2) (And.intro (And.intro n5_2 i5_2) (And.intro (And.intro n6_2 I6_2) (And.intro (And.intro n7_2 I7_2) trivial)))) hB2.size (show ([7, 8] : List Nat).Nodup by decide) (fac nst (fac nst fan)) (fac (nby rfl) (fac (nby rfl) fan)) ?_ ?_ ?_
  · intro i hi hns a w' hb hiv hk hp hold
    obtain ⟨⟨n4, i4⟩, ⟨n5, i5⟩, ⟨n6, i6⟩, ⟨n7, i7⟩, _⟩ := hiv
    have k1 := (hk 1 (by decide)).trans t1_2
    match i, hi with
    | 0, _ => exact s_kmove k1 rfl (gf rfl)
    | 1, _ => exact s_call1 enter_of2 (arg1 (hp 0 rfl) (hC w')) (gf rfl)
    | 2, _ => exact s_move (hp 1 rfl) (gf rfl)
    | 3, _ => exact s_ext0 (hp 2 rfl) (gf rfl)
    | 4, _ => exact s_ext1 (hp 2 rfl) (gf rfl)
    | 5, _ => exact sA_I hb.size hb.size (fac (zI w') (fac (zI w') fan))
    | 6, _ => exact sA_N hb.size hb.size (fac (zN w') (fac (zN w') fan))
    | 7, _ => exact absurd rfl (hns _ (.head _))
    | 8, _ => exact absurd rfl (hns _ (.tail _ (.head _)))
    | _ + 9, h => exact absurd h (by omega)
  · refine fac ?_ (fac ?_ (fan))
    · intro a w' hb hiv hk hp ho hf
      exact sN_I (hp 5 rfl) (hp 3 rfl) (hp 3 rfl) hB2.size (hf 5 (.head _)) (fun _ h => h)
    · intro a w' hb hiv hk hp ho hf
      exact sN_N (hp 6 rfl) (hp 4 rfl) (hp 4 rfl) hB2.size (hf 6 (.tail _ (.head _))) (fun _ h => h)
  intro a3 w3 hb3 hd3 hs3 hk3 hiv3 hsp3 hst3 hds3
  have hB3 := hB2.trans hb3
  replace hd3 := hd3.trans hd2
  obtain ⟨⟨n4_3, i4_3⟩, ⟨n5_3, i5_3⟩, ⟨n6_3, i6_3⟩, ⟨n7_3, i7_3⟩, _⟩ := hiv3
  have t4_3 := (hk3 4 (by decide)).trans t4_2
  have t5_3 := (hk3 5 (by decide)).trans t5_2
  have t6_3 := (hk3 6 (by decide)).trans t6_2
  have t7_3 := (hk3 7 (by decide)).trans t7_2
  obtain ⟨r8_3, v8_3, t8_3, b8_3, n8_3, I8_3⟩ := tnI (k := 8) (hst3 _ (.head _)) (hsp3 5 (by decide) (fac (nq rfl) (fac (nq rfl) fan))) hB2.size (by omega)
  obtain ⟨r9_3, v9_3, t9_3, b9_3, n9_3, I9_3⟩ := tnN (k := 9) (hst3 _ (.tail _ (.head _))) (hsp3 6 (by decide) (fac (nq rfl) (fac (nq rfl) fan))) hB2.size (by omega)
  have ne4_8_3 : r4_1 ≠ r8_3 := by have := n4_2.lt; have := b8_3.2; omega
  have ne4_9_3 : r4_1 ≠ r9_3 := by have := n4_2.lt; have := b9_3.2; omega
  have ne5_8_3 : r5_1 ≠ r8_3 := by have := n5_2.lt; have := b8_3.2; omega
  have ne5_9_3 : r5_1 ≠ r9_3 := by have := n5_2.lt; have := b9_3.2; omega
  have ne6_8_3 : r6_2 ≠ r8_3 := by have := n6_2.lt; have := b8_3.2; omega
  have ne6_9_3 : r6_2 ≠ r9_3 := by have := n6_2.lt; have := b9_3.2; omega
  have ne7_8_3 : r7_2 ≠ r8_3 := by have := n7_2.lt; have := b8_3.2; omega
  have ne7_9_3 : r7_2 ≠ r9_3 := by have := n7_2.lt; have := b9_3.2; omega
  have ne8_9_3 : r8_3 ≠ r9_3 := ne_ptr (hds3 (8, some 5) (.head _) (9, some 6) (.tail _ (.head _)) (by decide)) t8_3 t9_3
  clear hb3 hk3 hsp3 hst3 hds3
  refine wp_seq ?_
  refine wp_seq ?_
  refine fx3n Zr (l := regionOf Tryz.f8 3) false (by kernel_rfl) 3 43 w.heap.size [4, 5, 6, 7, 8, 9] [Xnum _ _ zB, Xval _ _ (.int .i64 (sgn (zB))), Xval _ _ (.bool ((sgn (zB)) == 0))] (Sx.and (XhR r4_1 (fun h => h) zaR (Xrat _ _ 0 0)) (Sx.and (XhQ r5_1 (fun h => h) zaQ (Xfr _ _ (fun _ _ h => h) 0 0)) (Sx.and (XhI r6_2 (fun h => h) v6_2 (Xnum _ _ zA)) (Sx.and (XhN r7_2 (fun h => h) v7_2 (Xdoc _ _ (fun _ _ h => h) zA)) (Sx.and (XhI r8_3 (fun h => h) v8_3 (Xnum _ _ zB)) (Sx.and (XhN r9_3 (fun h => h) v9_3 (Xdoc _ _ (fun _ _ h => h) zB)) (Sx.any _))))))) (by kernel_rfl) (by kernel_rfl) (by kernel_rfl) hs3 (And.intro (And.intro n4_3 i4_3) (And.intro (And.intro n5_3 i5_3) (And.intro (And.intro n6_3 i6_3) (And.intro (And.intro n7_3 i7_3) (And.intro (And.intro n8_3 I8_3) (And.intro (And.intro n9_3 I9_3) trivial)))))) hB3.size ?_ ?_
  · intro i hi a w' hb hiv hk hp
    obtain ⟨⟨n4, i4⟩, ⟨n5, i5⟩, ⟨n6, i6⟩, ⟨n7, i7⟩, ⟨n8, i8⟩, ⟨n9, i9⟩, _⟩ := hiv
    have k8 := (hk 8 (by decide)).trans t8_3
    match i, hi with
    | 0, _ => exact s_load k8 (load_bx n8) i8 gt
    | 1, _ => exact s_call1 enter_Sign (sign_ct _ (zB) w' (hp 0 rfl)) gt
    | 2, _ => exact s_eql (hp 1 rfl) rfl rfl gt
    | _ + 3, h => exact absurd h (by omega)
  intro a4 w4 hb4 hd4 hs4 hk4 hiv4 hsp4
  have hB4 := hB3.trans hb4
  replace hd4 := hd4.trans hd3
  obtain ⟨⟨n4_4, i4_4⟩, ⟨n5_4, i5_4⟩, ⟨n6_4, i6_4⟩, ⟨n7_4, i7_4⟩, ⟨n8_4, i8_4⟩, ⟨n9_4, i9_4⟩, _⟩ := hiv4
  have t4_4 := (hk4 4 (by decide)).trans t4_3
  have t5_4 := (hk4 5 (by decide)).trans t5_3
  have t6_4 := (hk4 6 (by decide)).trans t6_3
  have t7_4 := (hk4 7 (by decide)).trans t7_3
  have t8_4 := (hk4 8 (by decide)).trans t8_3
  have t9_4 := (hk4 9 (by decide)).trans t9_3
  obtain ⟨v26_4, t26_4, I26_4⟩ : ∃ v, a4.tmps[26]? = some v ∧ v = (.bool ((sgn (zB)) == 0)) := tv_get (k := 26) (hsp4 2 (by decide)) (by omega)
  clear hb4 hk4 hsp4
  by_cases hc26 : zB = 0
  · skip
    refine wp_cond_true (show Act.eval a4 (.tmp 26) = .bool true by rw [eval_of t26_4, I26_4]; simp [sgn_zero, hc26]) ?_
    refine fx3 (fun r => r = r8_3 ∨ r = r9_3) Zr (l := regionOf Tryz.f8 4) false (by kernel_rfl) 4 43 w.heap.size [4, 5, 6, 7, 8, 9]
      [Xnum _ _ 1, Xdoc _ _ (fun _ _ h => h) 1, Sx.any _, Sx.any _]
      (Sx.and (XhR r4_1 (show ¬ (r4_1 = r8_3 ∨ r4_1 = r9_3) by have := n4_4.lt; omega) zaR (Xrat _ _ 0 0)) (Sx.and (XhQ r5_1 (show ¬ (r5_1 = r8_3 ∨ r5_1 = r9_3) by have := n5_4.lt; omega) zaQ (Xfr _ _ (fun _ _ h => h) 0 0)) (Sx.and (XhI r6_2 (show ¬ (r6_2 = r8_3 ∨ r6_2 = r9_3) by have := n6_4.lt; omega) v6_2 (Xnum _ _ zA)) (Sx.and (XhN r7_2 (show ¬ (r7_2 = r8_3 ∨ r7_2 = r9_3) by have := n7_4.lt; omega) v7_2 (Xdoc _ _ (fun _ _ h => h) zA)) (Sx.any _))))) [(8, none), (9, none)] [stXI 2 8 (Xnum _ _ 1) r8_3 v8_3 (Xnum _ _ zB), stXN 3 9 (Xdoc _ _ (fun _ _ h => h) 1) r9_3 v9_3 (Xdoc _ _ (fun _ _ h => h) zB)]
      (by kernel_rfl) (by kernel_rfl) (by kernel_rfl) hs4 (And.intro (And.intro n4_4 i4_4) (And.intro (And.intro n5_4 i5_4) (And.intro (And.intro n6_4 i6_4) (And.intro (And.intro n7_4 i7_4) trivial)))) hB4.size (fac (fun _ _ => trivial) (fac (fun _ _ => trivial) fan)) (show ([2, 3] : List Nat).Nodup by decide) (fac (.inr (And.intro (show (8 : Nat) ∈ ([4, 5, 6, 7, 8, 9] : List Nat) by decide) (And.intro (.head _) (getD_of t8_4)))) (fac (.inr (And.intro (show (9 : Nat) ∈ ([4, 5, 6, 7, 8, 9] : List Nat) by decide) (And.intro (.tail _ (.head _)) (getD_of t9_4)))) fan)) (fac (And.intro n8_4 i8_4) (fac (And.intro n9_4 i9_4) fan)) (fac (fun _ => ⟨r8_3, getD_of t8_4, n8_4.lt⟩) (fac (fun _ => ⟨r9_3, getD_of t9_4, n9_4.lt⟩) fan)) (dis_two t8_4 t9_4 ne8_9_3 rfl) (fac (fun i hi => by cases hi) (fac (fun i hi => by cases hi) fan)) ?_ ?_ ?_
    · intro i hi hns a w' hb hiv hk hp hold
      obtain ⟨⟨n4, i4⟩, ⟨n5, i5⟩, ⟨n6, i6⟩, ⟨n7, i7⟩, _⟩ := hiv
      match i, hi with
      | 0, _ => exact s_callC enter_Of (of_ct 1 w' (by decide) (by decide)) (gf rfl)
      | 1, _ => exact s_callC enter_ofN (ofN_any 1 w' (by decide) (by decide)) (gf rfl)
      | 2, _ => exact absurd rfl (hns _ (.head _))
      | 3, _ => exact absurd rfl (hns _ (.tail _ (.head _)))
      | _ + 4, h => exact absurd h (by omega)
    · refine fac ?_ (fac ?_ (fan))
      · intro a w' hb hiv hk hp ho hf
        exact sX_I ((hk 8 (by decide)).trans t8_4) ho.1 (hp 0 rfl) (hp 0 rfl) b8_3.1 (by simp) (Bx.zrI ho.1 (by have h9 := ho.2; rw [hc26] at h9; exact h9))
      · intro a w' hb hiv hk hp ho hf
        exact sX_N ((hk 9 (by decide)).trans t9_4) ho.1 (hp 1 rfl) (hp 1 rfl) b9_3.1 (by simp) ho.1.zr0
    intro a5 w5 hb5 hd5 hs5 hk5 hiv5 hsp5 hst5 hds5
    have hB5 := hB4.trans hb5
    replace hd5 := hd5.trans hd4
    obtain ⟨⟨n4_5, i4_5⟩, ⟨n5_5, i5_5⟩, ⟨n6_5, i6_5⟩, ⟨n7_5, i7_5⟩, _⟩ := hiv5
    have t4_5 := (hk5 4 (by decide)).trans t4_4
    have t5_5 := (hk5 5 (by decide)).trans t5_4
    have t6_5 := (hk5 6 (by decide)).trans t6_4
    have t7_5 := (hk5 7 (by decide)).trans t7_4
    have t8_5 := (hk5 8 (by decide)).trans t8_4
    have t9_5 := (hk5 9 (by decide)).trans t9_4
    obtain ⟨v8_5, n8_5, I8_5⟩ := txI (hst5 _ (.head _)) t8_5
    obtain ⟨v9_5, n9_5, I9_5⟩ := txN (hst5 _ (.tail _ (.head _))) t9_5
    clear hb5 hk5 hsp5 hst5 hds5
    change Code.wp _ _ _ _ _
    refine wp_seq ?_
    refine fxN (fun r => w5.heap.size ≤ r) Zr (l := regionOf Tryz.f8 5) false (by kernel_rfl) 9 43 w.heap.size [4, 5, 6, 7, 8, 9]
      [Xnum _ _ zA, Xnum _ _ 1, Xtup (Xrt _ _ (Rat.divInt zA 1)) (Xval _ _ (.bool (decide (1 ≠ 0)))), Xtup (Xrt _ _ (Rat.divInt zA 1)) (Xval _ _ (.bool (decide (1 ≠ 0)))), Xrt _ _ (Rat.divInt zA 1), Xval _ _ (.bool (decide (1 ≠ 0))), Sx.box _ w5.heap.size 28, Sx.any _, Xval _ _ (.bool (decide (1 ≠ 0)))]
      (Sx.and (XhR r4_1 (Nat.not_le_of_lt n4_5.lt) zaR (Xrat _ _ 0 0)) (Sx.and (XhQ r5_1 (Nat.not_le_of_lt n5_5.lt) zaQ (Xfr _ _ (fun _ _ h => h) 0 0)) (Sx.and (XhI r6_2 (Nat.not_le_of_lt n6_5.lt) v6_2 (Xnum _ _ zA)) (Sx.and (XhN r7_2 (Nat.not_le_of_lt n7_5.lt) v7_2 (Xdoc _ _ (fun _ _ h => h) zA)) (Sx.and (XhI r8_3 (Nat.not_le_of_lt n8_5.lt) v8_5 (Xnum _ _ 1)) (Sx.and (XhN r9_3 (Nat.not_le_of_lt n9_5.lt) v9_5 (Xdoc _ _ (fun _ _ h => h) 1)) (Sx.any _))))))) [(10, some 6)] [stNR 7 10 (Xrt _ _ (Rat.divInt zA 1))] (by kernel_rfl) (by kernel_rfl) (by kernel_rfl) hs5 (And.intro (And.intro n4_5 i4_5) (And.intro (And.intro n5_5 i5_5) (And.intro (And.intro n6_5 i6_5) (And.intro (And.intro n7_5 i7_5) (And.intro (And.intro n8_5 I8_5) (And.intro (And.intro n9_5 I9_5) trivial)))))) hB5.size (show ([7] : List Nat).Nodup by decide) (fac nst fan) (fac (nby rfl) fan) ?_ ?_ ?_
    · intro i hi hns a w' hb hiv hk hp hold
      obtain ⟨⟨n4, i4⟩, ⟨n5, i5⟩, ⟨n6, i6⟩, ⟨n7, i7⟩, ⟨n8, i8⟩, ⟨n9, i9⟩, _⟩ := hiv
      have k6 := (hk 6 (by decide)).trans t6_5
      have k8 := (hk 8 (by decide)).trans t8_5
      match i, hi with
      | 0, _ => exact s_load k6 (load_bx n6) i6 (gf rfl)
      | 1, _ => exact s_load k8 (load_bx n8) i8 (gf rfl)
      | 2, _ => exact s_call2 enter_rof (rof_any _ _ zA 1 w' (hp 0 rfl) (hp 1 rfl) (le1n gA (by decide)) (le1n (pw_one1) (by decide))) (gf rfl)
      | 3, _ => exact s_move (hp 2 rfl) (gf rfl)
      | 4, _ => exact s_ext0 (hp 3 rfl) (gf rfl)
      | 5, _ => exact s_ext1 (hp 3 rfl) (gf rfl)
      | 6, _ => exact sA_R hb.size hb.size (fac (zR w') fan)
      | 7, _ => exact absurd rfl (hns _ (.head _))
      | 8, _ => exact s_assign (hp 5 rfl) (gf rfl)
      | _ + 9, h => exact absurd h (by omega)
    · refine fac ?_ (fan)
      · intro a w' hb hiv hk hp ho hf
        exact sN_R (hp 6 rfl) (hp 4 rfl) (hp 4 rfl) hB5.size (hf 6 (.head _)) (fun _ h => h)
    intro a6 w6 hb6 hd6 hs6 hk6 hiv6 hsp6 hst6 hds6
    have hB6 := hB5.trans hb6
    replace hd6 := hd6.trans hd5
    obtain ⟨⟨n4_6, i4_6⟩, ⟨n5_6, i5_6⟩, ⟨n6_6, i6_6⟩, ⟨n7_6, i7_6⟩, ⟨n8_6, i8_6⟩, ⟨n9_6, i9_6⟩, _⟩ := hiv6
    have t4_6 := (hk6 4 (by decide)).trans t4_5
    have t5_6 := (hk6 5 (by decide)).trans t5_5
    have t7_6 := (hk6 7 (by decide)).trans t7_5
    have t9_6 := (hk6 9 (by decide)).trans t9_5
    obtain ⟨r10_6, v10_6, t10_6, b10_6, n10_6, I10_6⟩ := tnR (k := 10) (hst6 _ (.head _)) (hsp6 6 (by decide) (fac (nq rfl) fan)) hB5.size (by omega)
    have ne4_10_6 : r4_1 ≠ r10_6 := by have := n4_5.lt; have := b10_6.2; omega
    have ne5_10_6 : r5_1 ≠ r10_6 := by have := n5_5.lt; have := b10_6.2; omega
    have ne9_10_6 : r9_3 ≠ r10_6 := by have := n9_5.lt; have := b10_6.2; omega
    clear hb6 hk6 hsp6 hst6 hds6
    refine wp_seq ?_
    refine fxN (fun r => w6.heap.size ≤ r) Zr (l := regionOf Tryz.f8 6) false (by kernel_rfl) 9 43 w.heap.size [4, 5, 7, 9, 10]
      [Xdoc _ _ (fun _ _ h => h) zA, Xdoc _ _ (fun _ _ h => h) 1, Xtup (Xqt _ (Rat.divInt zA 1)) (Xval _ _ (.bool (decide (1 ≠ 0)))), Xtup (Xqt _ (Rat.divInt zA 1)) (Xval _ _ (.bool (decide (1 ≠ 0)))), Xqt _ (Rat.divInt zA 1), Xval _ _ (.bool (decide (1 ≠ 0))), Sx.box _ w6.heap.size 33, Sx.any _, Xval _ _ (.bool (decide (1 ≠ 0)))]
      (Sx.and (XhR r4_1 (Nat.not_le_of_lt n4_6.lt) zaR (Xrat _ _ 0 0)) (Sx.and (XhQ r5_1 (Nat.not_le_of_lt n5_6.lt) zaQ (Xfr _ _ (fun _ _ h => h) 0 0)) (Sx.and (XhN r7_2 (Nat.not_le_of_lt n7_6.lt) v7_2 (Xdoc _ _ (fun _ _ h => h) zA)) (Sx.and (XhN r9_3 (Nat.not_le_of_lt n9_6.lt) v9_5 (Xdoc _ _ (fun _ _ h => h) 1)) (Sx.and (XhR r10_6 (Nat.not_le_of_lt n10_6.lt) v10_6 (Xrt _ _ (Rat.divInt zA 1))) (Sx.any _)))))) [(12, some 6)] [stNQ 7 12 (Xqt _ (Rat.divInt zA 1))] (by kernel_rfl) (by kernel_rfl) (by kernel_rfl) hs6 (And.intro (And.intro n4_6 i4_6) (And.intro (And.intro n5_6 i5_6) (And.intro (And.intro n7_6 i7_6) (And.intro (And.intro n9_6 i9_6) (And.intro (And.intro n10_6 I10_6) trivial))))) hB6.size (show ([7] : List Nat).Nodup by decide) (fac nst fan) (fac (nby rfl) fan) ?_ ?_ ?_
    · intro i hi hns a w' hb hiv hk hp hold
      obtain ⟨⟨n4, i4⟩, ⟨n5, i5⟩, ⟨n7, i7⟩, ⟨n9, i9⟩, ⟨n10, i10⟩, _⟩ := hiv
      have k7 := (hk 7 (by decide)).trans t7_6
      have k9 := (hk 9 (by decide)).trans t9_6
      match i, hi with
      | 0, _ => exact s_load k7 (load_NB n7) i7 (gf rfl)
      | 1, _ => exact s_load k9 (load_NB n9) i9 (gf rfl)
      | 2, _ => exact s_call2 enter_frac (frac_qt _ _ zA 1 (T4.le7 kA (by decide)) (T4.le7 T4.pw_one1 (by decide)) w' (hp 0 rfl) (hp 1 rfl)) (gf rfl)
      | 3, _ => exact s_move (hp 2 rfl) (gf rfl)
      | 4, _ => exact s_ext0 (hp 3 rfl) (gf rfl)
      | 5, _ => exact s_ext1 (hp 3 rfl) (gf rfl)
      | 6, _ => exact sA_Q hb.size hb.size (fac (zQ w') fan)
      | 7, _ => exact absurd rfl (hns _ (.head _))
      | 8, _ => exact s_assign (hp 5 rfl) (gf rfl)
      | _ + 9, h => exact absurd h (by omega)
    · refine fac ?_ (fan)
      · intro a w' hb hiv hk hp ho hf
        exact sN_Q (hp 6 rfl) (hp 4 rfl) (hp 4 rfl) hB6.size (hf 6 (.head _)) (fun _ h => h)
    intro a7 w7 hb7 hd7 hs7 hk7 hiv7 hsp7 hst7 hds7
    have hB7 := hB6.trans hb7
    replace hd7 := hd7.trans hd6
    obtain ⟨⟨n4_7, i4_7⟩, ⟨n5_7, i5_7⟩, ⟨n7_7, i7_7⟩, ⟨n9_7, i9_7⟩, ⟨n10_7, i10_7⟩, _⟩ := hiv7
    have t4_7 := (hk7 4 (by decide)).trans t4_6
    have t5_7 := (hk7 5 (by decide)).trans t5_6
    have t10_7 := (hk7 10 (by decide)).trans t10_6
    obtain ⟨r12_7, v12_7, t12_7, b12_7, n12_7, I12_7⟩ := tnQ (k := 12) (hst7 _ (.head _)) (hsp7 6 (by decide) (fac (nq rfl) fan)) hB6.size (by omega)
    have ne4_12_7 : r4_1 ≠ r12_7 := by have := n4_6.lt; have := b12_7.2; omega
    have ne5_12_7 : r5_1 ≠ r12_7 := by have := n5_6.lt; have := b12_7.2; omega
    clear hb7 hk7 hsp7 hst7 hds7
    refine wp_seq ?_
    refine fx3 (fun r => r = r4_1 ∨ r = r5_1) Zr (l := regionOf Tryz.f8 7) true (by kernel_rfl) 4 43 w.heap.size [4, 5, 10, 12]
      [Xrt _ _ (Rat.divInt zA 1), Xqt _ (Rat.divInt zA 1), Sx.any _, Sx.any _]
      (Sx.and (XhR r10_6 (show ¬ (r10_6 = r4_1 ∨ r10_6 = r5_1) by have := n10_7.lt; omega) v10_6 (Xrt _ _ (Rat.divInt zA 1))) (Sx.and (XhQ r12_7 (show ¬ (r12_7 = r4_1 ∨ r12_7 = r5_1) by have := n12_7.lt; omega) v12_7 (Xqt _ (Rat.divInt zA 1))) (Sx.any _))) [(4, none), (5, none)] [stXR 2 4 (Xrt _ _ (Rat.divInt zA 1)) r4_1 zaR (Xrat _ _ 0 0), stXQ 3 5 (Xqt _ (Rat.divInt zA 1)) r5_1 zaQ (Xfr _ _ (fun _ _ h => h) 0 0)]
      (by kernel_rfl) (by kernel_rfl) (by kernel_rfl) hs7 (And.intro (And.intro n10_7 i10_7) (And.intro (And.intro n12_7 I12_7) trivial)) hB7.size (fac (fun _ _ => trivial) (fac (fun _ _ => trivial) fan)) (show ([2, 3] : List Nat).Nodup by decide) (fac (.inr (And.intro (show (4 : Nat) ∈ ([4, 5, 10, 12] : List Nat) by decide) (And.intro (.head _) (getD_of t4_7)))) (fac (.inr (And.intro (show (5 : Nat) ∈ ([4, 5, 10, 12] : List Nat) by decide) (And.intro (.tail _ (.head _)) (getD_of t5_7)))) fan)) (fac (And.intro n4_7 i4_7) (fac (And.intro n5_7 i5_7) fan)) (fac (fun _ => ⟨r4_1, getD_of t4_7, n4_7.lt⟩) (fac (fun _ => ⟨r5_1, getD_of t5_7, n5_7.lt⟩) fan)) (dis_two t4_7 t5_7 ne4_5_1 rfl) (fac (fun i hi => by cases hi) (fac (fun i hi => by cases hi) fan)) ?_ ?_ ?_
    · intro i hi hns a w' hb hiv hk hp hold
      obtain ⟨⟨n10, i10⟩, ⟨n12, i12⟩, _⟩ := hiv
      have k10 := (hk 10 (by decide)).trans t10_7
      have k12 := (hk 12 (by decide)).trans t12_7
      match i, hi with
      | 0, _ => exact s_load k10 (load_R n10) i10 (gf rfl)
      | 1, _ => exact s_load k12 (load_Q n12) i12 (gf rfl)
      | 2, _ => exact absurd rfl (hns _ (.head _))
      | 3, _ => exact absurd rfl (hns _ (.tail _ (.head _)))
      | _ + 4, h => exact absurd h (by omega)
    · refine fac ?_ (fac ?_ (fan))
      · intro a w' hb hiv hk hp ho hf
        exact sX_R ((hk 4 (by decide)).trans t4_7) ho.1 (hp 0 rfl) (hp 0 rfl) b4_1.1 (by simp) ho.1.zr0
      · intro a w' hb hiv hk hp ho hf
        exact sX_Q ((hk 5 (by decide)).trans t5_7) ho.1 (hp 1 rfl) (hp 1 rfl) b5_1.1 (by simp) ho.1.zr0
    intro a8 w8 hb8 hd8 hs8 hk8 hiv8 hsp8 hst8 hds8
    have hB8 := hB7.trans hb8
    replace hd8 := hd8.trans hd7
    obtain ⟨⟨n10_8, i10_8⟩, ⟨n12_8, i12_8⟩, _⟩ := hiv8
    have t4_8 := (hk8 4 (by decide)).trans t4_7
    have t5_8 := (hk8 5 (by decide)).trans t5_7
    obtain ⟨v4_8, n4_8, I4_8⟩ := txR (hst8 _ (.head _)) t4_8
    obtain ⟨v5_8, n5_8, I5_8⟩ := txQ (hst8 _ (.tail _ (.head _))) t5_8
    clear hb8 hk8 hsp8 hst8 hds8
    refine wp_ret ?_
    repeat first | refine then_ret ?_ | refine inBlock_ret ?_
    refine bodyPost_ret (res_RQ rfl t4_8 t5_8 n4_8 n5_8) hd8 ⟨_, rfl, hB8, ?_⟩
    unfold frQ
    rw [if_pos hc26]
    exact ⟨_, _, rfl, I4_8, I5_8⟩
  · skip
    refine wp_cond_false (show Act.eval a4 (.tmp 26) = .bool false by rw [eval_of t26_4, I26_4]; simp [sgn_zero, hc26]) ?_
    refine wp_skip ?_
    change Code.wp _ _ _ _ _
    refine wp_seq ?_
    refine fxN (fun r => w4.heap.size ≤ r) Zr (l := regionOf Tryz.f8 5) false (by kernel_rfl) 9 43 w.heap.size [4, 5, 6, 7, 8, 9]
      [Xnum _ _ zA, Xnum _ _ zB, Xtup (Xrt _ _ (Rat.divInt zA zB)) (Xval _ _ (.bool (decide (zB ≠ 0)))), Xtup (Xrt _ _ (Rat.divInt zA zB)) (Xval _ _ (.bool (decide (zB ≠ 0)))), Xrt _ _ (Rat.divInt zA zB), Xval _ _ (.bool (decide (zB ≠ 0))), Sx.box _ w4.heap.size 28, Sx.any _, Xval _ _ (.bool (decide (zB ≠ 0)))]
      (Sx.and (XhR r4_1 (Nat.not_le_of_lt n4_4.lt) zaR (Xrat _ _ 0 0)) (Sx.and (XhQ r5_1 (Nat.not_le_of_lt n5_4.lt) zaQ (Xfr _ _ (fun _ _ h => h) 0 0)) (Sx.and (XhI r6_2 (Nat.not_le_of_lt n6_4.lt) v6_2 (Xnum _ _ zA)) (Sx.and (XhN r7_2 (Nat.not_le_of_lt n7_4.lt) v7_2 (Xdoc _ _ (fun _ _ h => h) zA)) (Sx.and (XhI r8_3 (Nat.not_le_of_lt n8_4.lt) v8_3 (Xnum _ _ zB)) (Sx.and (XhN r9_3 (Nat.not_le_of_lt n9_4.lt) v9_3 (Xdoc _ _ (fun _ _ h => h) zB)) (Sx.any _))))))) [(10, some 6)] [stNR 7 10 (Xrt _ _ (Rat.divInt zA zB))] (by kernel_rfl) (by kernel_rfl) (by kernel_rfl) hs4 (And.intro (And.intro n4_4 i4_4) (And.intro (And.intro n5_4 i5_4) (And.intro (And.intro n6_4 i6_4) (And.intro (And.intro n7_4 i7_4) (And.intro (And.intro n8_4 i8_4) (And.intro (And.intro n9_4 i9_4) trivial)))))) hB4.size (show ([7] : List Nat).Nodup by decide) (fac nst fan) (fac (nby rfl) fan) ?_ ?_ ?_
    · intro i hi hns a w' hb hiv hk hp hold
      obtain ⟨⟨n4, i4⟩, ⟨n5, i5⟩, ⟨n6, i6⟩, ⟨n7, i7⟩, ⟨n8, i8⟩, ⟨n9, i9⟩, _⟩ := hiv
      have k6 := (hk 6 (by decide)).trans t6_4
      have k8 := (hk 8 (by decide)).trans t8_4
      match i, hi with
      | 0, _ => exact s_load k6 (load_bx n6) i6 (gf rfl)
      | 1, _ => exact s_load k8 (load_bx n8) i8 (gf rfl)
      | 2, _ => exact s_call2 enter_rof (rof_any _ _ zA zB w' (hp 0 rfl) (hp 1 rfl) (le1n gA (by decide)) (le1n gB (by decide))) (gf rfl)
      | 3, _ => exact s_move (hp 2 rfl) (gf rfl)
      | 4, _ => exact s_ext0 (hp 3 rfl) (gf rfl)
      | 5, _ => exact s_ext1 (hp 3 rfl) (gf rfl)
      | 6, _ => exact sA_R hb.size hb.size (fac (zR w') fan)
      | 7, _ => exact absurd rfl (hns _ (.head _))
      | 8, _ => exact s_assign (hp 5 rfl) (gf rfl)
      | _ + 9, h => exact absurd h (by omega)
    · refine fac ?_ (fan)
      · intro a w' hb hiv hk hp ho hf
        exact sN_R (hp 6 rfl) (hp 4 rfl) (hp 4 rfl) hB4.size (hf 6 (.head _)) (fun _ h => h)
    intro a5 w5 hb5 hd5 hs5 hk5 hiv5 hsp5 hst5 hds5
    have hB5 := hB4.trans hb5
    replace hd5 := hd5.trans hd4
    obtain ⟨⟨n4_5, i4_5⟩, ⟨n5_5, i5_5⟩, ⟨n6_5, i6_5⟩, ⟨n7_5, i7_5⟩, ⟨n8_5, i8_5⟩, ⟨n9_5, i9_5⟩, _⟩ := hiv5
    have t4_5 := (hk5 4 (by decide)).trans t4_4
    have t5_5 := (hk5 5 (by decide)).trans t5_4
    have t7_5 := (hk5 7 (by decide)).trans t7_4
    have t9_5 := (hk5 9 (by decide)).trans t9_4
    obtain ⟨r10_5, v10_5, t10_5, b10_5, n10_5, I10_5⟩ := tnR (k := 10) (hst5 _ (.head _)) (hsp5 6 (by decide) (fac (nq rfl) fan)) hB4.size (by omega)
    have ne4_10_5 : r4_1 ≠ r10_5 := by have := n4_4.lt; have := b10_5.2; omega
    have ne5_10_5 : r5_1 ≠ r10_5 := by have := n5_4.lt; have := b10_5.2; omega
    have ne9_10_5 : r9_3 ≠ r10_5 := by have := n9_4.lt; have := b10_5.2; omega
    clear hb5 hk5 hsp5 hst5 hds5
    refine wp_seq ?_
    refine fxN (fun r => w5.heap.size ≤ r) Zr (l := regionOf Tryz.f8 6) false (by kernel_rfl) 9 43 w.heap.size [4, 5, 7, 9, 10]
      [Xdoc _ _ (fun _ _ h => h) zA, Xdoc _ _ (fun _ _ h => h) zB, Xtup (Xqt _ (Rat.divInt zA zB)) (Xval _ _ (.bool (decide (zB ≠ 0)))), Xtup (Xqt _ (Rat.divInt zA zB)) (Xval _ _ (.bool (decide (zB ≠ 0)))), Xqt _ (Rat.divInt zA zB), Xval _ _ (.bool (decide (zB ≠ 0))), Sx.box _ w5.heap.size 33, Sx.any _, Xval _ _ (.bool (decide (zB ≠ 0)))]
      (Sx.and (XhR r4_1 (Nat.not_le_of_lt n4_5.lt) zaR (Xrat _ _ 0 0)) (Sx.and (XhQ r5_1 (Nat.not_le_of_lt n5_5.lt) zaQ (Xfr _ _ (fun _ _ h => h) 0 0)) (Sx.and (XhN r7_2 (Nat.not_le_of_lt n7_5.lt) v7_2 (Xdoc _ _ (fun _ _ h => h) zA)) (Sx.and (XhN r9_3 (Nat.not_le_of_lt n9_5.lt) v9_3 (Xdoc _ _ (fun _ _ h => h) zB)) (Sx.and (XhR r10_5 (Nat.not_le_of_lt n10_5.lt) v10_5 (Xrt _ _ (Rat.divInt zA zB))) (Sx.any _)))))) [(12, some 6)] [stNQ 7 12 (Xqt _ (Rat.divInt zA zB))] (by kernel_rfl) (by kernel_rfl) (by kernel_rfl) hs5 (And.intro (And.intro n4_5 i4_5) (And.intro (And.intro n5_5 i5_5) (And.intro (And.intro n7_5 i7_5) (And.intro (And.intro n9_5 i9_5) (And.intro (And.intro n10_5 I10_5) trivial))))) hB5.size (show ([7] : List Nat).Nodup by decide) (fac nst fan) (fac (nby rfl) fan) ?_ ?_ ?_
    · intro i hi hns a w' hb hiv hk hp hold
      obtain ⟨⟨n4, i4⟩, ⟨n5, i5⟩, ⟨n7, i7⟩, ⟨n9, i9⟩, ⟨n10, i10⟩, _⟩ := hiv
      have k7 := (hk 7 (by decide)).trans t7_5
      have k9 := (hk 9 (by decide)).trans t9_5
      match i, hi with
      | 0, _ => exact s_load k7 (load_NB n7) i7 (gf rfl)
      | 1, _ => exact s_load k9 (load_NB n9) i9 (gf rfl)
      | 2, _ => exact s_call2 enter_frac (frac_qt _ _ zA zB (T4.le7 kA (by decide)) (T4.le7 kB (by decide)) w' (hp 0 rfl) (hp 1 rfl)) (gf rfl)
      | 3, _ => exact s_move (hp 2 rfl) (gf rfl)
      | 4, _ => exact s_ext0 (hp 3 rfl) (gf rfl)
      | 5, _ => exact s_ext1 (hp 3 rfl) (gf rfl)
      | 6, _ => exact sA_Q hb.size hb.size (fac (zQ w') fan)
      | 7, _ => exact absurd rfl (hns _ (.head _))
      | 8, _ => exact s_assign (hp 5 rfl) (gf rfl)
      | _ + 9, h => exact absurd h (by omega)
    · refine fac ?_ (fan)
      · intro a w' hb hiv hk hp ho hf
        exact sN_Q (hp 6 rfl) (hp 4 rfl) (hp 4 rfl) hB5.size (hf 6 (.head _)) (fun _ h => h)
    intro a6 w6 hb6 hd6 hs6 hk6 hiv6 hsp6 hst6 hds6
    have hB6 := hB5.trans hb6
    replace hd6 := hd6.trans hd5
    obtain ⟨⟨n4_6, i4_6⟩, ⟨n5_6, i5_6⟩, ⟨n7_6, i7_6⟩, ⟨n9_6, i9_6⟩, ⟨n10_6, i10_6⟩, _⟩ := hiv6
    have t4_6 := (hk6 4 (by decide)).trans t4_5
    have t5_6 := (hk6 5 (by decide)).trans t5_5
    have t10_6 := (hk6 10 (by decide)).trans t10_5
    obtain ⟨r12_6, v12_6, t12_6, b12_6, n12_6, I12_6⟩ := tnQ (k := 12) (hst6 _ (.head _)) (hsp6 6 (by decide) (fac (nq rfl) fan)) hB5.size (by omega)
    have ne4_12_6 : r4_1 ≠ r12_6 := by have := n4_5.lt; have := b12_6.2; omega
    have ne5_12_6 : r5_1 ≠ r12_6 := by have := n5_5.lt; have := b12_6.2; omega
    clear hb6 hk6 hsp6 hst6 hds6
    refine wp_seq ?_
    refine fx3 (fun r => r = r4_1 ∨ r = r5_1) Zr (l := regionOf Tryz.f8 7) true (by kernel_rfl) 4 43 w.heap.size [4, 5, 10, 12]
      [Xrt _ _ (Rat.divInt zA zB), Xqt _ (Rat.divInt zA zB), Sx.any _, Sx.any _]
      (Sx.and (XhR r10_5 (show ¬ (r10_5 = r4_1 ∨ r10_5 = r5_1) by have := n10_6.lt; omega) v10_5 (Xrt _ _ (Rat.divInt zA zB))) (Sx.and (XhQ r12_6 (show ¬ (r12_6 = r4_1 ∨ r12_6 = r5_1) by have := n12_6.lt; omega) v12_6 (Xqt _ (Rat.divInt zA zB))) (Sx.any _))) [(4, none), (5, none)] [stXR 2 4 (Xrt _ _ (Rat.divInt zA zB)) r4_1 zaR (Xrat _ _ 0 0), stXQ 3 5 (Xqt _ (Rat.divInt zA zB)) r5_1 zaQ (Xfr _ _ (fun _ _ h => h) 0 0)]
      (by kernel_rfl) (by kernel_rfl) (by kernel_rfl) hs6 (And.intro (And.intro n10_6 i10_6) (And.intro (And.intro n12_6 I12_6) trivial)) hB6.size (fac (fun _ _ => trivial) (fac (fun _ _ => trivial) fan)) (show ([2, 3] : List Nat).Nodup by decide) (fac (.inr (And.intro (show (4 : Nat) ∈ ([4, 5, 10, 12] : List Nat) by decide) (And.intro (.head _) (getD_of t4_6)))) (fac (.inr (And.intro (show (5 : Nat) ∈ ([4, 5, 10, 12] : List Nat) by decide) (And.intro (.tail _ (.head _)) (getD_of t5_6)))) fan)) (fac (And.intro n4_6 i4_6) (fac (And.intro n5_6 i5_6) fan)) (fac (fun _ => ⟨r4_1, getD_of t4_6, n4_6.lt⟩) (fac (fun _ => ⟨r5_1, getD_of t5_6, n5_6.lt⟩) fan)) (dis_two t4_6 t5_6 ne4_5_1 rfl) (fac (fun i hi => by cases hi) (fac (fun i hi => by cases hi) fan)) ?_ ?_ ?_
    · intro i hi hns a w' hb hiv hk hp hold
      obtain ⟨⟨n10, i10⟩, ⟨n12, i12⟩, _⟩ := hiv
      have k10 := (hk 10 (by decide)).trans t10_6
      have k12 := (hk 12 (by decide)).trans t12_6
      match i, hi with
      | 0, _ => exact s_load k10 (load_R n10) i10 (gf rfl)
      | 1, _ => exact s_load k12 (load_Q n12) i12 (gf rfl)
      | 2, _ => exact absurd rfl (hns _ (.head _))
      | 3, _ => exact absurd rfl (hns _ (.tail _ (.head _)))
      | _ + 4, h => exact absurd h (by omega)
    · refine fac ?_ (fac ?_ (fan))
      · intro a w' hb hiv hk hp ho hf
        exact sX_R ((hk 4 (by decide)).trans t4_6) ho.1 (hp 0 rfl) (hp 0 rfl) b4_1.1 (by simp) ho.1.zr0
      · intro a w' hb hiv hk hp ho hf
        exact sX_Q ((hk 5 (by decide)).trans t5_6) ho.1 (hp 1 rfl) (hp 1 rfl) b5_1.1 (by simp) ho.1.zr0
    intro a7 w7 hb7 hd7 hs7 hk7 hiv7 hsp7 hst7 hds7
    have hB7 := hB6.trans hb7
    replace hd7 := hd7.trans hd6
    obtain ⟨⟨n10_7, i10_7⟩, ⟨n12_7, i12_7⟩, _⟩ := hiv7
    have t4_7 := (hk7 4 (by decide)).trans t4_6
    have t5_7 := (hk7 5 (by decide)).trans t5_6
    obtain ⟨v4_7, n4_7, I4_7⟩ := txR (hst7 _ (.head _)) t4_7
    obtain ⟨v5_7, n5_7, I5_7⟩ := txQ (hst7 _ (.tail _ (.head _))) t5_7
    clear hb7 hk7 hsp7 hst7 hds7
    refine wp_ret ?_
    repeat first | refine then_ret ?_ | refine inBlock_ret ?_
    refine bodyPost_ret (res_RQ rfl t4_7 t5_7 n4_7 n5_7) hd7 ⟨_, rfl, hB7, ?_⟩
    unfold frQ
    rw [if_neg hc26]
    exact ⟨_, _, rfl, I4_7, I5_7⟩

theorem frac2_all (s t : ByteArray) (hs : s.size ≤ 120) (ht : t.size ≤ 120) : ∃ q : Rat, Bd q 40 ∧ Bq q 100 ∧ ∀ w, Calls Tryz.prog 8 #[.string s, .string t] w (PostRQ q w) := by
  obtain ⟨zA, gA, kA, hA⟩ := of2_all s hs
  obtain ⟨zB, gB, kB, hB⟩ := of2_all t ht
  refine ⟨frQ zA zB, ?_, ?_, fun w => frac2_raw s t zA zB gA kA gB kB hA hB w⟩
  all_goals unfold frQ
  · by_cases h : zB = 0
    · rw [if_pos h]
      exact Bd.of rfl (by decide) gA (Int.lt_of_lt_of_le pw_one1 (pw_mono (by decide)))
    · rw [if_neg h]
      by_cases h2 : 0 < zB
      · exact Bd.of rfl h2 gA gB
      · rw [← Rat.neg_divInt_neg]
        exact Bd.of rfl (by omega) (neg_pw gA) (neg_pw gB)
  · by_cases h : zB = 0
    · rw [if_pos h]
      exact Bq.of rfl (by decide) kA (Int.lt_of_lt_of_le T4.pw_one1 (T4.pw_mono (by decide)))
    · rw [if_neg h]
      by_cases h2 : 0 < zB
      · exact Bq.of rfl h2 kA kB
      · rw [← Rat.neg_divInt_neg]
        exact Bq.of rfl (by omega) (T4.neg_lt kA) (T4.neg_lt kB)

set_option maxRecDepth 100000 in
set_option maxHeartbeats 1600000 in
theorem same2_any (v1 v2 : Value) (q : Rat) (w : World) (hT : Tab w) (b1 : Bd q 300) (b2 : Bq q 700) (i0 : IsRt w v1 q) (i1 : IsQt w v2 q) :
    Calls Tryz.prog 11 #[v1, v2] w fun e w' => ∃ r, e = .returned r ∧ Below w.heap.size w w' ∧ r = .bool true := by
  refine calls_act (fn := Tryz.f11) (by kernel_rfl) rfl (N := 10) (by kernel_rfl) (by simp) ?_
  intro a0 hs0 hd0 hx0
  have t0 : a0.tmps[0]? = some v1 := hx0 0 _ rfl
  have t1 : a0.tmps[1]? = some v2 := hx0 1 _ rfl
  clear hx0
  have hB0 : Below w.heap.size w w := Below.refl _ _
  refine wp_seq ?_
  refine fxN (fun _ => False) Zr (l := regionOf Tryz.f11 0) false (by kernel_rfl) 3 10 w.heap.size [0, 1]
    [XoR _ w.heap.size v1 (Xrt _ _ q), XoQ _ w.heap.size v2 (Xqt _ q), Xval _ _ (.bool false)]
    (Sx.and (Sx.at (Xrt _ _ q) v1) (Sx.and (Sx.at (Xqt _ q) v2) (Sx.any _))) [(2, some 0), (3, some 1)] [] (by kernel_rfl) (by kernel_rfl) (by kernel_rfl) hs0 (And.intro i0 (And.intro i1 trivial)) hB0.size List.nodup_nil fan (fac (npR rfl) (fac (npQ rfl) fan)) ?_ ?_ ?_
  · intro i hi hns a w' hb hiv hk hp hold
    obtain ⟨i0, i1, _⟩ := hiv
    have k0 := (hk 0 (by decide)).trans t0
    have k1 := (hk 1 (by decide)).trans t1
    match i, hi with
    | 0, _ => exact sB_R hb.size k0 i0 i0 rfl
    | 1, _ => exact sB_Q hb.size k1 i1 i1 rfl
    | 2, _ => exact s_cassign rfl (gf rfl)
    | _ + 3, h => exact absurd h (by omega)
  · exact fan
  intro a1 w1 hb1 hd1 hs1 hk1 hiv1 hsp1 hst1 hds1
  have hB1 := hB0.trans hb1
  replace hd1 := hd1.trans hd0
  obtain ⟨i0_1, i1_1, _⟩ := hiv1
  obtain ⟨r2_1, t2_1, b2_1, n2_1, I2_1⟩ := toR (k := 2) (hsp1 0 (by decide) fan) hB0.size (by omega)
  obtain ⟨r3_1, t3_1, b3_1, n3_1, I3_1⟩ := toQ (k := 3) (hsp1 1 (by decide) fan) hB0.size (by omega)
  obtain ⟨v4_1, t4_1, I4_1⟩ : ∃ v, a1.tmps[4]? = some v ∧ v = (.bool false) := tv_get (k := 4) (hsp1 2 (by decide) fan) (by omega)
  clear hb1 hk1 hsp1 hst1 hds1
  refine wp_seq ?_
  refine fx3n Zr (l := regionOf Tryz.f11 1) true (by kernel_rfl) 6 10 w.heap.size [2, 3] [Xrt _ _ q, Xval _ _ (.string (rstr q.num (lowB q.den))), Xqt _ q, Xval _ _ (.string (rstr q.num (lowB q.den))), Xval _ _ (.bool true), Xval _ _ (.bool true)] (Sx.and (XhR r2_1 (fun h => h) v1 (Xrt _ _ q)) (Sx.and (XhQ r3_1 (fun h => h) v2 (Xqt _ q)) (Sx.any _))) (by kernel_rfl) (by kernel_rfl) (by kernel_rfl) hs1 (And.intro (And.intro n2_1 I2_1) (And.intro (And.intro n3_1 I3_1) trivial)) hB1.size ?_ ?_
  · intro i hi a w' hb hiv hk hp
    obtain ⟨⟨n2, i2⟩, ⟨n3, i3⟩, _⟩ := hiv
    have k2 := (hk 2 (by decide)).trans t2_1
    have k3 := (hk 3 (by decide)).trans t3_1
    match i, hi with
    | 0, _ => exact s_load k2 (load_R n2) i2 gt
    | 1, _ => exact s_call1 enter_rstr (rstr_rt _ q w' (hT.below (hB1.trans hb)) (hp 0 rfl) (b1.mono (by decide))) gt
    | 2, _ => exact s_load k3 (load_Q n3) i3 gt
    | 3, _ => exact s_call1 enter_qtext (qtext_qt _ q w' (hp 2 rfl) (b2.mono (by decide))) gt
    | 4, _ => exact s_eqS (hp 1 rfl) (hp 3 rfl) (congrArg Value.bool (show ((rstr q.num (lowB q.den)).toList == (rstr q.num (lowB q.den)).toList) = true from by simp)) gt
    | 5, _ => exact s_assign (hp 4 rfl) gt
    | _ + 6, h => exact absurd h (by omega)
  intro a2 w2 hb2 hd2 hs2 hk2 hiv2 hsp2
  have hB2 := hB1.trans hb2
  replace hd2 := hd2.trans hd1
  obtain ⟨⟨n2_2, i2_2⟩, ⟨n3_2, i3_2⟩, _⟩ := hiv2
  obtain ⟨v4_2, t4_2, I4_2⟩ : ∃ v, a2.tmps[4]? = some v ∧ v = (.bool true) := tv_get (k := 4) (hsp2 5 (by decide)) (by omega)
  clear hb2 hk2 hsp2
  refine wp_ret ?_
  repeat first | refine then_ret ?_ | refine inBlock_ret ?_
  refine bodyPost_ret (res_t rfl t4_2) hd2 ⟨_, rfl, hB2, ?_⟩
  exact I4_2

end Go.Proofs.YtlcfldkmojpkpaaGreatDoor

namespace Go.Proofs.YtlcfldkmojpkpaaGreatDoor
open Go Go.RowKit

theorem pw_one5 : (((5 : Int).natAbs : Nat) : Int) < pw 1 := by decide
theorem pw_one6 : (((6 : Int).natAbs : Nat) : Int) < pw 1 := by decide
theorem pw_one2 : (((2 : Int).natAbs : Nat) : Int) < pw 1 := by decide
theorem pw_onem4 : (((-4 : Int).natAbs : Nat) : Int) < pw 1 := by decide
theorem bd_half : Bd (Rat.divInt 1 2) 1 := Bd.of rfl (by decide) pw_one1 pw_one2
theorem bd_six : Bd (Rat.divInt 6 (-4)) 1 := by
  rw [← Rat.neg_divInt_neg]
  exact Bd.of rfl (by decide) (neg_pw pw_one6) (neg_pw pw_onem4)
theorem six_eq : Rat.divInt 6 (-4) = Rat.divInt (-3) 2 := (Rat.divInt_eq_divInt_iff (by decide) (by decide)).2 (by decide)
theorem six_rat : (Rat.divInt 6 (-4)).num = -3 ∧ ((Rat.divInt 6 (-4)).den : Int) = 2 := by
  exact rat_low (P := -3) (D := 2) six_eq (by decide) (by decide) (by decide) (by decide)
theorem dd1 {n : Nat} (h : n < 10) : Lib.decDigits n = [48 + n.toUInt8] := by
  rw [Lib.decDigits]
  simp [h]
theorem txt_six : rstr (Rat.divInt 6 (-4)).num (lowB (Rat.divInt 6 (-4)).den) = ⟨#[45, 51, 47, 50]⟩ := by
  rw [six_rat.1, six_rat.2]
  simp [rstr, lowB, Lib.itoa, dd1]
  rfl
theorem txt_floor : Lib.itoa ((Rat.divInt 6 (-4)).floor) = [45, 50] := by
  rw [Rat.floor_def, six_rat.1, six_rat.2]
  simp [Lib.itoa, dd1]
theorem txt_zero : rstr 0 0 = ⟨#[48]⟩ := by simp [rstr, Lib.itoa, dd1]
theorem eqS {m n : ByteArray} (h : m = n) : (m.toList == n.toList) = true := by rw [h]; simp
theorem neS {m n : ByteArray} (h : m = n) : (!(m.toList == n.toList)) = false := by rw [h]; simp
theorem isw_rt (v : Value) (q : Rat) (w : World) (h : IsRt w v q) : Calls Tryz.prog 24 #[v] w fun e w' => ∃ r, e = .returned r ∧ Below w.heap.size w w' ∧ r = .bool (decide (q.den = 1)) := by
  refine Calls.mono (isw_any v _ _ w h) ?_
  rintro e w' ⟨r, rfl, hb, rfl⟩
  refine ⟨_, rfl, hb, ?_⟩
  congr 1
  have := q.den_pos
  unfold lowB
  by_cases h1 : q.den = 1
  · simp [h1]
  · have h2 : ¬ ((q.den : Int) = 1) := by omega
    have h3 : ¬ ((q.den : Int) = 0) := by omega
    simp [h1, h2]
    omega
theorem rbel_rt (v : Value) (q : Rat) (w : World) (h : IsRt w v q) (hb : Bd q 300) : Calls Tryz.prog 25 #[v] w fun e w' => ∃ r, e = .returned r ∧ Below w.heap.size w w' ∧ IsI w' r (q.den : Int) := by
  refine Calls.mono (below_any v _ _ (Int.lt_of_lt_of_le (lowB_lt hb.d) (pw_mono (by decide))) w h) ?_
  rintro e w' ⟨r, rfl, hb, h⟩
  refine ⟨_, rfl, hb, ?_⟩
  rw [bel_low (by have := q.den_pos; omega)] at h
  exact h
/-- A slice of texts. -/
def IsSs (w : World) (v : Value) (ss : List ByteArray) : Prop := ∃ b, v = .slice (some ⟨b, 0, none⟩) ss.length ss.length ∧ b < w.heap.size ∧ ∀ j (hj : j < ss.length), w.cell? ⟨b, 0 + j, none⟩ = some (.string (ss[j]'hj))
def Xss (Z : World → Nat → Prop) (ss : List ByteArray) : Sx (kd (fun _ => False) Z) := ⟨fun w v => IsSs w v ss, fun _ _ _ ⟨b, h1, h2, h3⟩ hb => ⟨b, h1, Nat.lt_of_lt_of_le h2 hb.size, fun j hj => (hb.cell (p := ⟨b, 0 + j, none⟩) h2).trans (h3 j hj)⟩, fun _ _ _ _ _ _ k _ _ _ => k.1.elim⟩
theorem light2_yes (v : Value) (ss : List ByteArray) (w : World) (h : IsSs w v ss) (hl : ss.length ≤ 10) (hs : ∀ s ∈ ss, s.size ≤ 120) : Calls Tryz.prog 7 #[v] w fun e w' => ∃ r, e = .returned r ∧ Below w.heap.size w w' ∧ r = .bool true := by
  obtain ⟨b, rfl, h2, h3⟩ := h
  refine Calls.mono (light2_any b 0 _ _ ss w rfl hl (fun s h => by have := hs s h; omega) h3) ?_
  rintro e w' ⟨h | ⟨⟨s, h1, h2⟩, _⟩, rfl⟩
  · exact ⟨_, h.2, Below.refl _ _, rfl⟩
  · have := hs s h1; omega
theorem light2_no (v : Value) (ss : List ByteArray) (w : World) (h : IsSs w v ss) (hl : ss.length ≤ 10) (hz : ∀ s ∈ ss, s.size ≤ 9223372036854775807) (hs : ¬ ∀ s ∈ ss, s.size ≤ 120) : Calls Tryz.prog 7 #[v] w fun e w' => ∃ r, e = .returned r ∧ Below w.heap.size w w' ∧ r = .bool false := by
  obtain ⟨b, rfl, h2, h3⟩ := h
  refine Calls.mono (light2_any b 0 _ _ ss w rfl hl hz h3) ?_
  rintro e w' ⟨h | h, rfl⟩
  · exact absurd h.1 hs
  · exact ⟨_, h.2, Below.refl _ _, rfl⟩
section
variable {Z : World → Nat → Prop} {Q : Exit → Act → World → Prop} {a : Act} {w : World} {ty : TypeId} {pos : String} {af : Array Edge} {dst : Option Tmp} {Y : Prop} {ops : Array Oper} {G : World → Value → Prop}
set_option maxRecDepth 100000 in
theorem s_ss4 {t0 t1 t2 t3 : Nat} {x0 x1 x2 x3 : ByteArray} (p0 : a.tmps.getD t0 undef = .string x0) (p1 : a.tmps.getD t1 undef = .string x1) (p2 : a.tmps.getD t2 undef = .string x2) (p3 : a.tmps.getD t3 undef = .string x3) (hg : ∀ w' v, G w' v) :
    Arm Q ops ⟨dst, .buildSlice 56 4 #[(0, .tmp t0), (1, .tmp t1), (2, .tmp t2), (3, .tmp t3)], ty, pos, af, none⟩ a w (Xss Z [x0, x1, x2, x3]) G Y := by
  have e0 : a.eval (.tmp t0) = .string x0 := p0
  have e1 : a.eval (.tmp t1) = .string x1 := p1
  have e2 : a.eval (.tmp t2) = .string x2 := p2
  have e3 : a.eval (.tmp t3) = .string x3 := p3
  refine arm (wanted_none rfl) ?_
  unfold Oper.wp
  simp only [execOp, List.map_toArray, List.map_cons, List.map_nil, e0, e1, e2, e3]
  go_simp
  refine ⟨_, rfl, (Below.refl _ w).alloc (Nat.le_refl _) _, ⟨_, rfl, by simp, fun j hj => ?_⟩, hg _ _⟩
  rw [World.cell?_alloc_at _ _ _ _ rfl]
  match j, hj with
  | 0, _ => rfl
  | 1, _ => rfl
  | 2, _ => rfl
  | 3, _ => rfl
  | _ + 4, h => exact absurd h (by simp)
set_option maxRecDepth 100000 in
theorem s_ss6 {t0 t1 t2 t3 t4 t5 : Nat} {x0 x1 x2 x3 x4 x5 : ByteArray} (p0 : a.tmps.getD t0 undef = .string x0) (p1 : a.tmps.getD t1 undef = .string x1) (p2 : a.tmps.getD t2 undef = .string x2) (p3 : a.tmps.getD t3 undef = .string x3) (p4 : a.tmps.getD t4 undef = .string x4) (p5 : a.tmps.getD t5 undef = .string x5) (hg : ∀ w' v, G w' v) :
    Arm Q ops ⟨dst, .buildSlice 56 6 #[(0, .tmp t0), (1, .tmp t1), (2, .tmp t2), (3, .tmp t3), (4, .tmp t4), (5, .tmp t5)], ty, pos, af, none⟩ a w (Xss Z [x0, x1, x2, x3, x4, x5]) G Y := by
  have e0 : a.eval (.tmp t0) = .string x0 := p0
  have e1 : a.eval (.tmp t1) = .string x1 := p1
  have e2 : a.eval (.tmp t2) = .string x2 := p2
  have e3 : a.eval (.tmp t3) = .string x3 := p3
  have e4 : a.eval (.tmp t4) = .string x4 := p4
  have e5 : a.eval (.tmp t5) = .string x5 := p5
  refine arm (wanted_none rfl) ?_
  unfold Oper.wp
  simp only [execOp, List.map_toArray, List.map_cons, List.map_nil, e0, e1, e2, e3, e4, e5]
  go_simp
  refine ⟨_, rfl, (Below.refl _ w).alloc (Nat.le_refl _) _, ⟨_, rfl, by simp, fun j hj => ?_⟩, hg _ _⟩
  rw [World.cell?_alloc_at _ _ _ _ rfl]
  match j, hj with
  | 0, _ => rfl
  | 1, _ => rfl
  | 2, _ => rfl
  | 3, _ => rfl
  | 4, _ => rfl
  | 5, _ => rfl
  | _ + 6, h => exact absurd h (by simp)
end

set_option maxRecDepth 100000 in
set_option maxHeartbeats 1600000 in
theorem known2_yes  (w : World) (hT : Tab w)  :
    Calls Tryz.prog 6 #[] w fun e w' => ∃ r, e = .returned r ∧ Below w.heap.size w w' ∧ r = .bool true := by
  refine calls_act (fn := Tryz.f6) (by kernel_rfl) rfl (N := 44) (by kernel_rfl) (by simp) ?_
  intro a0 hs0 hd0 hx0
  clear hx0
  have hB0 : Below w.heap.size w w := Below.refl _ _
  refine wp_seq ?_
  refine fx3n (fun _ _ => True) (l := regionOf Tryz.f6 0) false (by kernel_rfl) 1 44 w.heap.size [] [Xval _ _ (.bool false)] (Sx.any _) (by kernel_rfl) (by kernel_rfl) (by kernel_rfl) hs0 trivial hB0.size ?_ ?_
  · intro i hi a w' hb hiv hk hp
    obtain ⟨_⟩ := hiv
    match i, hi with
    | 0, _ => exact s_cassign rfl gt
    | _ + 1, h => exact absurd h (by omega)
  intro a1 w1 hb1 hd1 hs1 hk1 hiv1 hsp1
  have hB1 := hB0.trans hb1
  replace hd1 := hd1.trans hd0
  obtain ⟨v0_1, t0_1, I0_1⟩ : ∃ v, a1.tmps[0]? = some v ∧ v = (.bool false) := tv_get (k := 0) (hsp1 0 (by decide)) (by omega)
  clear hb1 hk1 hsp1 hiv1
  refine wp_seq ?_
  refine fxN (fun r => w1.heap.size ≤ r) (fun _ _ => True) (l := regionOf Tryz.f6 1) false (by kernel_rfl) 9 44 w.heap.size [0]
    [Xnum _ _ 6, Xnum _ _ (-4), Xtup (Xrt _ _ (Rat.divInt 6 (-4))) (Xval _ _ (.bool true)), Xtup (Xrt _ _ (Rat.divInt 6 (-4))) (Xval _ _ (.bool true)), Xrt _ _ (Rat.divInt 6 (-4)), Xval _ _ (.bool true), Sx.box _ w1.heap.size 28, Sx.any _, Xval _ _ (.bool true)]
    (Sx.any _) [(1, some 6)] [stNR 7 1 (Xrt _ _ (Rat.divInt 6 (-4)))] (by kernel_rfl) (by kernel_rfl) (by kernel_rfl) hs1 trivial hB1.size (show ([7] : List Nat).Nodup by decide) (fac nst fan) (fac (nby rfl) fan) ?_ ?_ ?_
  · intro i hi hns a w' hb hiv hk hp hold
    obtain ⟨_⟩ := hiv
    match i, hi with
    | 0, _ => exact s_callC enter_Of (of_ct 6 w' (by decide) (by decide)) (gf rfl)
    | 1, _ => exact s_callC enter_Of (of_ct (-4) w' (by decide) (by decide)) (gf rfl)
    | 2, _ => exact s_call2 enter_rof (rof_any _ _ 6 (-4) w' (hp 0 rfl) (hp 1 rfl) (le1n (pw_one6) (by decide)) (le1n (pw_onem4) (by decide))) (gf rfl)
    | 3, _ => exact s_move (hp 2 rfl) (gf rfl)
    | 4, _ => exact s_ext0 (hp 3 rfl) (gf rfl)
    | 5, _ => exact s_ext1 (hp 3 rfl) (gf rfl)
    | 6, _ => exact sA_R hb.size hb.size (fac (zR w') fan)
    | 7, _ => exact absurd rfl (hns _ (.head _))
    | 8, _ => exact s_assign (hp 5 rfl) (gf rfl)
    | _ + 9, h => exact absurd h (by omega)
  · refine fac ?_ (fan)
    · intro a w' hb hiv hk hp ho hf
      exact sN_R (hp 6 rfl) (hp 4 rfl) (hp 4 rfl) hB1.size (hf 6 (.head _)) (fun _ _ => trivial)
  intro a2 w2 hb2 hd2 hs2 hk2 hiv2 hsp2 hst2 hds2
  have hB2 := hB1.trans hb2
  replace hd2 := hd2.trans hd1
  have t0_2 := (hk2 0 (by decide)).trans t0_1
  obtain ⟨r1_2, v1_2, t1_2, b1_2, n1_2, I1_2⟩ := tnR (k := 1) (hst2 _ (.head _)) (hsp2 6 (by decide) (fac (nq rfl) fan)) hB1.size (by omega)
  obtain ⟨v2_2, t2_2, I2_2⟩ : ∃ v, a2.tmps[2]? = some v ∧ v = (.bool true) := tv_get (k := 2) (hsp2 8 (by decide) (fac (nq rfl) fan)) (by omega)
  clear hb2 hk2 hsp2 hst2 hds2 hiv2
  refine wp_seq ?_
  refine fxN (fun r => w2.heap.size ≤ r) (fun _ _ => True) (l := regionOf Tryz.f6 2) false (by kernel_rfl) 9 44 w.heap.size [0, 1, 2]
    [Xnum _ _ 6, Xnum _ _ 0, Xtup (Xrt _ _ (Rat.divInt 6 0)) (Xval _ _ (.bool false)), Xtup (Xrt _ _ (Rat.divInt 6 0)) (Xval _ _ (.bool false)), Xrt _ _ (Rat.divInt 6 0), Xval _ _ (.bool false), Sx.box _ w2.heap.size 28, Sx.any _, Xval _ _ (.bool false)]
    (Sx.and (XhR r1_2 (Nat.not_le_of_lt n1_2.lt) v1_2 (Xrt _ _ (Rat.divInt 6 (-4)))) (Sx.any _)) [(3, some 6)] [stNR 7 3 (Xrt _ _ (Rat.divInt 6 0))] (by kernel_rfl) (by kernel_rfl) (by kernel_rfl) hs2 (And.intro (And.intro n1_2 I1_2) trivial) hB2.size (show ([7] : List Nat).Nodup by decide) (fac nst fan) (fac (nby rfl) fan) ?_ ?_ ?_
  · intro i hi hns a w' hb hiv hk hp hold
    obtain ⟨⟨n1, i1⟩, _⟩ := hiv
    match i, hi with
    | 0, _ => exact s_callC enter_Of (of_ct 6 w' (by decide) (by decide)) (gf rfl)
    | 1, _ => exact s_callC enter_Of (of_ct 0 w' (by decide) (by decide)) (gf rfl)
    | 2, _ => exact s_call2 enter_rof (rof_any _ _ 6 0 w' (hp 0 rfl) (hp 1 rfl) (le1n (pw_one6) (by decide)) (le1n (pw_one0) (by decide))) (gf rfl)
    | 3, _ => exact s_move (hp 2 rfl) (gf rfl)
    | 4, _ => exact s_ext0 (hp 3 rfl) (gf rfl)
    | 5, _ => exact s_ext1 (hp 3 rfl) (gf rfl)
    | 6, _ => exact sA_R hb.size hb.size (fac (zR w') fan)
    | 7, _ => exact absurd rfl (hns _ (.head _))
    | 8, _ => exact s_assign (hp 5 rfl) (gf rfl)
    | _ + 9, h => exact absurd h (by omega)
  · refine fac ?_ (fan)
    · intro a w' hb hiv hk hp ho hf
      exact sN_R (hp 6 rfl) (hp 4 rfl) (hp 4 rfl) hB2.size (hf 6 (.head _)) (fun _ _ => trivial)
  intro a3 w3 hb3 hd3 hs3 hk3 hiv3 hsp3 hst3 hds3
  have hB3 := hB2.trans hb3
  replace hd3 := hd3.trans hd2
  obtain ⟨⟨n1_3, i1_3⟩, _⟩ := hiv3
  have t0_3 := (hk3 0 (by decide)).trans t0_2
  have t1_3 := (hk3 1 (by decide)).trans t1_2
  have t2_3 := (hk3 2 (by decide)).trans t2_2
  obtain ⟨v4_3, t4_3, I4_3⟩ : ∃ v, a3.tmps[4]? = some v ∧ v = (.bool false) := tv_get (k := 4) (hsp3 8 (by decide) (fac (nq rfl) fan)) (by omega)
  clear hb3 hk3 hsp3 hst3 hds3
  refine wp_seq ?_
  refine fxN (fun _ => False) (fun _ _ => True) (l := regionOf Tryz.f6 3) false (by kernel_rfl) 1 44 w.heap.size [0, 1, 2, 4]
    [XoR _ w3.heap.size zaR (Xrat _ _ 0 0)]
    (Sx.and (XhR r1_2 (fun h => h) v1_2 (Xrt _ _ (Rat.divInt 6 (-4)))) (Sx.any _)) [(5, some 0)] [] (by kernel_rfl) (by kernel_rfl) (by kernel_rfl) hs3 (And.intro (And.intro n1_3 i1_3) trivial) hB3.size List.nodup_nil fan (fac (npR rfl) fan) ?_ ?_ ?_
  · intro i hi hns a w' hb hiv hk hp hold
    obtain ⟨⟨n1, i1⟩, _⟩ := hiv
    match i, hi with
    | 0, _ => exact sO_R hb.size isR_zero rfl
    | _ + 1, h => exact absurd h (by omega)
  · exact fan
  intro a4 w4 hb4 hd4 hs4 hk4 hiv4 hsp4 hst4 hds4
  have hB4 := hB3.trans hb4
  replace hd4 := hd4.trans hd3
  obtain ⟨⟨n1_4, i1_4⟩, _⟩ := hiv4
  have t0_4 := (hk4 0 (by decide)).trans t0_3
  have t1_4 := (hk4 1 (by decide)).trans t1_3
  have t2_4 := (hk4 2 (by decide)).trans t2_3
  have t4_4 := (hk4 4 (by decide)).trans t4_3
  obtain ⟨r5_4, t5_4, b5_4, n5_4, I5_4⟩ := toR (k := 5) (hsp4 0 (by decide) fan) hB3.size (by omega)
  clear hb4 hk4 hsp4 hst4 hds4
  refine wp_seq ?_
  refine fx3n (fun _ _ => True) (l := regionOf Tryz.f6 4) false (by kernel_rfl) 27 44 w.heap.size [1, 2, 4, 5] [Xval _ _ (.bool true), Xval _ _ (.bool true), Xval _ _ (.bool false), Xval _ _ (.bool true), Xval _ _ (.bool true), Xval _ _ (.bool true), Xrt _ _ (Rat.divInt 6 (-4)), Xval _ _ (.string (rstr (Rat.divInt 6 (-4)).num (lowB (Rat.divInt 6 (-4)).den))), Xval _ _ (.bool true), Xval _ _ (.bool true), Xval _ _ (.bool true), Xrt _ _ (Rat.divInt 6 (-4)), Xnum _ _ ((Rat.divInt 6 (-4)).floor), Xval _ _ (.string ⟨(Lib.itoa ((Rat.divInt 6 (-4)).floor)).toArray⟩), Xval _ _ (.bool true), Xval _ _ (.bool true), Xval _ _ (.bool true), Xrat _ _ 0 0, Xval _ _ (.string (rstr 0 0)), Xval _ _ (.bool true), Xval _ _ (.bool true), Xval _ _ (.bool true), Xnum _ _ 5, Xrt _ _ ((5 : Int) : Rat), Xval _ _ (.bool true), Xval _ _ (.bool true), Xval _ _ (.bool true)] (Sx.and (XhR r1_2 (fun h => h) v1_2 (Xrt _ _ (Rat.divInt 6 (-4)))) (Sx.and (XhR r5_4 (fun h => h) zaR (Xrat _ _ 0 0)) (Sx.any _))) (by kernel_rfl) (by kernel_rfl) (by kernel_rfl) hs4 (And.intro (And.intro n1_4 i1_4) (And.intro (And.intro n5_4 I5_4) trivial)) hB4.size ?_ ?_
  · intro i hi a w' hb hiv hk hp
    obtain ⟨⟨n1, i1⟩, ⟨n5, i5⟩, _⟩ := hiv
    have k1 := (hk 1 (by decide)).trans t1_4
    have k2 := (hk 2 (by decide)).trans t2_4
    have k4 := (hk 4 (by decide)).trans t4_4
    have k5 := (hk 5 (by decide)).trans t5_4
    match i, hi with
    | 0, _ => exact s_kmove k2 I2_2 gt
    | 1, _ => exact s_move (hp 0 rfl) gt
    | 2, _ => exact s_kmove k4 I4_3 gt (wanted_slot rfl (hp 1 rfl) rfl)
    | 3, _ => exact s_not (hp 2 rfl) rfl gt (wanted_slot rfl (hp 1 rfl) rfl)
    | 4, _ => exact s_pickT (hp 1 rfl) (hp 3 rfl) gt
    | 5, _ => exact s_move (hp 4 rfl) gt
    | 6, _ => exact s_load k1 (load_R n1) i1 gt (wanted_slot rfl (hp 5 rfl) rfl)
    | 7, _ => exact s_call1 enter_rstr (rstr_rt _ (Rat.divInt 6 (-4)) w' (hT.below (hB4.trans hb)) (hp 6 rfl) (bd_six.mono (by decide))) gt (wanted_slot rfl (hp 5 rfl) rfl)
    | 8, _ => exact s_eqS (hp 7 rfl) rfl (congrArg Value.bool (show ((rstr (Rat.divInt 6 (-4)).num (lowB (Rat.divInt 6 (-4)).den)).toList == (⟨#[45, 51, 47, 50]⟩ : ByteArray).toList) = true from eqS txt_six)) gt (wanted_slot rfl (hp 5 rfl) rfl)
    | 9, _ => exact s_pickT (hp 5 rfl) (hp 8 rfl) gt
    | 10, _ => exact s_move (hp 9 rfl) gt
    | 11, _ => exact s_load k1 (load_R n1) i1 gt (wanted_slot rfl (hp 10 rfl) rfl)
    | 12, _ => exact s_call1 enter_rfloor (rfloor_any _ (Rat.divInt 6 (-4)) w' (hp 11 rfl) (bd_six.mono (by decide))) gt (wanted_slot rfl (hp 10 rfl) rfl)
    | 13, _ => exact s_call1 enter_Str (str_ct _ ((Rat.divInt 6 (-4)).floor) w' (hT.below (hB4.trans hb)) (hp 12 rfl) (le4 (Bd.floor bd_six) (by decide))) gt (wanted_slot rfl (hp 10 rfl) rfl)
    | 14, _ => exact s_eqS (hp 13 rfl) rfl (congrArg Value.bool (show ((⟨(Lib.itoa ((Rat.divInt 6 (-4)).floor)).toArray⟩ : ByteArray).toList == (⟨#[45, 50]⟩ : ByteArray).toList) = true from eqS (by rw [txt_floor]))) gt (wanted_slot rfl (hp 10 rfl) rfl)
    | 15, _ => exact s_pickT (hp 10 rfl) (hp 14 rfl) gt
    | 16, _ => exact s_move (hp 15 rfl) gt
    | 17, _ => exact s_load k5 (load_R n5) i5 gt (wanted_slot rfl (hp 16 rfl) rfl)
    | 18, _ => exact s_call1 enter_rstr (rstr_any _ 0 0 (Int.lt_of_lt_of_le pw_one0 (pw_mono (by decide))) (Int.lt_of_lt_of_le pw_one0 (pw_mono (by decide))) w' (hT.below (hB4.trans hb)) (hp 17 rfl)) gt (wanted_slot rfl (hp 16 rfl) rfl)
    | 19, _ => exact s_eqS (hp 18 rfl) rfl (congrArg Value.bool (show ((rstr 0 0).toList == (⟨#[48]⟩ : ByteArray).toList) = true from eqS txt_zero)) gt (wanted_slot rfl (hp 16 rfl) rfl)
    | 20, _ => exact s_pickT (hp 16 rfl) (hp 19 rfl) gt
    | 21, _ => exact s_move (hp 20 rfl) gt
    | 22, _ => exact s_callC enter_Of (of_ct 5 w' (by decide) (by decide)) gt (wanted_slot rfl (hp 21 rfl) rfl)
    | 23, _ => exact s_call1 enter_whole (whole_rt _ 5 w' (hp 22 rfl) (le3n (pw_one5) (by decide))) gt (wanted_slot rfl (hp 21 rfl) rfl)
    | 24, _ => exact s_call1 enter_isw (isw_rt _ ((5 : Int) : Rat) w' (hp 23 rfl)) gt (wanted_slot rfl (hp 21 rfl) rfl)
    | 25, _ => exact s_pickT (hp 21 rfl) (hp 24 rfl) gt
    | 26, _ => exact s_assign (hp 25 rfl) gt
    | _ + 27, h => exact absurd h (by omega)
  intro a5 w5 hb5 hd5 hs5 hk5 hiv5 hsp5
  have hB5 := hB4.trans hb5
  replace hd5 := hd5.trans hd4
  obtain ⟨⟨n1_5, i1_5⟩, ⟨n5_5, i5_5⟩, _⟩ := hiv5
  obtain ⟨v0_5, t0_5, I0_5⟩ : ∃ v, a5.tmps[0]? = some v ∧ v = (.bool true) := tv_get (k := 0) (hsp5 26 (by decide)) (by omega)
  clear hb5 hk5 hsp5
  refine wp_ret ?_
  repeat first | refine then_ret ?_ | refine inBlock_ret ?_
  refine bodyPost_ret (res_t rfl t0_5) hd5 ⟨_, rfl, hB5, ?_⟩
  exact I0_5

end Go.Proofs.YtlcfldkmojpkpaaGreatDoor

/- RatReckons: its walk. -/
namespace Go.Proofs.YtlcfldkmojpkpaaGreatDoor
open Go Go.RowKit

theorem dd_ne (n : Nat) : 1 ≤ (Lib.decDigits n).length := by
  rw [Lib.decDigits]
  split <;> simp
theorem dd_two {n : Nat} (h : 10 ≤ n) : 2 ≤ (Lib.decDigits n).length := by
  rw [Lib.decDigits]
  rw [dif_neg (by omega)]
  have := dd_ne (n / 10)
  simp
  omega
theorem itoa_one {n : Nat} (h : Lib.itoa (n : Int) = [49]) : n = 1 := by
  unfold Lib.itoa at h
  rw [if_neg (by omega)] at h
  simp only [Int.toNat_natCast] at h
  by_cases h2 : n < 10
  · rw [dd1 h2] at h
    have : ∀ n : Nat, n < 10 → [48 + n.toUInt8] = [49] → n = 1 := by decide
    exact this n h2 h
  · have := dd_two (n := n) (by omega)
    rw [h] at this
    simp at this
theorem isw_one (q : Rat) : (decide (q.den = 1) != ((⟨(Lib.itoa (q.den : Int)).toArray⟩ : ByteArray).toList == (⟨#[49]⟩ : ByteArray).toList)) = false := by
  rw [ByteArray.toList_eq, ByteArray.toList_eq]
  by_cases h : q.den = 1
  · simp [h, Lib.itoa, dd1]
  · have h2 : ¬ Lib.itoa (q.den : Int) = [49] := fun e => h (itoa_one e)
    simp [h, h2]
theorem mul_one_txt {q : Rat} (h : ¬ q.num = 0) : rstr (q * q⁻¹).num (lowB (q * q⁻¹).den) = ⟨#[49]⟩ := by
  rw [Rat.mul_inv_cancel q (fun e => h (by rw [e]; rfl))]
  simp [rstr, lowB, Lib.itoa, dd1]
theorem inv_zero_num {q : Rat} (h : q.num = 0) : (sgn (q⁻¹).num == 0) = true := by
  rw [Rat.num_eq_zero.1 h, Rat.inv_zero]
  rfl
theorem zero_num {q : Rat} (h : q.num = 0) : (sgn q.num == 0) = true := by
  rw [h]
  rfl

set_option maxRecDepth 100000 in
set_option maxHeartbeats 1600000 in
theorem ratreck_no (s t u v : ByteArray) (hz : ∀ z ∈ [s, t, u, v], z.size ≤ 9223372036854775807) (hl : ¬ ∀ z ∈ [s, t, u, v], z.size ≤ 120) (w : World) (hT : Tab w)  :
    Calls Tryz.prog 3 #[(.string s), (.string t), (.string u), (.string v)] w fun e w' => ∃ r, e = .returned r ∧ Below w.heap.size w w' ∧ r = .bool true := by
  refine calls_act (fn := Tryz.f3) (by kernel_rfl) rfl (N := 131) (by kernel_rfl) (by simp) ?_
  intro a0 hs0 hd0 hx0
  have t0 : a0.tmps[0]? = some (.string s) := hx0 0 _ rfl
  have t1 : a0.tmps[1]? = some (.string t) := hx0 1 _ rfl
  have t2 : a0.tmps[2]? = some (.string u) := hx0 2 _ rfl
  have t3 : a0.tmps[3]? = some (.string v) := hx0 3 _ rfl
  clear hx0
  have hB0 : Below w.heap.size w w := Below.refl _ _
  refine wp_seq ?_
  refine fx3n Zr (l := regionOf Tryz.f3 0) false (by kernel_rfl) 1 131 w.heap.size [0, 1, 2, 3] [Xval _ _ (.bool false)] (Sx.any _) (by kernel_rfl) (by kernel_rfl) (by kernel_rfl) hs0 trivial hB0.size ?_ ?_
  · intro i hi a w' hb hiv hk hp
    obtain ⟨_⟩ := hiv
    match i, hi with
    | 0, _ => exact s_cassign rfl gt
    | _ + 1, h => exact absurd h (by omega)
  intro a1 w1 hb1 hd1 hs1 hk1 hiv1 hsp1
  have hB1 := hB0.trans hb1
  replace hd1 := hd1.trans hd0
  have t0_1 := (hk1 0 (by decide)).trans t0
  have t1_1 := (hk1 1 (by decide)).trans t1
  have t2_1 := (hk1 2 (by decide)).trans t2
  have t3_1 := (hk1 3 (by decide)).trans t3
  obtain ⟨v8_1, t8_1, I8_1⟩ : ∃ v, a1.tmps[8]? = some v ∧ v = (.bool false) := tv_get (k := 8) (hsp1 0 (by decide)) (by omega)
  clear hb1 hk1 hsp1 hiv1
  refine wp_seq ?_
  refine wp_seq ?_
  refine fx3n Zr (l := regionOf Tryz.f3 1) false (by kernel_rfl) 2 131 w.heap.size [0, 1, 2, 3, 8] [Xval _ _ (.bool true), Xval _ _ (.bool false)] (Sx.any _) (by kernel_rfl) (by kernel_rfl) (by kernel_rfl) hs1 trivial hB1.size ?_ ?_
  · intro i hi a w' hb hiv hk hp
    obtain ⟨_⟩ := hiv
    match i, hi with
    | 0, _ => exact s_call0 enter_known2 (known2_yes w' (hT.below (hB1.trans hb))) gt
    | 1, _ => exact s_not (hp 0 rfl) rfl gt
    | _ + 2, h => exact absurd h (by omega)
  intro a2 w2 hb2 hd2 hs2 hk2 hiv2 hsp2
  have hB2 := hB1.trans hb2
  replace hd2 := hd2.trans hd1
  have t0_2 := (hk2 0 (by decide)).trans t0_1
  have t1_2 := (hk2 1 (by decide)).trans t1_1
  have t2_2 := (hk2 2 (by decide)).trans t2_1
  have t3_2 := (hk2 3 (by decide)).trans t3_1
  have t8_2 := (hk2 8 (by decide)).trans t8_1
  obtain ⟨v18_2, t18_2, I18_2⟩ : ∃ v, a2.tmps[18]? = some v ∧ v = (.bool false) := tv_get (k := 18) (hsp2 1 (by decide)) (by omega)
  clear hb2 hk2 hsp2 hiv2
  refine wp_cond_false (show Act.eval a2 (.tmp 18) = .bool false by rw [eval_of t18_2, I18_2]) ?_
  refine wp_skip ?_
  refine wp_seq ?_
  refine wp_seq ?_
  refine fx3n Zr (l := regionOf Tryz.f3 3) false (by kernel_rfl) 7 131 w.heap.size [0, 1, 2, 3, 8] [Xval _ _ (.string s), Xval _ _ (.string t), Xval _ _ (.string u), Xval _ _ (.string v), Xss _ [s, t, u, v], Xval _ _ (.bool false), Xval _ _ (.bool true)] (Sx.any _) (by kernel_rfl) (by kernel_rfl) (by kernel_rfl) hs2 trivial hB2.size ?_ ?_
  · intro i hi a w' hb hiv hk hp
    obtain ⟨_⟩ := hiv
    have k0 := (hk 0 (by decide)).trans t0_2
    have k1 := (hk 1 (by decide)).trans t1_2
    have k2 := (hk 2 (by decide)).trans t2_2
    have k3 := (hk 3 (by decide)).trans t3_2
    match i, hi with
    | 0, _ => exact s_kmove k0 rfl gt
    | 1, _ => exact s_kmove k1 rfl gt
    | 2, _ => exact s_kmove k2 rfl gt
    | 3, _ => exact s_kmove k3 rfl gt
    | 4, _ => exact s_ss4 (hp 0 rfl) (hp 1 rfl) (hp 2 rfl) (hp 3 rfl) gt
    | 5, _ => exact s_call1 enter_light2 (light2_no _ [s, t, u, v] w' (hp 4 rfl) (by simp) hz hl) gt
    | 6, _ => exact s_not (hp 5 rfl) rfl gt
    | _ + 7, h => exact absurd h (by omega)
  intro a3 w3 hb3 hd3 hs3 hk3 hiv3 hsp3
  have hB3 := hB2.trans hb3
  replace hd3 := hd3.trans hd2
  have t0_3 := (hk3 0 (by decide)).trans t0_2
  have t1_3 := (hk3 1 (by decide)).trans t1_2
  have t2_3 := (hk3 2 (by decide)).trans t2_2
  have t3_3 := (hk3 3 (by decide)).trans t3_2
  have t8_3 := (hk3 8 (by decide)).trans t8_2
  obtain ⟨v25_3, t25_3, I25_3⟩ : ∃ v, a3.tmps[25]? = some v ∧ v = (.bool true) := tv_get (k := 25) (hsp3 6 (by decide)) (by omega)
  clear hb3 hk3 hsp3 hiv3
  refine wp_cond_true (show Act.eval a3 (.tmp 25) = .bool true by rw [eval_of t25_3, I25_3]) ?_
  refine wp_seq ?_
  refine fx3n Zr (l := regionOf Tryz.f3 4) false (by kernel_rfl) 1 131 w.heap.size [0, 1, 2, 3] [Xval _ _ (.bool true)] (Sx.any _) (by kernel_rfl) (by kernel_rfl) (by kernel_rfl) hs3 trivial hB3.size ?_ ?_
  · intro i hi a w' hb hiv hk hp
    obtain ⟨_⟩ := hiv
    match i, hi with
    | 0, _ => exact s_cassign rfl gt
    | _ + 1, h => exact absurd h (by omega)
  intro a4 w4 hb4 hd4 hs4 hk4 hiv4 hsp4
  have hB4 := hB3.trans hb4
  replace hd4 := hd4.trans hd3
  have t0_4 := (hk4 0 (by decide)).trans t0_3
  have t1_4 := (hk4 1 (by decide)).trans t1_3
  have t2_4 := (hk4 2 (by decide)).trans t2_3
  have t3_4 := (hk4 3 (by decide)).trans t3_3
  obtain ⟨v8_4, t8_4, I8_4⟩ : ∃ v, a4.tmps[8]? = some v ∧ v = (.bool true) := tv_get (k := 8) (hsp4 0 (by decide)) (by omega)
  clear hb4 hk4 hsp4 hiv4
  refine wp_ret ?_
  repeat first | refine then_ret ?_ | refine inBlock_ret ?_
  refine bodyPost_ret (res_t rfl t8_4) hd4 ⟨_, rfl, hB4, ?_⟩
  exact I8_4

set_option maxRecDepth 100000 in
set_option maxHeartbeats 1600000 in
theorem ratreck_yes (s t u v : ByteArray) (qA qB : Rat) (hl : ∀ z ∈ [s, t, u, v], z.size ≤ 120) (bqA : Bd qA 40) (kqA : Bq qA 100) (hqA : ∀ w, Calls Tryz.prog 8 #[.string s, .string t] w (PostRQ qA w)) (bqB : Bd qB 40) (kqB : Bq qB 100) (hqB : ∀ w, Calls Tryz.prog 8 #[.string u, .string v] w (PostRQ qB w))  (w : World) (hT : Tab w)  :
    Calls Tryz.prog 3 #[(.string s), (.string t), (.string u), (.string v)] w fun e w' => ∃ r, e = .returned r ∧ Below w.heap.size w w' ∧ r = .bool true := by
  refine calls_act (fn := Tryz.f3) (by kernel_rfl) rfl (N := 131) (by kernel_rfl) (by simp) ?_
  intro a0 hs0 hd0 hx0
  have t0 : a0.tmps[0]? = some (.string s) := hx0 0 _ rfl
  have t1 : a0.tmps[1]? = some (.string t) := hx0 1 _ rfl
  have t2 : a0.tmps[2]? = some (.string u) := hx0 2 _ rfl
  have t3 : a0.tmps[3]? = some (.string v) := hx0 3 _ rfl
  clear hx0
  have hB0 : Below w.heap.size w w := Below.refl _ _
  refine wp_seq ?_
  refine fx3n Zr (l := regionOf Tryz.f3 0) false (by kernel_rfl) 1 131 w.heap.size [0, 1, 2, 3] [Xval _ _ (.bool false)] (Sx.any _) (by kernel_rfl) (by kernel_rfl) (by kernel_rfl) hs0 trivial hB0.size ?_ ?_
  · intro i hi a w' hb hiv hk hp
    obtain ⟨_⟩ := hiv
    match i, hi with
    | 0, _ => exact s_cassign rfl gt
    | _ + 1, h => exact absurd h (by omega)
  intro a1 w1 hb1 hd1 hs1 hk1 hiv1 hsp1
  have hB1 := hB0.trans hb1
  replace hd1 := hd1.trans hd0
  have t0_1 := (hk1 0 (by decide)).trans t0
  have t1_1 := (hk1 1 (by decide)).trans t1
  have t2_1 := (hk1 2 (by decide)).trans t2
  have t3_1 := (hk1 3 (by decide)).trans t3
  obtain ⟨v8_1, t8_1, I8_1⟩ : ∃ v, a1.tmps[8]? = some v ∧ v = (.bool false) := tv_get (k := 8) (hsp1 0 (by decide)) (by omega)
  clear hb1 hk1 hsp1 hiv1
  refine wp_seq ?_
  refine wp_seq ?_
  refine fx3n Zr (l := regionOf Tryz.f3 1) false (by kernel_rfl) 2 131 w.heap.size [0, 1, 2, 3, 8] [Xval _ _ (.bool true), Xval _ _ (.bool false)] (Sx.any _) (by kernel_rfl) (by kernel_rfl) (by kernel_rfl) hs1 trivial hB1.size ?_ ?_
  · intro i hi a w' hb hiv hk hp
    obtain ⟨_⟩ := hiv
    match i, hi with
    | 0, _ => exact s_call0 enter_known2 (known2_yes w' (hT.below (hB1.trans hb))) gt
    | 1, _ => exact s_not (hp 0 rfl) rfl gt
    | _ + 2, h => exact absurd h (by omega)
  intro a2 w2 hb2 hd2 hs2 hk2 hiv2 hsp2
  have hB2 := hB1.trans hb2
  replace hd2 := hd2.trans hd1
  have t0_2 := (hk2 0 (by decide)).trans t0_1
  have t1_2 := (hk2 1 (by decide)).trans t1_1
  have t2_2 := (hk2 2 (by decide)).trans t2_1
  have t3_2 := (hk2 3 (by decide)).trans t3_1
  have t8_2 := (hk2 8 (by decide)).trans t8_1
  obtain ⟨v18_2, t18_2, I18_2⟩ : ∃ v, a2.tmps[18]? = some v ∧ v = (.bool false) := tv_get (k := 18) (hsp2 1 (by decide)) (by omega)
  clear hb2 hk2 hsp2 hiv2
  refine wp_cond_false (show Act.eval a2 (.tmp 18) = .bool false by rw [eval_of t18_2, I18_2]) ?_
  refine wp_skip ?_
  refine wp_seq ?_
  refine wp_seq ?_
  refine fx3n Zr (l := regionOf Tryz.f3 3) false (by kernel_rfl) 7 131 w.heap.size [0, 1, 2, 3, 8] [Xval _ _ (.string s), Xval _ _ (.string t), Xval _ _ (.string u), Xval _ _ (.string v), Xss _ [s, t, u, v], Xval _ _ (.bool true), Xval _ _ (.bool false)] (Sx.any _) (by kernel_rfl) (by kernel_rfl) (by kernel_rfl) hs2 trivial hB2.size ?_ ?_
  · intro i hi a w' hb hiv hk hp
    obtain ⟨_⟩ := hiv
    have k0 := (hk 0 (by decide)).trans t0_2
    have k1 := (hk 1 (by decide)).trans t1_2
    have k2 := (hk 2 (by decide)).trans t2_2
    have k3 := (hk 3 (by decide)).trans t3_2
    match i, hi with
    | 0, _ => exact s_kmove k0 rfl gt
    | 1, _ => exact s_kmove k1 rfl gt
    | 2, _ => exact s_kmove k2 rfl gt
    | 3, _ => exact s_kmove k3 rfl gt
    | 4, _ => exact s_ss4 (hp 0 rfl) (hp 1 rfl) (hp 2 rfl) (hp 3 rfl) gt
    | 5, _ => exact s_call1 enter_light2 (light2_yes _ [s, t, u, v] w' (hp 4 rfl) (by simp) hl) gt
    | 6, _ => exact s_not (hp 5 rfl) rfl gt
    | _ + 7, h => exact absurd h (by omega)
  intro a3 w3 hb3 hd3 hs3 hk3 hiv3 hsp3
  have hB3 := hB2.trans hb3
  replace hd3 := hd3.trans hd2
  have t0_3 := (hk3 0 (by decide)).trans t0_2
  have t1_3 := (hk3 1 (by decide)).trans t1_2
  have t2_3 := (hk3 2 (by decide)).trans t2_2
  have t3_3 := (hk3 3 (by decide)).trans t3_2
  have t8_3 := (hk3 8 (by decide)).trans t8_2
  obtain ⟨v25_3, t25_3, I25_3⟩ : ∃ v, a3.tmps[25]? = some v ∧ v = (.bool false) := tv_get (k := 25) (hsp3 6 (by decide)) (by omega)
  clear hb3 hk3 hsp3 hiv3
  refine wp_cond_false (show Act.eval a3 (.tmp 25) = .bool false by rw [eval_of t25_3, I25_3]) ?_
  refine wp_skip ?_
  refine wp_seq ?_
  refine fxN (fun r => w3.heap.size ≤ r) Zr (l := regionOf Tryz.f3 5) false (by kernel_rfl) 10 131 w.heap.size [0, 1, 2, 3, 8]
    [Xval _ _ (.string s), Xval _ _ (.string t), Xtup (Xrt _ _ qA) (Xqt _ qA), Xtup (Xrt _ _ qA) (Xqt _ qA), Xrt _ _ qA, Xqt _ qA, Sx.box _ w3.heap.size 28, Sx.box _ w3.heap.size 33, Sx.any _, Sx.any _]
    (Sx.any _) [(9, some 6), (10, some 7)] [stNR 8 9 (Xrt _ _ qA), stNQ 9 10 (Xqt _ qA)] (by kernel_rfl) (by kernel_rfl) (by kernel_rfl) hs3 trivial hB3.size (show ([8, 9] : List Nat).Nodup by decide) (fac nst (fac nst fan)) (fac (nby rfl) (fac (nby rfl) fan)) ?_ ?_ ?_
  · intro i hi hns a w' hb hiv hk hp hold
    obtain ⟨_⟩ := hiv
    have k0 := (hk 0 (by decide)).trans t0_3
    have k1 := (hk 1 (by decide)).trans t1_3
    match i, hi with
    | 0, _ => exact s_kmove k0 rfl (gf rfl)
    | 1, _ => exact s_kmove k1 rfl (gf rfl)
    | 2, _ => exact s_call2 enter_frac2 (arg2 (hp 0 rfl) (hp 1 rfl) (hqA w')) (gf rfl)
    | 3, _ => exact s_move (hp 2 rfl) (gf rfl)
    | 4, _ => exact s_ext0 (hp 3 rfl) (gf rfl)
    | 5, _ => exact s_ext1 (hp 3 rfl) (gf rfl)
    | 6, _ => exact sA_R hb.size hb.size (fac (zR w') (fac (zR w') fan))
    | 7, _ => exact sA_Q hb.size hb.size (fac (zQ w') (fac (zQ w') fan))
    | 8, _ => exact absurd rfl (hns _ (.head _))
    | 9, _ => exact absurd rfl (hns _ (.tail _ (.head _)))
    | _ + 10, h => exact absurd h (by omega)
  · refine fac ?_ (fac ?_ (fan))
    · intro a w' hb hiv hk hp ho hf
      exact sN_R (hp 6 rfl) (hp 4 rfl) (hp 4 rfl) hB3.size (hf 6 (.head _)) (fun _ h => h)
    · intro a w' hb hiv hk hp ho hf
      exact sN_Q (hp 7 rfl) (hp 5 rfl) (hp 5 rfl) hB3.size (hf 7 (.tail _ (.head _))) (fun _ h => h)
  intro a4 w4 hb4 hd4 hs4 hk4 hiv4 hsp4 hst4 hds4
  have hB4 := hB3.trans hb4
  replace hd4 := hd4.trans hd3
  have t2_4 := (hk4 2 (by decide)).trans t2_3
  have t3_4 := (hk4 3 (by decide)).trans t3_3
  have t8_4 := (hk4 8 (by decide)).trans t8_3
  obtain ⟨r9_4, v9_4, t9_4, b9_4, n9_4, I9_4⟩ := tnR (k := 9) (hst4 _ (.head _)) (hsp4 6 (by decide) (fac (nq rfl) (fac (nq rfl) fan))) hB3.size (by omega)
  obtain ⟨r10_4, v10_4, t10_4, b10_4, n10_4, I10_4⟩ := tnQ (k := 10) (hst4 _ (.tail _ (.head _))) (hsp4 7 (by decide) (fac (nq rfl) (fac (nq rfl) fan))) hB3.size (by omega)
  clear hb4 hk4 hsp4 hst4 hds4 hiv4
  refine wp_seq ?_
  refine fxN (fun r => w4.heap.size ≤ r) Zr (l := regionOf Tryz.f3 6) false (by kernel_rfl) 10 131 w.heap.size [2, 3, 8, 9, 10]
    [Xval _ _ (.string u), Xval _ _ (.string v), Xtup (Xrt _ _ qB) (Xqt _ qB), Xtup (Xrt _ _ qB) (Xqt _ qB), Xrt _ _ qB, Xqt _ qB, Sx.box _ w4.heap.size 28, Sx.box _ w4.heap.size 33, Sx.any _, Sx.any _]
    (Sx.and (XhR r9_4 (Nat.not_le_of_lt n9_4.lt) v9_4 (Xrt _ _ qA)) (Sx.and (XhQ r10_4 (Nat.not_le_of_lt n10_4.lt) v10_4 (Xqt _ qA)) (Sx.any _))) [(11, some 6), (12, some 7)] [stNR 8 11 (Xrt _ _ qB), stNQ 9 12 (Xqt _ qB)] (by kernel_rfl) (by kernel_rfl) (by kernel_rfl) hs4 (And.intro (And.intro n9_4 I9_4) (And.intro (And.intro n10_4 I10_4) trivial)) hB4.size (show ([8, 9] : List Nat).Nodup by decide) (fac nst (fac nst fan)) (fac (nby rfl) (fac (nby rfl) fan)) ?_ ?_ ?_
  · intro i hi hns a w' hb hiv hk hp hold
    obtain ⟨⟨n9, i9⟩, ⟨n10, i10⟩, _⟩ := hiv
    have k2 := (hk 2 (by decide)).trans t2_4
    have k3 := (hk 3 (by decide)).trans t3_4
    match i, hi with
    | 0, _ => exact s_kmove k2 rfl (gf rfl)
    | 1, _ => exact s_kmove k3 rfl (gf rfl)
    | 2, _ => exact s_call2 enter_frac2 (arg2 (hp 0 rfl) (hp 1 rfl) (hqB w')) (gf rfl)
    | 3, _ => exact s_move (hp 2 rfl) (gf rfl)
    | 4, _ => exact s_ext0 (hp 3 rfl) (gf rfl)
    | 5, _ => exact s_ext1 (hp 3 rfl) (gf rfl)
    | 6, _ => exact sA_R hb.size hb.size (fac (zR w') (fac (zR w') fan))
    | 7, _ => exact sA_Q hb.size hb.size (fac (zQ w') (fac (zQ w') fan))
    | 8, _ => exact absurd rfl (hns _ (.head _))
    | 9, _ => exact absurd rfl (hns _ (.tail _ (.head _)))
    | _ + 10, h => exact absurd h (by omega)
  · refine fac ?_ (fac ?_ (fan))
    · intro a w' hb hiv hk hp ho hf
      exact sN_R (hp 6 rfl) (hp 4 rfl) (hp 4 rfl) hB4.size (hf 6 (.head _)) (fun _ h => h)
    · intro a w' hb hiv hk hp ho hf
      exact sN_Q (hp 7 rfl) (hp 5 rfl) (hp 5 rfl) hB4.size (hf 7 (.tail _ (.head _))) (fun _ h => h)
  intro a5 w5 hb5 hd5 hs5 hk5 hiv5 hsp5 hst5 hds5
  have hB5 := hB4.trans hb5
  replace hd5 := hd5.trans hd4
  obtain ⟨⟨n9_5, i9_5⟩, ⟨n10_5, i10_5⟩, _⟩ := hiv5
  have t8_5 := (hk5 8 (by decide)).trans t8_4
  have t9_5 := (hk5 9 (by decide)).trans t9_4
  have t10_5 := (hk5 10 (by decide)).trans t10_4
  obtain ⟨r11_5, v11_5, t11_5, b11_5, n11_5, I11_5⟩ := tnR (k := 11) (hst5 _ (.head _)) (hsp5 6 (by decide) (fac (nq rfl) (fac (nq rfl) fan))) hB4.size (by omega)
  obtain ⟨r12_5, v12_5, t12_5, b12_5, n12_5, I12_5⟩ := tnQ (k := 12) (hst5 _ (.tail _ (.head _))) (hsp5 7 (by decide) (fac (nq rfl) (fac (nq rfl) fan))) hB4.size (by omega)
  clear hb5 hk5 hsp5 hst5 hds5
  refine wp_seq ?_
  refine fxN (fun r => w5.heap.size ≤ r) Zr (l := regionOf Tryz.f3 7) false (by kernel_rfl) 8 131 w.heap.size [8, 9, 10, 11, 12]
    [Xrt _ _ qA, Xtup (Xrt _ _ (qA⁻¹)) (Xval _ _ (.bool (decide (qA.num ≠ 0)))), Xtup (Xrt _ _ (qA⁻¹)) (Xval _ _ (.bool (decide (qA.num ≠ 0)))), Xrt _ _ (qA⁻¹), Xval _ _ (.bool (decide (qA.num ≠ 0))), Sx.box _ w5.heap.size 28, Sx.any _, Xval _ _ (.bool (decide (qA.num ≠ 0)))]
    (Sx.and (XhR r9_4 (Nat.not_le_of_lt n9_5.lt) v9_4 (Xrt _ _ qA)) (Sx.and (XhQ r10_4 (Nat.not_le_of_lt n10_5.lt) v10_4 (Xqt _ qA)) (Sx.and (XhR r11_5 (Nat.not_le_of_lt n11_5.lt) v11_5 (Xrt _ _ qB)) (Sx.and (XhQ r12_5 (Nat.not_le_of_lt n12_5.lt) v12_5 (Xqt _ qB)) (Sx.any _))))) [(13, some 5)] [stNR 6 13 (Xrt _ _ (qA⁻¹))] (by kernel_rfl) (by kernel_rfl) (by kernel_rfl) hs5 (And.intro (And.intro n9_5 i9_5) (And.intro (And.intro n10_5 i10_5) (And.intro (And.intro n11_5 I11_5) (And.intro (And.intro n12_5 I12_5) trivial)))) hB5.size (show ([6] : List Nat).Nodup by decide) (fac nst fan) (fac (nby rfl) fan) ?_ ?_ ?_
  · intro i hi hns a w' hb hiv hk hp hold
    obtain ⟨⟨n9, i9⟩, ⟨n10, i10⟩, ⟨n11, i11⟩, ⟨n12, i12⟩, _⟩ := hiv
    have k9 := (hk 9 (by decide)).trans t9_5
    match i, hi with
    | 0, _ => exact s_load k9 (load_R n9) i9 (gf rfl)
    | 1, _ => exact s_call1 enter_rinv (rinv_rt _ qA w' (hp 0 rfl) (bqA.mono (by decide))) (gf rfl)
    | 2, _ => exact s_move (hp 1 rfl) (gf rfl)
    | 3, _ => exact s_ext0 (hp 2 rfl) (gf rfl)
    | 4, _ => exact s_ext1 (hp 2 rfl) (gf rfl)
    | 5, _ => exact sA_R hb.size hb.size (fac (zR w') fan)
    | 6, _ => exact absurd rfl (hns _ (.head _))
    | 7, _ => exact s_assign (hp 4 rfl) (gf rfl)
    | _ + 8, h => exact absurd h (by omega)
  · refine fac ?_ (fan)
    · intro a w' hb hiv hk hp ho hf
      exact sN_R (hp 5 rfl) (hp 3 rfl) (hp 3 rfl) hB5.size (hf 5 (.head _)) (fun _ h => h)
  intro a6 w6 hb6 hd6 hs6 hk6 hiv6 hsp6 hst6 hds6
  have hB6 := hB5.trans hb6
  replace hd6 := hd6.trans hd5
  obtain ⟨⟨n9_6, i9_6⟩, ⟨n10_6, i10_6⟩, ⟨n11_6, i11_6⟩, ⟨n12_6, i12_6⟩, _⟩ := hiv6
  have t8_6 := (hk6 8 (by decide)).trans t8_5
  have t9_6 := (hk6 9 (by decide)).trans t9_5
  have t10_6 := (hk6 10 (by decide)).trans t10_5
  have t11_6 := (hk6 11 (by decide)).trans t11_5
  have t12_6 := (hk6 12 (by decide)).trans t12_5
  obtain ⟨r13_6, v13_6, t13_6, b13_6, n13_6, I13_6⟩ := tnR (k := 13) (hst6 _ (.head _)) (hsp6 5 (by decide) (fac (nq rfl) fan)) hB5.size (by omega)
  obtain ⟨v14_6, t14_6, I14_6⟩ : ∃ v, a6.tmps[14]? = some v ∧ v = (.bool (decide (qA.num ≠ 0))) := tv_get (k := 14) (hsp6 7 (by decide) (fac (nq rfl) fan)) (by omega)
  clear hb6 hk6 hsp6 hst6 hds6
  refine wp_seq ?_
  refine fxN (fun r => w6.heap.size ≤ r) Zr (l := regionOf Tryz.f3 8) false (by kernel_rfl) 12 131 w.heap.size [8, 9, 10, 11, 12, 13, 14]
    [Xval _ _ (.pointer (some ⟨r10_4, 0, none⟩)), Xdoc _ _ (fun _ _ h => h) qA.num, Xval _ _ (.pointer (some ⟨r10_4, 2, none⟩)), Xdoc _ _ (fun _ _ h => h) (qA.den : Int), Xtup (Xdoc _ _ (fun _ _ h => h) (qA.num / ((qA.den : Int)))) (Xdoc _ _ (fun _ _ h => h) (qA.num % ((qA.den : Int)))), Xtup (Xdoc _ _ (fun _ _ h => h) (qA.num / ((qA.den : Int)))) (Xdoc _ _ (fun _ _ h => h) (qA.num % ((qA.den : Int)))), Xdoc _ _ (fun _ _ h => h) (qA.num / ((qA.den : Int))), Xdoc _ _ (fun _ _ h => h) (qA.num % ((qA.den : Int))), Sx.box _ w6.heap.size 31, Sx.box _ w6.heap.size 31, Sx.any _, Sx.any _]
    (Sx.and (XhR r9_4 (Nat.not_le_of_lt n9_6.lt) v9_4 (Xrt _ _ qA)) (Sx.and (XhQ r10_4 (Nat.not_le_of_lt n10_6.lt) v10_4 (Xqt _ qA)) (Sx.and (XhR r11_5 (Nat.not_le_of_lt n11_6.lt) v11_5 (Xrt _ _ qB)) (Sx.and (XhQ r12_5 (Nat.not_le_of_lt n12_6.lt) v12_5 (Xqt _ qB)) (Sx.and (XhR r13_6 (Nat.not_le_of_lt n13_6.lt) v13_6 (Xrt _ _ (qA⁻¹))) (Sx.any _)))))) [(15, some 8), (16, some 9)] [stNN 10 15 (Xdoc _ _ (fun _ _ h => h) (qA.num / ((qA.den : Int)))), stNN 11 16 (Xdoc _ _ (fun _ _ h => h) (qA.num % ((qA.den : Int))))] (by kernel_rfl) (by kernel_rfl) (by kernel_rfl) hs6 (And.intro (And.intro n9_6 i9_6) (And.intro (And.intro n10_6 i10_6) (And.intro (And.intro n11_6 i11_6) (And.intro (And.intro n12_6 i12_6) (And.intro (And.intro n13_6 I13_6) trivial))))) hB6.size (show ([10, 11] : List Nat).Nodup by decide) (fac nst (fac nst fan)) (fac (nby rfl) (fac (nby rfl) fan)) ?_ ?_ ?_
  · intro i hi hns a w' hb hiv hk hp hold
    obtain ⟨⟨n9, i9⟩, ⟨n10, i10⟩, ⟨n11, i11⟩, ⟨n12, i12⟩, ⟨n13, i13⟩, _⟩ := hiv
    have k10 := (hk 10 (by decide)).trans t10_6
    match i, hi with
    | 0, _ => exact s_field k10 field_Q0 rfl (gf rfl)
    | 1, _ =>
      obtain ⟨u, hr, hu⟩ := ldQ0 n10 i10
      exact s_loadP (hp 0 rfl) hr hu (gf rfl)
    | 2, _ => exact s_field k10 field_Q1 rfl (gf rfl)
    | 3, _ =>
      obtain ⟨u, hr, hu⟩ := ldQ1 n10 i10
      exact s_loadP (hp 2 rfl) hr hu (gf rfl)
    | 4, _ => exact s_call2 enter_quoN (quoN_ct _ _ (qA.num) ((qA.den : Int)) w' (hp 1 rfl) (hp 3 rfl) (T4.le3 kqA.n (by decide)) (T4.le3 kqA.d (by decide))) (gf rfl)
    | 5, _ => exact s_move (hp 4 rfl) (gf rfl)
    | 6, _ => exact s_ext0 (hp 5 rfl) (gf rfl)
    | 7, _ => exact s_ext1 (hp 5 rfl) (gf rfl)
    | 8, _ => exact sA_N hb.size hb.size (fac (zN w') (fac (zN w') fan))
    | 9, _ => exact sA_N hb.size hb.size (fac (zN w') (fac (zN w') fan))
    | 10, _ => exact absurd rfl (hns _ (.head _))
    | 11, _ => exact absurd rfl (hns _ (.tail _ (.head _)))
    | _ + 12, h => exact absurd h (by omega)
  · refine fac ?_ (fac ?_ (fan))
    · intro a w' hb hiv hk hp ho hf
      exact sN_N (hp 8 rfl) (hp 6 rfl) (hp 6 rfl) hB6.size (hf 8 (.head _)) (fun _ h => h)
    · intro a w' hb hiv hk hp ho hf
      exact sN_N (hp 9 rfl) (hp 7 rfl) (hp 7 rfl) hB6.size (hf 9 (.tail _ (.head _))) (fun _ h => h)
  intro a7 w7 hb7 hd7 hs7 hk7 hiv7 hsp7 hst7 hds7
  have hB7 := hB6.trans hb7
  replace hd7 := hd7.trans hd6
  obtain ⟨⟨n9_7, i9_7⟩, ⟨n10_7, i10_7⟩, ⟨n11_7, i11_7⟩, ⟨n12_7, i12_7⟩, ⟨n13_7, i13_7⟩, _⟩ := hiv7
  have t8_7 := (hk7 8 (by decide)).trans t8_6
  have t9_7 := (hk7 9 (by decide)).trans t9_6
  have t10_7 := (hk7 10 (by decide)).trans t10_6
  have t11_7 := (hk7 11 (by decide)).trans t11_6
  have t12_7 := (hk7 12 (by decide)).trans t12_6
  have t13_7 := (hk7 13 (by decide)).trans t13_6
  have t14_7 := (hk7 14 (by decide)).trans t14_6
  obtain ⟨r15_7, v15_7, t15_7, b15_7, n15_7, I15_7⟩ := tnN (k := 15) (hst7 _ (.head _)) (hsp7 8 (by decide) (fac (nq rfl) (fac (nq rfl) fan))) hB6.size (by omega)
  clear hb7 hk7 hsp7 hst7 hds7
  refine wp_seq ?_
  refine wp_seq ?_
  refine fx3n Zr (l := regionOf Tryz.f3 9) true (by kernel_rfl) 63 131 w.heap.size [8, 9, 10, 11, 12, 13, 14, 15] [Xrt _ _ qA, Xrt _ _ qB, Xrt _ _ (qA + qB), Xqt _ qA, Xqt _ qB, Xqt _ (qA + qB), Xval _ _ (.bool true), Xval _ _ (.bool false), Xval _ _ (.bool false), Xrt _ _ qA, Xrt _ _ qB, Xrt _ _ (qA - qB), Xqt _ qA, Xqt _ qB, Xqt _ (-qB), Xqt _ (qA + (-qB)), Xval _ _ (.bool true), Xval _ _ (.bool false), Xval _ _ (.bool false), Xval _ _ (.bool false), Xrt _ _ qA, Xrt _ _ qB, Xrt _ _ (qA * qB), Xqt _ qA, Xqt _ qB, Xqt _ (qA * qB), Xval _ _ (.bool true), Xval _ _ (.bool false), Xval _ _ (.bool false), Xval _ _ (.bool false), Xrt _ _ qA, Xrt _ _ (-qA), Xqt _ qA, Xqt _ (-qA), Xval _ _ (.bool true), Xval _ _ (.bool false), Xval _ _ (.bool false), Xval _ _ (.bool false), Xrt _ _ qA, Xrt _ _ qB, Xval _ _ (.int .i64 (cmpQ qA qB)), Xqt _ qA, Xqt _ qB, Xval _ _ (.int .i64 (cmpQ qA qB)), Xval _ _ (.bool false), Xval _ _ (.bool false), Xval _ _ (.bool false), Xrt _ _ qA, Xnum _ _ qA.floor, Xval _ _ (.string ⟨(Lib.itoa qA.floor).toArray⟩), Xdoc _ _ (fun _ _ h => h) (qA.num / ((qA.den : Int))), Xval _ _ (.string ⟨(Lib.itoa (qA.num / ((qA.den : Int)))).toArray⟩), Xval _ _ (.bool false), Xval _ _ (.bool false), Xval _ _ (.bool false), Xrt _ _ qA, Xval _ _ (.bool (decide (qA.den = 1))), Xrt _ _ qA, Xnum _ _ (qA.den : Int), Xval _ _ (.string ⟨(Lib.itoa (qA.den : Int)).toArray⟩), Xval _ _ (.bool ((⟨(Lib.itoa (qA.den : Int)).toArray⟩ : ByteArray).toList == (⟨#[49]⟩ : ByteArray).toList)), Xval _ _ (.bool false), Xval _ _ (.bool false)] (Sx.and (XhR r9_4 (fun h => h) v9_4 (Xrt _ _ qA)) (Sx.and (XhQ r10_4 (fun h => h) v10_4 (Xqt _ qA)) (Sx.and (XhR r11_5 (fun h => h) v11_5 (Xrt _ _ qB)) (Sx.and (XhQ r12_5 (fun h => h) v12_5 (Xqt _ qB)) (Sx.and (XhR r13_6 (fun h => h) v13_6 (Xrt _ _ (qA⁻¹))) (Sx.and (XhN r15_7 (fun h => h) v15_7 (Xdoc _ _ (fun _ _ h => h) (qA.num / ((qA.den : Int))))) (Sx.any _))))))) (by kernel_rfl) (by kernel_rfl) (by kernel_rfl) hs7 (And.intro (And.intro n9_7 i9_7) (And.intro (And.intro n10_7 i10_7) (And.intro (And.intro n11_7 i11_7) (And.intro (And.intro n12_7 i12_7) (And.intro (And.intro n13_7 i13_7) (And.intro (And.intro n15_7 I15_7) trivial)))))) hB7.size ?_ ?_
  · intro i hi a w' hb hiv hk hp
    obtain ⟨⟨n9, i9⟩, ⟨n10, i10⟩, ⟨n11, i11⟩, ⟨n12, i12⟩, ⟨n13, i13⟩, ⟨n15, i15⟩, _⟩ := hiv
    have k9 := (hk 9 (by decide)).trans t9_7
    have k10 := (hk 10 (by decide)).trans t10_7
    have k11 := (hk 11 (by decide)).trans t11_7
    have k12 := (hk 12 (by decide)).trans t12_7
    have k15 := (hk 15 (by decide)).trans t15_7
    match i, hi with
    | 0, _ => exact s_load k9 (load_R n9) i9 gt
    | 1, _ => exact s_load k11 (load_R n11) i11 gt
    | 2, _ => exact s_call2 enter_radd (radd_any _ _ qA qB w' (hp 0 rfl) (hp 1 rfl) (bqA.mono (by decide)) (bqB.mono (by decide))) gt
    | 3, _ => exact s_load k10 (load_Q n10) i10 gt
    | 4, _ => exact s_load k12 (load_Q n12) i12 gt
    | 5, _ => exact s_call2 enter_qadd (qadd_qt _ _ qA qB w' (hp 3 rfl) (hp 4 rfl) (kqA.mono (by decide)) (kqB.mono (by decide))) gt
    | 6, _ => exact s_call2 enter_same2 (same2_any _ _ (qA + qB) w' (hT.below (hB7.trans hb)) ((Bd.add2 bqA bqB).mono (by decide)) ((Bq.add kqA kqB).mono (by decide)) (hp 2 rfl) (hp 5 rfl)) gt
    | 7, _ => exact s_not (hp 6 rfl) rfl gt
    | 8, _ => exact s_move (hp 7 rfl) gt
    | 9, _ => exact s_load k9 (load_R n9) i9 gt (wanted_slot rfl (hp 8 rfl) rfl)
    | 10, _ => exact s_load k11 (load_R n11) i11 gt (wanted_slot rfl (hp 8 rfl) rfl)
    | 11, _ => exact s_call2 enter_rsub (rsub_any _ _ qA qB w' (hp 9 rfl) (hp 10 rfl) (bqA.mono (by decide)) (bqB.mono (by decide))) gt (wanted_slot rfl (hp 8 rfl) rfl)
    | 12, _ => exact s_load k10 (load_Q n10) i10 gt (wanted_slot rfl (hp 8 rfl) rfl)
    | 13, _ => exact s_load k12 (load_Q n12) i12 gt (wanted_slot rfl (hp 8 rfl) rfl)
    | 14, _ => exact s_call1 enter_qneg (qneg_qt _ qB w' (hp 13 rfl) (kqB.mono (by decide))) gt (wanted_slot rfl (hp 8 rfl) rfl)
    | 15, _ => exact s_call2 enter_qadd (qadd_qt _ _ qA (-qB) w' (hp 12 rfl) (hp 14 rfl) (kqA.mono (by decide)) ((Bq.neg kqB).mono (by decide))) gt (wanted_slot rfl (hp 8 rfl) rfl)
    | 16, _ => exact s_call2 enter_same2 (same2_any _ _ (qA - qB) w' (hT.below (hB7.trans hb)) ((Bd.sub2 bqA bqB).mono (by decide)) (by rw [Rat.sub_eq_add_neg]; exact (Bq.add kqA (Bq.neg kqB)).mono (by decide)) (hp 11 rfl) (by rw [Rat.sub_eq_add_neg]; exact (hp 15 rfl))) gt (wanted_slot rfl (hp 8 rfl) rfl)
    | 17, _ => exact s_not (hp 16 rfl) rfl gt (wanted_slot rfl (hp 8 rfl) rfl)
    | 18, _ => exact s_pickF (hp 8 rfl) (hp 17 rfl) gt
    | 19, _ => exact s_move (hp 18 rfl) gt
    | 20, _ => exact s_load k9 (load_R n9) i9 gt (wanted_slot rfl (hp 19 rfl) rfl)
    | 21, _ => exact s_load k11 (load_R n11) i11 gt (wanted_slot rfl (hp 19 rfl) rfl)
    | 22, _ => exact s_call2 enter_rmul (rmul_any _ _ qA qB w' (hp 20 rfl) (hp 21 rfl) (bqA.mono (by decide)) (bqB.mono (by decide))) gt (wanted_slot rfl (hp 19 rfl) rfl)
    | 23, _ => exact s_load k10 (load_Q n10) i10 gt (wanted_slot rfl (hp 19 rfl) rfl)
    | 24, _ => exact s_load k12 (load_Q n12) i12 gt (wanted_slot rfl (hp 19 rfl) rfl)
    | 25, _ => exact s_call2 enter_qmul (qmul_qt _ _ qA qB w' (hp 23 rfl) (hp 24 rfl) (kqA.mono (by decide)) (kqB.mono (by decide))) gt (wanted_slot rfl (hp 19 rfl) rfl)
    | 26, _ => exact s_call2 enter_same2 (same2_any _ _ (qA * qB) w' (hT.below (hB7.trans hb)) ((Bd.mul2 bqA bqB).mono (by decide)) ((Bq.mul kqA kqB).mono (by decide)) (hp 22 rfl) (hp 25 rfl)) gt (wanted_slot rfl (hp 19 rfl) rfl)
    | 27, _ => exact s_not (hp 26 rfl) rfl gt (wanted_slot rfl (hp 19 rfl) rfl)
    | 28, _ => exact s_pickF (hp 19 rfl) (hp 27 rfl) gt
    | 29, _ => exact s_move (hp 28 rfl) gt
    | 30, _ => exact s_load k9 (load_R n9) i9 gt (wanted_slot rfl (hp 29 rfl) rfl)
    | 31, _ => exact s_call1 enter_rneg (rneg_rt _ qA w' (hp 30 rfl) (bqA.mono (by decide))) gt (wanted_slot rfl (hp 29 rfl) rfl)
    | 32, _ => exact s_load k10 (load_Q n10) i10 gt (wanted_slot rfl (hp 29 rfl) rfl)
    | 33, _ => exact s_call1 enter_qneg (qneg_qt _ qA w' (hp 32 rfl) (kqA.mono (by decide))) gt (wanted_slot rfl (hp 29 rfl) rfl)
    | 34, _ => exact s_call2 enter_same2 (same2_any _ _ (-qA) w' (hT.below (hB7.trans hb)) ((Bd.neg bqA).mono (by decide)) ((Bq.neg kqA).mono (by decide)) (hp 31 rfl) (hp 33 rfl)) gt (wanted_slot rfl (hp 29 rfl) rfl)
    | 35, _ => exact s_not (hp 34 rfl) rfl gt (wanted_slot rfl (hp 29 rfl) rfl)
    | 36, _ => exact s_pickF (hp 29 rfl) (hp 35 rfl) gt
    | 37, _ => exact s_move (hp 36 rfl) gt
    | 38, _ => exact s_load k9 (load_R n9) i9 gt (wanted_slot rfl (hp 37 rfl) rfl)
    | 39, _ => exact s_load k11 (load_R n11) i11 gt (wanted_slot rfl (hp 37 rfl) rfl)
    | 40, _ => exact s_call2 enter_rcmp (rcmp_any _ _ qA qB w' (hp 38 rfl) (hp 39 rfl) (bqA.mono (by decide)) (bqB.mono (by decide))) gt (wanted_slot rfl (hp 37 rfl) rfl)
    | 41, _ => exact s_load k10 (load_Q n10) i10 gt (wanted_slot rfl (hp 37 rfl) rfl)
    | 42, _ => exact s_load k12 (load_Q n12) i12 gt (wanted_slot rfl (hp 37 rfl) rfl)
    | 43, _ => exact s_call2 enter_qcmp (qcmp_qt _ _ qA qB w' (hp 41 rfl) (hp 42 rfl) (kqA.mono (by decide)) (kqB.mono (by decide))) gt (wanted_slot rfl (hp 37 rfl) rfl)
    | 44, _ => exact s_neq (hp 40 rfl) (hp 43 rfl) (congrArg Value.bool (show ((cmpQ qA qB) != (cmpQ qA qB)) = false from by simp)) gt (wanted_slot rfl (hp 37 rfl) rfl)
    | 45, _ => exact s_pickF (hp 37 rfl) (hp 44 rfl) gt
    | 46, _ => exact s_move (hp 45 rfl) gt
    | 47, _ => exact s_load k9 (load_R n9) i9 gt (wanted_slot rfl (hp 46 rfl) rfl)
    | 48, _ => exact s_call1 enter_rfloor (rfloor_any _ qA w' (hp 47 rfl) (bqA.mono (by decide))) gt (wanted_slot rfl (hp 46 rfl) rfl)
    | 49, _ => exact s_call1 enter_Str (str_ct _ qA.floor w' (hT.below (hB7.trans hb)) (hp 48 rfl) (le4 (Bd.floor bqA) (by decide))) gt (wanted_slot rfl (hp 46 rfl) rfl)
    | 50, _ => exact s_load k15 (load_NB n15) i15 gt (wanted_slot rfl (hp 46 rfl) rfl)
    | 51, _ => exact s_call1 enter_textN (text_ct _ (qA.num / ((qA.den : Int))) w' (hp 50 rfl) (T4.le4 (ediv_lt kqA.n) (by decide))) gt (wanted_slot rfl (hp 46 rfl) rfl)
    | 52, _ => exact s_neS (hp 49 rfl) (hp 51 rfl) (congrArg Value.bool (show (!((⟨(Lib.itoa qA.floor).toArray⟩ : ByteArray).toList == (⟨(Lib.itoa (qA.num / ((qA.den : Int)))).toArray⟩ : ByteArray).toList)) = false from neS (by rw [Rat.floor_def]))) gt (wanted_slot rfl (hp 46 rfl) rfl)
    | 53, _ => exact s_pickF (hp 46 rfl) (hp 52 rfl) gt
    | 54, _ => exact s_move (hp 53 rfl) gt
    | 55, _ => exact s_load k9 (load_R n9) i9 gt (wanted_slot rfl (hp 54 rfl) rfl)
    | 56, _ => exact s_call1 enter_isw (isw_rt _ qA w' (hp 55 rfl)) gt (wanted_slot rfl (hp 54 rfl) rfl)
    | 57, _ => exact s_load k9 (load_R n9) i9 gt (wanted_slot rfl (hp 54 rfl) rfl)
    | 58, _ => exact s_call1 enter_bel (rbel_rt _ qA w' (hp 57 rfl) (bqA.mono (by decide))) gt (wanted_slot rfl (hp 54 rfl) rfl)
    | 59, _ => exact s_call1 enter_Str (str_ct _ (qA.den : Int) w' (hT.below (hB7.trans hb)) (hp 58 rfl) (le4 bqA.d (by decide))) gt (wanted_slot rfl (hp 54 rfl) rfl)
    | 60, _ => exact s_eqS (hp 59 rfl) rfl rfl gt (wanted_slot rfl (hp 54 rfl) rfl)
    | 61, _ => exact s_neB (hp 56 rfl) (hp 60 rfl) (congrArg Value.bool (show ((decide (qA.den = 1)) != ((⟨(Lib.itoa (qA.den : Int)).toArray⟩ : ByteArray).toList == (⟨#[49]⟩ : ByteArray).toList)) = false from isw_one _)) gt (wanted_slot rfl (hp 54 rfl) rfl)
    | 62, _ => exact s_pickF (hp 54 rfl) (hp 61 rfl) gt
    | _ + 63, h => exact absurd h (by omega)
  intro a8 w8 hb8 hd8 hs8 hk8 hiv8 hsp8
  have hB8 := hB7.trans hb8
  replace hd8 := hd8.trans hd7
  obtain ⟨⟨n9_8, i9_8⟩, ⟨n10_8, i10_8⟩, ⟨n11_8, i11_8⟩, ⟨n12_8, i12_8⟩, ⟨n13_8, i13_8⟩, ⟨n15_8, i15_8⟩, _⟩ := hiv8
  have t8_8 := (hk8 8 (by decide)).trans t8_7
  have t9_8 := (hk8 9 (by decide)).trans t9_7
  have t13_8 := (hk8 13 (by decide)).trans t13_7
  have t14_8 := (hk8 14 (by decide)).trans t14_7
  obtain ⟨v113_8, t113_8, I113_8⟩ : ∃ v, a8.tmps[113]? = some v ∧ v = (.bool false) := tv_get (k := 113) (hsp8 62 (by decide)) (by omega)
  clear hb8 hk8 hsp8
  refine wp_cond_false (show Act.eval a8 (.tmp 113) = .bool false by rw [eval_of t113_8, I113_8]) ?_
  refine wp_skip ?_
  refine wp_seq ?_
  refine wp_seq ?_
  refine fx3n Zr (l := regionOf Tryz.f3 11) false (by kernel_rfl) 2 131 w.heap.size [8, 9, 13, 14] [Xval _ _ (.bool (decide (qA.num ≠ 0))), Xval _ _ (.bool (!(decide (qA.num ≠ 0))))] (Sx.and (XhR r9_4 (fun h => h) v9_4 (Xrt _ _ qA)) (Sx.and (XhR r13_6 (fun h => h) v13_6 (Xrt _ _ (qA⁻¹))) (Sx.any _))) (by kernel_rfl) (by kernel_rfl) (by kernel_rfl) hs8 (And.intro (And.intro n9_8 i9_8) (And.intro (And.intro n13_8 i13_8) trivial)) hB8.size ?_ ?_
  · intro i hi a w' hb hiv hk hp
    obtain ⟨⟨n9, i9⟩, ⟨n13, i13⟩, _⟩ := hiv
    have k14 := (hk 14 (by decide)).trans t14_8
    match i, hi with
    | 0, _ => exact s_kmove k14 I14_6 gt
    | 1, _ => exact s_not (hp 0 rfl) rfl gt
    | _ + 2, h => exact absurd h (by omega)
  intro a9 w9 hb9 hd9 hs9 hk9 hiv9 hsp9
  have hB9 := hB8.trans hb9
  replace hd9 := hd9.trans hd8
  obtain ⟨⟨n9_9, i9_9⟩, ⟨n13_9, i13_9⟩, _⟩ := hiv9
  have t8_9 := (hk9 8 (by decide)).trans t8_8
  have t9_9 := (hk9 9 (by decide)).trans t9_8
  have t13_9 := (hk9 13 (by decide)).trans t13_8
  obtain ⟨v115_9, t115_9, I115_9⟩ : ∃ v, a9.tmps[115]? = some v ∧ v = (.bool (!(decide (qA.num ≠ 0)))) := tv_get (k := 115) (hsp9 1 (by decide)) (by omega)
  clear hb9 hk9 hsp9
  by_cases hc115 : qA.num = 0
  · skip
    refine wp_cond_true (show Act.eval a9 (.tmp 115) = .bool true by rw [eval_of t115_9, I115_9]; simp [hc115]) ?_
    refine wp_seq ?_
    refine fx3n Zr (l := regionOf Tryz.f3 12) false (by kernel_rfl) 11 131 w.heap.size [9, 13] [Xrt _ _ qA, Xnum _ _ qA.num, Xval _ _ (.int .i64 (sgn (qA.num))), Xval _ _ (.bool true), Xval _ _ (.bool true), Xrt _ _ (qA⁻¹), Xnum _ _ ((qA⁻¹).num), Xval _ _ (.int .i64 (sgn ((qA⁻¹).num))), Xval _ _ (.bool true), Xval _ _ (.bool true), Xval _ _ (.bool true)] (Sx.and (XhR r9_4 (fun h => h) v9_4 (Xrt _ _ qA)) (Sx.and (XhR r13_6 (fun h => h) v13_6 (Xrt _ _ (qA⁻¹))) (Sx.any _))) (by kernel_rfl) (by kernel_rfl) (by kernel_rfl) hs9 (And.intro (And.intro n9_9 i9_9) (And.intro (And.intro n13_9 i13_9) trivial)) hB9.size ?_ ?_
    · intro i hi a w' hb hiv hk hp
      obtain ⟨⟨n9, i9⟩, ⟨n13, i13⟩, _⟩ := hiv
      have k9 := (hk 9 (by decide)).trans t9_9
      have k13 := (hk 13 (by decide)).trans t13_9
      match i, hi with
      | 0, _ => exact s_load k9 (load_R n9) i9 gt
      | 1, _ => exact s_call1 enter_top (rtop_any _ qA w' (hp 0 rfl) (bqA.mono (by decide))) gt
      | 2, _ => exact s_call1 enter_Sign (sign_ct _ (qA.num) w' (hp 1 rfl)) gt
      | 3, _ => exact s_eql (hp 2 rfl) rfl (congrArg Value.bool (show ((sgn (qA.num)) == 0) = true from zero_num hc115)) gt
      | 4, _ => exact s_move (hp 3 rfl) gt
      | 5, _ => exact s_load k13 (load_R n13) i13 gt (wanted_slot rfl (hp 4 rfl) rfl)
      | 6, _ => exact s_call1 enter_top (rtop_any _ (qA⁻¹) w' (hp 5 rfl) ((Bd.inv bqA (by decide)).mono (by decide))) gt (wanted_slot rfl (hp 4 rfl) rfl)
      | 7, _ => exact s_call1 enter_Sign (sign_ct _ ((qA⁻¹).num) w' (hp 6 rfl)) gt (wanted_slot rfl (hp 4 rfl) rfl)
      | 8, _ => exact s_eql (hp 7 rfl) rfl (congrArg Value.bool (show ((sgn ((qA⁻¹).num)) == 0) = true from inv_zero_num hc115)) gt (wanted_slot rfl (hp 4 rfl) rfl)
      | 9, _ => exact s_pickT (hp 4 rfl) (hp 8 rfl) gt
      | 10, _ => exact s_assign (hp 9 rfl) gt
      | _ + 11, h => exact absurd h (by omega)
    intro a10 w10 hb10 hd10 hs10 hk10 hiv10 hsp10
    have hB10 := hB9.trans hb10
    replace hd10 := hd10.trans hd9
    obtain ⟨⟨n9_10, i9_10⟩, ⟨n13_10, i13_10⟩, _⟩ := hiv10
    have t9_10 := (hk10 9 (by decide)).trans t9_9
    have t13_10 := (hk10 13 (by decide)).trans t13_9
    obtain ⟨v8_10, t8_10, I8_10⟩ : ∃ v, a10.tmps[8]? = some v ∧ v = (.bool true) := tv_get (k := 8) (hsp10 10 (by decide)) (by omega)
    clear hb10 hk10 hsp10
    refine wp_ret ?_
    repeat first | refine then_ret ?_ | refine inBlock_ret ?_
    refine bodyPost_ret (res_t rfl t8_10) hd10 ⟨_, rfl, hB10, ?_⟩
    exact I8_10
  · skip
    refine wp_cond_false (show Act.eval a9 (.tmp 115) = .bool false by rw [eval_of t115_9, I115_9]; simp [hc115]) ?_
    refine wp_skip ?_
    change Code.wp _ _ _ _ _
    refine wp_seq ?_
    refine fx3n Zr (l := regionOf Tryz.f3 13) false (by kernel_rfl) 6 131 w.heap.size [9, 13] [Xrt _ _ qA, Xrt _ _ (qA⁻¹), Xrt _ _ (qA * (qA⁻¹)), Xval _ _ (.string (rstr (qA * (qA⁻¹)).num (lowB (qA * (qA⁻¹)).den))), Xval _ _ (.bool true), Xval _ _ (.bool true)] (Sx.and (XhR r9_4 (fun h => h) v9_4 (Xrt _ _ qA)) (Sx.and (XhR r13_6 (fun h => h) v13_6 (Xrt _ _ (qA⁻¹))) (Sx.any _))) (by kernel_rfl) (by kernel_rfl) (by kernel_rfl) hs9 (And.intro (And.intro n9_9 i9_9) (And.intro (And.intro n13_9 i13_9) trivial)) hB9.size ?_ ?_
    · intro i hi a w' hb hiv hk hp
      obtain ⟨⟨n9, i9⟩, ⟨n13, i13⟩, _⟩ := hiv
      have k9 := (hk 9 (by decide)).trans t9_9
      have k13 := (hk 13 (by decide)).trans t13_9
      match i, hi with
      | 0, _ => exact s_load k9 (load_R n9) i9 gt
      | 1, _ => exact s_load k13 (load_R n13) i13 gt
      | 2, _ => exact s_call2 enter_rmul (rmul_any _ _ qA (qA⁻¹) w' (hp 0 rfl) (hp 1 rfl) (bqA.mono (by decide)) ((Bd.inv bqA (by decide)).mono (by decide))) gt
      | 3, _ => exact s_call1 enter_rstr (rstr_rt _ (qA * (qA⁻¹)) w' (hT.below (hB9.trans hb)) (hp 2 rfl) ((Bd.mul2 bqA (Bd.inv bqA (by decide))).mono (by decide))) gt
      | 4, _ => exact s_eqS (hp 3 rfl) rfl (congrArg Value.bool (show ((rstr (qA * (qA⁻¹)).num (lowB (qA * (qA⁻¹)).den)).toList == (⟨#[49]⟩ : ByteArray).toList) = true from eqS (mul_one_txt hc115))) gt
      | 5, _ => exact s_assign (hp 4 rfl) gt
      | _ + 6, h => exact absurd h (by omega)
    intro a10 w10 hb10 hd10 hs10 hk10 hiv10 hsp10
    have hB10 := hB9.trans hb10
    replace hd10 := hd10.trans hd9
    obtain ⟨⟨n9_10, i9_10⟩, ⟨n13_10, i13_10⟩, _⟩ := hiv10
    obtain ⟨v8_10, t8_10, I8_10⟩ : ∃ v, a10.tmps[8]? = some v ∧ v = (.bool true) := tv_get (k := 8) (hsp10 5 (by decide)) (by omega)
    clear hb10 hk10 hsp10
    refine wp_ret ?_
    repeat first | refine then_ret ?_ | refine inBlock_ret ?_
    refine bodyPost_ret (res_t rfl t8_10) hd10 ⟨_, rfl, hB10, ?_⟩
    exact I8_10

theorem ratreck_walk (s t u v : ByteArray) (w : World) (hT : Tab w) (hz : ∀ z ∈ [s, t, u, v], z.size ≤ 9223372036854775807) :
    Calls Tryz.prog 3 #[.string s, .string t, .string u, .string v] w fun e w' => e = .returned (.bool true) ∧ Below w.heap.size w w' := by
  by_cases h : ∀ z ∈ [s, t, u, v], z.size ≤ 120
  · skip
    obtain ⟨qA, bqA, kqA, hqA⟩ := frac2_all s t (h s (by simp)) (h t (by simp))
    obtain ⟨qB, bqB, kqB, hqB⟩ := frac2_all u v (h u (by simp)) (h v (by simp))
    refine Calls.mono (ratreck_yes s t u v qA qB h bqA kqA hqA bqB kqB hqB w hT) ?_
    rintro e w' ⟨r, rfl, hb, rfl⟩
    exact ⟨rfl, hb⟩
  · refine Calls.mono (ratreck_no s t u v hz h w hT) ?_
    rintro e w' ⟨r, rfl, hb, rfl⟩
    exact ⟨rfl, hb⟩

end Go.Proofs.YtlcfldkmojpkpaaGreatDoor

namespace Go.Proofs.YtlcfldkmojpkpaaGreatDoor
open Go.ChangeShapes Go.WideShapes Go.ChangeAt Go.RowKit
open Go.ChangeMaps (open_string shut_string)

theorem ratReckons_own : ownKnob Tryz.prog.godebug = none := by kernel_rfl
theorem ratReckons_g : Tryz.prog.globalNamed "internal/strconv.uint64pow10" = some 0 := by kernel_rfl
theorem ratReckons_gt : (Tryz.prog.globals[0]?).map (·.type) = some 134 := by kernel_rfl
theorem ratReckons_ca : Tryz.prog.cellsOf 134 = 20 := by kernel_rfl
theorem ratReckons_ce : Tryz.prog.cellsOf 86 = 1 := by kernel_rfl
theorem ratReckons_table {W : World} (h : laidMetH Tryz.prog Rows.ratReckonsRow.laid W) : Tab W := by
  have h1 := laidMetH.filter (fun x => x.1 == "internal/strconv.uint64pow10") h
  have e : Rows.ratReckonsRow.laid.filter (fun x => x.1 == "internal/strconv.uint64pow10") = [("internal/strconv.uint64pow10", Lib.tabData .u64 Lib.pow10Tab)] := by kernel_rfl
  rw [e] at h1
  exact Lib.tabIs_of_head (rest := []) ratReckons_g ratReckons_gt Tryz.underlying134 Tryz.underlying86 ratReckons_ce ratReckons_ca h1

set_option maxRecDepth 100000 in
theorem ratReckons_contract (H : Type) (enc : TypeId × Value → H) (W : World) (base : Nat) (args : Array Value) (ds gs : List (DataW H)) (before : List MemPlace)
    (hval : ∀ (j : Nat) t v, Tryz.f3.params[j]? = some t → args[j]? = some v → Value.okWide Tryz.prog W .any base t v)
    (hW : DataW.Whole enc Tryz.prog Tryz.f3.params.toList Rows.ratReckonsSpec.vars false W args.toList ds gs before) (hL : laidMetH Tryz.prog Rows.ratReckonsRow.laid W) :
    Calls Tryz.prog 3 args W fun e W' => ∃ v, e = .returned v ∧ Rows.ratReckonsSpec.post enc Tryz.prog Tryz.f3 false true false false W args v W' := by
  have hW' := hW
  obtain ⟨p, q, hA0, hV, rfl, hfz, hnd⟩ := hW
  have hA : DataW.TrodAll enc Tryz.prog W 0 (fun _ => true) true Tryz.f3.params.toList args.toList ds p := hA0
  rw [Tryz.params3] at hA hval
  obtain ⟨v0, vs0, d0, ds0, p0, q0, hargs, rfl, rfl, h0, r0⟩ := trodAll_cons hA
  obtain ⟨v1, vs1, d1, ds1, p1, q1, rfl, rfl, rfl, h1, r1⟩ := trodAll_cons r0
  obtain ⟨v2, vs2, d2, ds2, p2, q2, rfl, rfl, rfl, h2, r2⟩ := trodAll_cons r1
  obtain ⟨v3, vs3, d3, ds3, p3, q3, rfl, rfl, rfl, h3, r3⟩ := trodAll_cons r2
  obtain ⟨rfl, rfl, rfl⟩ := trodAll_nil r3
  obtain rfl : args = #[v0, v1, v2, v3] := by cases args; simp_all
  obtain ⟨rfl, rfl⟩ := trodVars_none hV
  obtain ⟨s0, rfl, rfl, rfl, w0⟩ := open_string Tryz.underlying9 (hval 0 9 v0 rfl rfl) h0
  obtain ⟨s1, rfl, rfl, rfl, w1⟩ := open_string Tryz.underlying9 (hval 1 9 v1 rfl rfl) h1
  obtain ⟨s2, rfl, rfl, rfl, w2⟩ := open_string Tryz.underlying9 (hval 2 9 v2 rfl rfl) h2
  obtain ⟨s3, rfl, rfl, rfl, w3⟩ := open_string Tryz.underlying9 (hval 3 9 v3 rfl rfl) h3
  clear hA0 hargs
  simp only [List.append_nil] at hW'
  have m0 : s0.size ≤ 9223372036854775807 := by unfold maxLen at w0; omega
  have m1 : s1.size ≤ 9223372036854775807 := by unfold maxLen at w1; omega
  have m2 : s2.size ≤ 9223372036854775807 := by unfold maxLen at w2; omega
  have m3 : s3.size ≤ 9223372036854775807 := by unfold maxLen at w3; omega
  refine (ratreck_walk s0 s1 s2 s3 W (ratReckons_table hL) (fac m0 (fac m1 (fac m2 (fac m3 fan))))).mono fun e W' ⟨he, hnx⟩ => ?_
  subst he
  refine ⟨_, rfl, _, _, _, [], [], [], hW', ?_, ?_, rfl, hnx.frame _, fun h => by cases h⟩
  · exact trodAll_cons_mk (shut_bool Tryz.underlying4 _) trodAll_mk0
  · exact (trodAll_cons_mk (shut_string Tryz.underlying9 w0) (trodAll_cons_mk (shut_string Tryz.underlying9 w1) (trodAll_cons_mk (shut_string Tryz.underlying9 w2) (trodAll_cons_mk (shut_string Tryz.underlying9 w3) trodAll_mk0))))

def ratReckons_put (cs : Array Value) : Obj → Obj
  | .cells _ t frozen => .cells cs t frozen
  | o => o
theorem ratReckons_met (os : Os) : laidMet Tryz.prog Rows.ratReckonsRow.laid (({ World.holding Tryz.prog os ⟨#[], #[], []⟩ with heap := (((World.holding Tryz.prog os ⟨#[], #[], []⟩).heap.modify 0 (ratReckons_put #[.int .u64 1, .int .u64 10, .int .u64 100, .int .u64 1000, .int .u64 10000, .int .u64 100000, .int .u64 1000000, .int .u64 10000000, .int .u64 100000000, .int .u64 1000000000, .int .u64 10000000000, .int .u64 100000000000, .int .u64 1000000000000, .int .u64 10000000000000, .int .u64 100000000000000, .int .u64 1000000000000000, .int .u64 10000000000000000, .int .u64 100000000000000000, .int .u64 1000000000000000000, .int .u64 10000000000000000000])).modify 1 (ratReckons_put #[.int .u8 0, .int .u8 1, .int .u8 28, .int .u8 2, .int .u8 29, .int .u8 14, .int .u8 24, .int .u8 3, .int .u8 30, .int .u8 22, .int .u8 20, .int .u8 15, .int .u8 25, .int .u8 17, .int .u8 4, .int .u8 8, .int .u8 31, .int .u8 27, .int .u8 13, .int .u8 23, .int .u8 21, .int .u8 19, .int .u8 16, .int .u8 7, .int .u8 26, .int .u8 12, .int .u8 18, .int .u8 6, .int .u8 11, .int .u8 5, .int .u8 10, .int .u8 9])).modify 2 (ratReckons_put #[.int .u8 0, .int .u8 1, .int .u8 56, .int .u8 2, .int .u8 57, .int .u8 49, .int .u8 28, .int .u8 3, .int .u8 61, .int .u8 58, .int .u8 42, .int .u8 50, .int .u8 38, .int .u8 29, .int .u8 17, .int .u8 4, .int .u8 62, .int .u8 47, .int .u8 59, .int .u8 36, .int .u8 45, .int .u8 43, .int .u8 51, .int .u8 22, .int .u8 53, .int .u8 39, .int .u8 33, .int .u8 30, .int .u8 24, .int .u8 18, .int .u8 12, .int .u8 5, .int .u8 63, .int .u8 55, .int .u8 48, .int .u8 27, .int .u8 60, .int .u8 41, .int .u8 37, .int .u8 16, .int .u8 46, .int .u8 35, .int .u8 44, .int .u8 21, .int .u8 52, .int .u8 32, .int .u8 23, .int .u8 11, .int .u8 54, .int .u8 26, .int .u8 40, .int .u8 15, .int .u8 34, .int .u8 20, .int .u8 31, .int .u8 10, .int .u8 25, .int .u8 14, .int .u8 19, .int .u8 9, .int .u8 13, .int .u8 8, .int .u8 7, .int .u8 6]) } : World).forCall (fun _ _ => 0) ⟨#[], #[.string ⟨#[]⟩, .string ⟨#[]⟩, .string ⟨#[]⟩, .string ⟨#[]⟩], []⟩).memory :=
  laidMet_of_run' 8 (by kernel_rfl) (by kernel_rfl)
theorem ratReckons_reads (os : Os) {H : Type} (enc : TypeId × Value → H) : ∃ places, DataW.whole enc Tryz.prog (({ World.holding Tryz.prog os ⟨#[], #[], []⟩ with heap := (((World.holding Tryz.prog os ⟨#[], #[], []⟩).heap.modify 0 (ratReckons_put #[.int .u64 1, .int .u64 10, .int .u64 100, .int .u64 1000, .int .u64 10000, .int .u64 100000, .int .u64 1000000, .int .u64 10000000, .int .u64 100000000, .int .u64 1000000000, .int .u64 10000000000, .int .u64 100000000000, .int .u64 1000000000000, .int .u64 10000000000000, .int .u64 100000000000000, .int .u64 1000000000000000, .int .u64 10000000000000000, .int .u64 100000000000000000, .int .u64 1000000000000000000, .int .u64 10000000000000000000])).modify 1 (ratReckons_put #[.int .u8 0, .int .u8 1, .int .u8 28, .int .u8 2, .int .u8 29, .int .u8 14, .int .u8 24, .int .u8 3, .int .u8 30, .int .u8 22, .int .u8 20, .int .u8 15, .int .u8 25, .int .u8 17, .int .u8 4, .int .u8 8, .int .u8 31, .int .u8 27, .int .u8 13, .int .u8 23, .int .u8 21, .int .u8 19, .int .u8 16, .int .u8 7, .int .u8 26, .int .u8 12, .int .u8 18, .int .u8 6, .int .u8 11, .int .u8 5, .int .u8 10, .int .u8 9])).modify 2 (ratReckons_put #[.int .u8 0, .int .u8 1, .int .u8 56, .int .u8 2, .int .u8 57, .int .u8 49, .int .u8 28, .int .u8 3, .int .u8 61, .int .u8 58, .int .u8 42, .int .u8 50, .int .u8 38, .int .u8 29, .int .u8 17, .int .u8 4, .int .u8 62, .int .u8 47, .int .u8 59, .int .u8 36, .int .u8 45, .int .u8 43, .int .u8 51, .int .u8 22, .int .u8 53, .int .u8 39, .int .u8 33, .int .u8 30, .int .u8 24, .int .u8 18, .int .u8 12, .int .u8 5, .int .u8 63, .int .u8 55, .int .u8 48, .int .u8 27, .int .u8 60, .int .u8 41, .int .u8 37, .int .u8 16, .int .u8 46, .int .u8 35, .int .u8 44, .int .u8 21, .int .u8 52, .int .u8 32, .int .u8 23, .int .u8 11, .int .u8 54, .int .u8 26, .int .u8 40, .int .u8 15, .int .u8 34, .int .u8 20, .int .u8 31, .int .u8 10, .int .u8 25, .int .u8 14, .int .u8 19, .int .u8 9, .int .u8 13, .int .u8 8, .int .u8 7, .int .u8 6]) } : World).forCall (fun _ _ => 0) ⟨#[], #[.string ⟨#[]⟩, .string ⟨#[]⟩, .string ⟨#[]⟩, .string ⟨#[]⟩], []⟩).memory Tryz.f3.params.toList Rows.ratReckonsSpec.vars false #[Value.string ⟨#[]⟩, Value.string ⟨#[]⟩, Value.string ⟨#[]⟩, Value.string ⟨#[]⟩].toList 8 = some ([.lit (.string []), .lit (.string []), .lit (.string []), .lit (.string [])], [], places) :=
  ⟨[], by kernel_rfl⟩

set_option maxRecDepth 100000 in
theorem ratReckons_lifted (os : Os) (started : os.Started) (H : Type) (enc : TypeId × Value → H) (F : Stop.Interp) :
    ReturnsInHanded {} Tryz.checked os 3 .any ((OpenSpec.ofChange Rows.ratReckonsSpec).preRow enc Tryz.prog Tryz.f3 Rows.ratReckonsRow.domain false Rows.ratReckonsRow.laid) (((OpenSpec.ofChange Rows.ratReckonsSpec).at F).post enc Tryz.prog Tryz.f3 false true false false) := by
  obtain ⟨places, hx⟩ := ratReckons_reads os enc
  refine returnsInHanded_of_row (C := Tryz.checked) (s := OpenSpec.ofChange Rows.ratReckonsSpec) ratReckons_own started (by kernel_rfl) Tryz.func3
    (witness_row_at (enc := enc) (C := Tryz.checked) false ({ World.holding Tryz.prog os ⟨#[], #[], []⟩ with heap := (((World.holding Tryz.prog os ⟨#[], #[], []⟩).heap.modify 0 (ratReckons_put #[.int .u64 1, .int .u64 10, .int .u64 100, .int .u64 1000, .int .u64 10000, .int .u64 100000, .int .u64 1000000, .int .u64 10000000, .int .u64 100000000, .int .u64 1000000000, .int .u64 10000000000, .int .u64 100000000000, .int .u64 1000000000000, .int .u64 10000000000000, .int .u64 100000000000000, .int .u64 1000000000000000, .int .u64 10000000000000000, .int .u64 100000000000000000, .int .u64 1000000000000000000, .int .u64 10000000000000000000])).modify 1 (ratReckons_put #[.int .u8 0, .int .u8 1, .int .u8 28, .int .u8 2, .int .u8 29, .int .u8 14, .int .u8 24, .int .u8 3, .int .u8 30, .int .u8 22, .int .u8 20, .int .u8 15, .int .u8 25, .int .u8 17, .int .u8 4, .int .u8 8, .int .u8 31, .int .u8 27, .int .u8 13, .int .u8 23, .int .u8 21, .int .u8 19, .int .u8 16, .int .u8 7, .int .u8 26, .int .u8 12, .int .u8 18, .int .u8 6, .int .u8 11, .int .u8 5, .int .u8 10, .int .u8 9])).modify 2 (ratReckons_put #[.int .u8 0, .int .u8 1, .int .u8 56, .int .u8 2, .int .u8 57, .int .u8 49, .int .u8 28, .int .u8 3, .int .u8 61, .int .u8 58, .int .u8 42, .int .u8 50, .int .u8 38, .int .u8 29, .int .u8 17, .int .u8 4, .int .u8 62, .int .u8 47, .int .u8 59, .int .u8 36, .int .u8 45, .int .u8 43, .int .u8 51, .int .u8 22, .int .u8 53, .int .u8 39, .int .u8 33, .int .u8 30, .int .u8 24, .int .u8 18, .int .u8 12, .int .u8 5, .int .u8 63, .int .u8 55, .int .u8 48, .int .u8 27, .int .u8 60, .int .u8 41, .int .u8 37, .int .u8 16, .int .u8 46, .int .u8 35, .int .u8 44, .int .u8 21, .int .u8 52, .int .u8 32, .int .u8 23, .int .u8 11, .int .u8 54, .int .u8 26, .int .u8 40, .int .u8 15, .int .u8 34, .int .u8 20, .int .u8 31, .int .u8 10, .int .u8 25, .int .u8 14, .int .u8 19, .int .u8 9, .int .u8 13, .int .u8 8, .int .u8 7, .int .u8 6]) } : World) #[.string ⟨#[]⟩, .string ⟨#[]⟩, .string ⟨#[]⟩, .string ⟨#[]⟩] rfl (by kernel_rfl) (by kernel_rfl) (by kernel_rfl)
      (OpenSpec.preRow_of_cond 8 hx (by kernel_rfl) (fun k hk => by cases hk) (by kernel_rfl) (ratReckons_met os))) ?_
  intro W base args ds gs before hval hW _ _ _ hL _ _
  exact ratReckons_contract H enc W base args ds gs before hval hW hL

theorem ratReckons_said : Rows.RatReckonsSaid :=
  OpenClaim.holds_of_cond 3 Tryz.f3 rfl rfl rfl rfl rfl rfl rfl ⟨rfl, rfl, rfl, rfl, rfl⟩ rfl rfl rfl rfl rfl (by kernel_rfl) Tryz.func3 (by kernel_rfl)
    (of_decide_eq_true (by kernel_rfl)) (by unfold Func.isWrapper; first | (rw [if_pos (by decide +kernel)]; kernel_rfl) | (rw [if_neg (by decide +kernel)]; exact ⟨rfl, rfl⟩))
    (fun os started H enc _ F => by rw [OpenClaim.pre_eq_preRow]; exact ratReckons_lifted os started H enc F)

theorem ratReckons_plain (f : FuncId) (fn : Func) (hf : Tryz.pinned.checked.prog.funcNamed "avow/avowlaw2.RatReckons" = some f) (hfn : Tryz.pinned.checked.prog.funcs[f]? = some fn) :
    false = Tryz.pinned.checked.prog.looks [] ∧ ∀ (j : Nat) t, fn.params[j]? = some t → Tryz.pinned.checked.prog.wantsStandIn t = false := by
  obtain rfl : f = 3 := Option.some.inj ((show Tryz.prog.funcNamed "avow/avowlaw2.RatReckons" = some 3 by kernel_rfl).symm.trans hf) |>.symm
  obtain rfl : fn = Tryz.f3 := (Option.some.inj (Tryz.func3.symm.trans hfn)).symm
  refine ⟨by kernel_rfl, fun j t ht => ?_⟩
  rw [Tryz.params3] at ht
  obtain rfl : t = 9 := by simpa using Array.mem_of_getElem? ht
  exact (show Tryz.prog.wantsStandIn 9 = false by kernel_rfl)

theorem ratReckons_holds : Rows.RatReckonsCardSaid :=
  Claim7.holds_tied_plain_at .later [] _ _ _ _ ratReckons_said (fun _ h => by cases h) (by kernel_rfl) (fun _ h => by cases h) ratReckons_row_tie rfl ⟨rfl, rfl⟩ (by kernel_rfl) rfl ratReckons_plain (by kernel_rfl)

end Go.Proofs.YtlcfldkmojpkpaaGreatDoor
