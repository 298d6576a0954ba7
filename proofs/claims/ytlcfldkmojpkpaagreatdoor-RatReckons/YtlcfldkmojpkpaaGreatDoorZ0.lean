/- Plain facts on the division of the school. No program. -/
import Derived.Test.YtlcfldkmojpkpaaGreatDoorM
namespace Go.Proofs.YtlcfldkmojpkpaaGreatDoor

theorem pw_succ (k : Nat) : pw (k + 1) = 1000000000 * pw k := rfl
theorem ql_split (R : List Int) (i m : Nat) (h : i + m + 1 ≤ R.length) : val R = val (R.take i) + pw i * (val ((R.drop i).take (m + 1)) + pw (m + 1) * val (R.drop (i + m + 1))) := by
  have e1 := val_append (R.take i) (R.drop i)
  rw [List.take_append_drop, List.length_take, Nat.min_eq_left (by omega)] at e1
  have e2 := val_append ((R.drop i).take (m + 1)) ((R.drop i).drop (m + 1))
  rw [List.take_append_drop, List.length_take, List.length_drop, Nat.min_eq_left (by omega), List.drop_drop] at e2
  rw [e1, e2, show i + (m + 1) = i + m + 1 by omega]
theorem lt_of_mul {a b p : Int} (hp : 0 < p) (h : p * a < p * b) : a < b := Int.lt_of_mul_lt_mul_left h (Int.le_of_lt hp)
theorem ql_zero {R : List Int} {i m : Nat} {V : Int} (hR : Dig R) (h : i + m + 1 ≤ R.length) (hV : V < pw m) (hlt : val R < V * pw (i + 1)) : val (R.drop (i + m + 1)) = 0 ∧ val ((R.drop i).take (m + 1)) < 1000000000 * V := by
  have e := ql_split R i m h
  have h0 := val_nonneg (hR.take i)
  have h1 := val_nonneg ((hR.drop i).take (m + 1))
  have h2 := val_nonneg (hR.drop (i + m + 1))
  have hp := pw_pos i
  have hpm := pw_pos (m + 1)
  have e3 : V * pw (i + 1) = pw i * (1000000000 * V) := by rw [pw_succ]; grind
  have k : val ((R.drop i).take (m + 1)) + pw (m + 1) * val (R.drop (i + m + 1)) < 1000000000 * V := lt_of_mul hp (by omega)
  have h3 : 0 ≤ pw (m + 1) * val (R.drop (i + m + 1)) := Int.mul_nonneg (Int.le_of_lt hpm) h2
  refine ⟨?_, by omega⟩
  have k2 : pw (m + 1) * val (R.drop (i + m + 1)) < pw (m + 1) * 1 := by
    rw [pw_succ] at *
    omega
  have := lt_of_mul hpm k2
  omega
theorem ql_alg {a p zs q V Q pm : Int} : a + p * zs + V * (p * (q + 1000000000 * Q)) = a + p * (zs + q * V + pm * 0) + V * (1000000000 * p * Q) := by grind
theorem ql_step {R zs Q : List Int} {i m : Nat} {V S q : Int} (hR : Dig R) (hl : i + m + 1 ≤ R.length) (hV : V < pw m) (hlt : val R < V * pw (i + 1)) (hS : val R + V * (pw (i + 1) * val Q) = S) (hz : zs.length = m + 1) (e : val zs + q * V = val ((R.drop i).take (m + 1))) (hzV : val zs < V) :
    val (R.take i ++ (zs ++ R.drop (i + m + 1))) < V * pw i ∧ val (R.take i ++ (zs ++ R.drop (i + m + 1))) + V * (pw i * val (q :: Q)) = S := by
  have e0 := ql_split R i m hl
  obtain ⟨z, _⟩ := ql_zero hR hl hV hlt
  have e1 : val (R.take i ++ (zs ++ R.drop (i + m + 1))) = val (R.take i) + pw i * val zs := by
    rw [val_append, val_append, z, List.length_take, Nat.min_eq_left (by omega)]
    simp
  rw [e1]
  have h0 := val_nonneg (hR.take i)
  have h1 := val_lt (hR.take i)
  rw [List.length_take, Nat.min_eq_left (by omega)] at h1
  have hp := pw_pos i
  constructor
  · have := Int.mul_le_mul_of_nonneg_left (show val zs + 1 ≤ V by omega) (Int.le_of_lt hp)
    have e2 : pw i * (val zs + 1) = pw i * val zs + pw i := by grind
    have e3 : pw i * V = V * pw i := Int.mul_comm _ _
    omega
  · rw [← hS, e0, z, ← e, pw_succ]
    exact ql_alg
/-- The digit, where nothing was borrowed. -/
theorem ql_dig1 {P V d c p z : Int} (e : z = P - d * V + p * c) (hc : c = 0) (hg : P < (d + 1) * V) : z + d * V = P ∧ z < V := by
  subst hc
  have : (d + 1) * V = d * V + V := by grind
  omega
/-- .. where it was one too great. -/
theorem ql_dig2 {P V d c p z z2 c2 : Int} (e : z = P - d * V + p * c) (hc : 0 < c) (hz1 : z < p) (hg : d * V ≤ P + V) (e2 : z2 + p * c2 = z + V) (h0 : 0 ≤ z2) (h1 : z2 < p) (hVp : V ≤ p) (hp : 0 < p) : z2 + (d - 1) * V = P ∧ z2 < V := by
  have e3 : (d - 1) * V = d * V - V := by grind
  have k1 : p * 1 ≤ p * c := Int.mul_le_mul_of_nonneg_left (by omega) (Int.le_of_lt hp)
  have e4 : z2 = P - d * V + V + p * (c - c2) := by
    have : p * (c - c2) = p * c - p * c2 := by grind
    omega
  have k2 : p * (c - c2) < p * 1 := by omega
  have k3 : p * (c2 - c) < p * 1 := by
    have : p * (c2 - c) = - (p * (c - c2)) := by grind
    omega
  have l2 := lt_of_mul hp k2
  have l3 := lt_of_mul hp k3
  have : c - c2 = 0 := by omega
  rw [this] at e4
  omega
/-- The beginning: what is scaled is below the scaled divisor, moved up. -/
theorem ql_start {xs ys : List Int} {s : Int} (hx : Dig xs) (hy : Dig ys) (hn : Norm ys) (hne : ys ≠ []) (hl : ys.length ≤ xs.length) (s0 : 0 < s) : s * val xs < s * val ys * pw (xs.length - ys.length + 1) := by
  have h1 := val_lt hx
  have h2 := le_val hy hn hne
  have hlp := List.length_pos_iff.2 hne
  have e : pw xs.length = pw (ys.length - 1) * pw (xs.length - ys.length + 1) := by rw [← pw_add]; congr 1; omega
  have h3 := Int.mul_le_mul_of_nonneg_right h2 (Int.le_of_lt (pw_pos (xs.length - ys.length + 1)))
  rw [Int.mul_assoc]
  exact Int.mul_lt_mul_of_pos_left (by omega) s0
/-- The top digit of the scaled divisor is at least half the base. -/
theorem ql_top {zs : List Int} {n : Nat} {t s V : Int} (hz : Dig zs) (hl : zs.length = n) (hn : 0 < n) (t0 : 0 ≤ t) (t1 : t < 1000000000) (hs : s = 1000000000 / (t + 1)) (hV : t * pw (n - 1) ≤ V) (e : val zs = s * V) (ht : 0 < t) : 500000000 ≤ zs[n - 1]?.getD 0 := by
  have h1 := val_take_succ' zs (n - 1)
  rw [show n - 1 + 1 = n by omega, List.take_of_length_le (by omega), e] at h1
  have h2 := val_lt (hz.take (n - 1))
  rw [List.length_take, Nat.min_eq_left (by omega)] at h2
  obtain ⟨d, hd, d0, d1⟩ := hz.get (n - 1)
  rw [hd] at h1 ⊢
  have hp := pw_pos (n - 1)
  have hs1 : s * (t + 1) ≤ 1000000000 := by rw [hs]; exact Int.ediv_mul_le _ (by omega)
  have hs2 : 1000000000 < (s + 1) * (t + 1) := by
    have := Int.lt_ediv_add_one_mul_self 1000000000 (show 0 < t + 1 by omega)
    rw [hs]; exact this
  have hs0 : 0 ≤ s := by rw [hs]; exact Int.ediv_nonneg (by omega) (by omega)
  have hst : 500000000 ≤ s * t := by
    have e1 : s * (t + 1) = s * t + s := by grind
    have e2 : (s + 1) * (t + 1) = s * t + s + t + 1 := by grind
    by_cases h : s ≤ 1
    · by_cases h' : s = 0
      · subst h'; omega
      · obtain rfl : s = 1 := by omega
        omega
    · have h3 : 2 * t ≤ s * t := Int.mul_le_mul_of_nonneg_right (by omega) t0
      have h4 : s * 1 ≤ s * t := Int.mul_le_mul_of_nonneg_left (by omega) hs0
      by_cases h5 : t = 1
      · subst h5; omega
      · have h6 : s * 2 ≤ s * t := Int.mul_le_mul_of_nonneg_left (by omega) hs0
        omega
  have h7 := Int.mul_le_mul_of_nonneg_left hV hs0
  have h8 := Int.mul_le_mul_of_nonneg_right hst (Int.le_of_lt hp)
  have e3 : s * (t * pw (n - 1)) = s * t * pw (n - 1) := by grind
  have h9 : pw (n - 1) * 500000000 < pw (n - 1) * (d + 1) := by
    have : pw (n - 1) * (d + 1) = pw (n - 1) * d + pw (n - 1) := by grind
    omega
  have := lt_of_mul hp h9
  omega
/-- The end: what is left, scaled back. -/
theorem ql_end {R Q s X Y z r : Int} (s0 : 0 < s) (hS : R + s * Y * Q = s * X) (hlt : R < s * Y) (e : z * s + r = R) (r0 : 0 ≤ r) (r1 : r < s) : Q * Y + z = X ∧ z < Y := by
  have h1 : s * (X - Y * Q - z) = r := by grind
  have h2 : X - Y * Q - z = 0 := by
    have a : s * (X - Y * Q - z) < s * 1 := by omega
    have b : s * (-1) < s * (X - Y * Q - z) := by omega
    have := lt_of_mul s0 a
    have := lt_of_mul s0 b
    omega
  rw [h2] at h1
  have h3 : s * z < s * Y := by grind
  exact ⟨by grind, lt_of_mul s0 h3⟩

/-- The scaled divisor has no more digits than the divisor. -/
theorem ql_by {ys zs : List Int} {n : Nat} {t s : Int} (hy : Dig ys) (hl : ys.length = n) (hn : 0 < n) (ht : ys[n - 1]?.getD 0 = t) (t0 : 0 < t) (hs : s = 1000000000 / (t + 1)) (s0 : 0 < s) (hz : Dig zs) (hzl : zs.length = n + 1) (e : val zs = s * val ys) :
    val (zs.take n) = s * val ys ∧ s * val ys < pw n ∧ t * pw (n - 1) ≤ val ys := by
  have h1 := val_take_succ' ys (n - 1)
  rw [show n - 1 + 1 = n by omega, List.take_of_length_le (by omega), ht] at h1
  have h2 := val_lt (hy.take (n - 1))
  have h3 := val_nonneg (hy.take (n - 1))
  rw [List.length_take, Nat.min_eq_left (by omega)] at h2
  have hp := pw_pos (n - 1)
  have hpn : pw n = 1000000000 * pw (n - 1) := by
    rw [show n = (n - 1) + 1 by omega]; rfl
  have hs1 : s * (t + 1) ≤ 1000000000 := by rw [hs]; exact Int.ediv_mul_le _ (by omega)
  have h4 : val ys < (t + 1) * pw (n - 1) := by
    have : (t + 1) * pw (n - 1) = pw (n - 1) * t + pw (n - 1) := by grind
    omega
  have h5 := Int.mul_lt_mul_of_pos_left h4 s0
  have h6 := Int.mul_le_mul_of_nonneg_right hs1 (Int.le_of_lt hp)
  have e1 : s * ((t + 1) * pw (n - 1)) = s * (t + 1) * pw (n - 1) := by grind
  have hlt : s * val ys < pw n := by omega
  refine ⟨?_, hlt, ?_⟩
  · have k1 := val_take_succ' zs n
    rw [List.take_of_length_le (by omega), e] at k1
    obtain ⟨d, hd, d0, d1⟩ := hz.get n
    rw [hd] at k1
    have k2 := val_nonneg (hz.take n)
    by_cases hd0 : d = 0
    · subst hd0
      simp at k1
      omega
    · have k3 := Int.mul_le_mul_of_nonneg_left (show (1 : Int) ≤ d by omega) (Int.le_of_lt (pw_pos n))
      omega
  · have : t * pw (n - 1) = pw (n - 1) * t := Int.mul_comm _ _
    omega

end Go.Proofs.YtlcfldkmojpkpaaGreatDoor
