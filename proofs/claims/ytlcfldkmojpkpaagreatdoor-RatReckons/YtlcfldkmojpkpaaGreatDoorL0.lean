/- Bounds and plain facts for the laws' walks. -/
import Derived.Test.YtlcfldkmojpkpaaGreatDoorT1
namespace Go.Proofs.YtlcfldkmojpkpaaGreatDoor
open Go.RowKit

theorem big_pw {z : Int} (h : (z.natAbs : Int) < pw 40) : (z.natAbs : Int) < pw 4000 := Int.lt_of_lt_of_le h (pw_mono (by omega))
theorem pw_up {z : Int} (h : (z.natAbs : Int) < pw (40 + 40)) : (z.natAbs : Int) < pw 4000 := Int.lt_of_lt_of_le h (pw_mono (by omega))
theorem mul_lt {y z : Int} {a b : Nat} (h : (y.natAbs : Int) < pw a) (k : (z.natAbs : Int) < pw b) : ((y * z).natAbs : Int) < pw (a + b) := by
  rw [Int.natAbs_mul, pw_add, Int.natCast_mul]
  have h1 : (y.natAbs : Int) * (z.natAbs : Int) ≤ (y.natAbs : Int) * pw b := Int.mul_le_mul_of_nonneg_left (Int.le_of_lt k) (by omega)
  have h2 : (y.natAbs : Int) * pw b < pw a * pw b := Int.mul_lt_mul_of_pos_right h (pw_pos b)
  omega

theorem cmp_zero (va vb : Value) (za zb : Int) (w : World) (hA : IsI w va za) (hB : IsI w vb zb) (hza : (za.natAbs : Int) < pw 4000) (hzb : (zb.natAbs : Int) < pw 4000) (h : za = zb) :
    Calls Tryz.prog 52 #[va, vb] w fun e w' => e = .returned (.int .i64 0) ∧ Below w.heap.size w w' := by
  have := cmp_any va vb za zb w hA hB hza hzb
  rwa [cmpI_eq h] at this
theorem gcd_mod (a b : Int) : Int.gcd b (a % b) = Int.gcd a b := by
  rw [Int.emod_def, Int.gcd_comm a b]
  have : a - b * (a / b) = a + (-(a / b)) * b := by grind
  rw [this]
  exact Int.gcd_add_mul_right_right b a (-(a / b))
theorem gcd_mulr (a b c : Int) : (Int.gcd (a * c) (b * c) : Int) = (Int.gcd a b : Int) * (c.natAbs : Int) := by
  rw [Int.gcd_mul_right]; exact Int.natCast_mul (a.gcd b) c.natAbs
theorem gcd_zz (a : Int) : Int.gcd a 0 = Int.gcd a a := by simp
theorem gcd_pw {y z : Int} {k : Nat} (h : (y.natAbs : Int) < pw k) (h2 : (z.natAbs : Int) < pw k) : (((Int.gcd y z : Int).natAbs : Nat) : Int) < pw k := by
  rw [Int.natAbs_natCast]
  by_cases e : y = 0
  · subst e; simpa using h2
  · have : Int.gcd y z ≤ y.natAbs := Nat.gcd_le_left _ (by omega)
    omega
theorem abs_pw {z : Int} {k : Nat} (h : (z.natAbs : Int) < pw k) : ((((z.natAbs : Int)).natAbs : Nat) : Int) < pw k := by rwa [Int.natAbs_natCast]
theorem neg_pw {z : Int} {k : Nat} (h : (z.natAbs : Int) < pw k) : (((-z).natAbs : Nat) : Int) < pw k := by rwa [Int.natAbs_neg]
theorem mod_pw {y z : Int} {k : Nat} (h : (y.natAbs : Int) < pw k) (h2 : (z.natAbs : Int) < pw k) : (((y % z).natAbs : Nat) : Int) < pw k := by
  by_cases e : z = 0
  · subst e; simpa using h
  · have h3 := Int.emod_nonneg y e
    have h4 := Int.emod_lt y e
    omega


end Go.Proofs.YtlcfldkmojpkpaaGreatDoor
