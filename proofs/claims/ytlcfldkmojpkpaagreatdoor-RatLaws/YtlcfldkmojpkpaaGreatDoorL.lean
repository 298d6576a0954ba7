/- The walk of math/bits.Mul64. -/
import Derived.Test.YtlcfldkmojpkpaaGreatDoorA
namespace Go.Proofs.YtlcfldkmojpkpaaGreatDoor
open Go.RowKit

theorem and_low (a : Int) (h1 : 0 ≤ a) (h2 : a < 18446744073709551616) : bits .and .u64 a 4294967295 = a % 4294967296 := by
  rw [u64_and a 4294967295 h1 h2 (by omega) (by omega)]
  have h : a.toNat &&& (2 ^ 32 - 1) = a.toNat % 2 ^ 32 := Nat.and_two_pow_sub_one_eq_mod _ _
  have e : (4294967295 : Int).toNat = 2 ^ 32 - 1 := by decide
  rw [e, h]
  omega
theorem mul_bd32 {a b : Int} (a0 : 0 ≤ a) (a1 : a ≤ 4294967295) (b0 : 0 ≤ b) (b1 : b ≤ 4294967295) : 0 ≤ a * b ∧ a * b ≤ 18446744065119617025 := by
  refine ⟨Int.mul_nonneg a0 b0, ?_⟩
  have h1 := Int.mul_le_mul_of_nonneg_left b1 a0
  omega
theorem mul_parts (x y : Int) : x * y = (x / 4294967296) * (y / 4294967296) * 18446744073709551616 + ((x / 4294967296) * (y % 4294967296) + (x % 4294967296) * (y / 4294967296)) * 4294967296 + (x % 4294967296) * (y % 4294967296) := by
  have hx : x = x / 4294967296 * 4294967296 + x % 4294967296 := by omega
  have hy : y = y / 4294967296 * 4294967296 + y % 4294967296 := by omega
  generalize x / 4294967296 = b at *
  generalize x % 4294967296 = a at *
  generalize y / 4294967296 = d at *
  generalize y % 4294967296 = c at *
  subst hx hy
  have e1 : (b * 4294967296 + a) * (d * 4294967296 + c) = b * 4294967296 * (d * 4294967296) + b * 4294967296 * c + (a * (d * 4294967296) + a * c) := by rw [Int.add_mul, Int.mul_add, Int.mul_add]
  have e2 : b * 4294967296 * (d * 4294967296) = b * d * 18446744073709551616 := by
    rw [Int.mul_assoc b, ← Int.mul_assoc 4294967296 d, Int.mul_comm 4294967296 d, Int.mul_assoc d, ← Int.mul_assoc b]; rfl
  have e3 : b * 4294967296 * c = b * c * 4294967296 := by rw [Int.mul_assoc, Int.mul_comm 4294967296 c, ← Int.mul_assoc]
  have e4 : a * (d * 4294967296) = a * d * 4294967296 := by rw [← Int.mul_assoc]
  rw [e1, e2, e3, e4, Int.add_mul]
  omega
/-- The high word, as the library reckons it. -/
theorem hi_word (P Q R S : Int) (p0 : 0 ≤ P) (p1 : P ≤ 18446744065119617025) (q0 : 0 ≤ Q) (q1 : Q ≤ 18446744065119617025) (r0 : 0 ≤ R) (r1 : R ≤ 18446744065119617025) (s0 : 0 ≤ S) (s1 : S ≤ 18446744065119617025) (hX : P * 18446744073709551616 + (Q + R) * 4294967296 + S < 340282366920938463463374607431768211456) :
    ((P % 18446744073709551616 + (Q % 18446744073709551616 + S % 18446744073709551616 / 4294967296) % 18446744073709551616 / 4294967296) % 18446744073709551616 + (((Q % 18446744073709551616 + S % 18446744073709551616 / 4294967296) % 18446744073709551616 % 4294967296 + R % 18446744073709551616) % 18446744073709551616) / 4294967296) % 18446744073709551616
      = (P * 18446744073709551616 + (Q + R) * 4294967296 + S) / 18446744073709551616 := by omega

set_option maxHeartbeats 800000 in
theorem mul64_any (x y : Int) (w : World) (x0 : 0 ≤ x) (x1 : x < 18446744073709551616) (y0 : 0 ≤ y) (y1 : y < 18446744073709551616) :
    Calls Tryz.prog 73 #[.int .u64 x, .int .u64 y] w fun e w' => e = .returned (.tuple #[.int .u64 (x * y / 18446744073709551616), .int .u64 (x * y % 18446744073709551616)]) ∧ w' = w := by
  have hm := hide (mul_parts x y)
  obtain ⟨p0, p1⟩ := mul_bd32 (a := x / 4294967296) (b := y / 4294967296) (by omega) (by omega) (by omega) (by omega)
  obtain ⟨q0, q1⟩ := mul_bd32 (a := x / 4294967296) (b := y % 4294967296) (by omega) (by omega) (by omega) (by omega)
  obtain ⟨r0, r1⟩ := mul_bd32 (a := x % 4294967296) (b := y / 4294967296) (by omega) (by omega) (by omega) (by omega)
  obtain ⟨s0, s1⟩ := mul_bd32 (a := x % 4294967296) (b := y % 4294967296) (by omega) (by omega) (by omega) (by omega)
  have HB : Hid ((0 ≤ x / 4294967296 * (y / 4294967296) ∧ x / 4294967296 * (y / 4294967296) ≤ 18446744065119617025) ∧ (0 ≤ x / 4294967296 * (y % 4294967296) ∧ x / 4294967296 * (y % 4294967296) ≤ 18446744065119617025) ∧ (0 ≤ x % 4294967296 * (y / 4294967296) ∧ x % 4294967296 * (y / 4294967296) ≤ 18446744065119617025) ∧ (0 ≤ x % 4294967296 * (y % 4294967296) ∧ x % 4294967296 * (y % 4294967296) ≤ 18446744065119617025)) := ⟨⟨p0, p1⟩, ⟨q0, q1⟩, ⟨r0, r1⟩, ⟨s0, s1⟩⟩
  clear p0 p1 q0 q1 r0 r1 s0 s1
  go_enter Tryz.func73, Tryz.ntmps73
  go_wp2
  go_ret2
  refine ⟨?_, rfl⟩
  obtain ⟨⟨p0, p1⟩, ⟨q0, q1⟩, ⟨r0, r1⟩, ⟨s0, s1⟩⟩ := unhide HB
  have e1 := and_low x x0 x1
  have e2 := and_low y y0 y1
  have e3 := and_low ((x / 4294967296 * (y % 4294967296) % 18446744073709551616 + x % 4294967296 * (y % 4294967296) % 18446744073709551616 / 4294967296) % 18446744073709551616) (by omega) (by omega)
  have hX : x * y < 340282366920938463463374607431768211456 := by
    have h1 := Int.mul_le_mul_of_nonneg_left (show y ≤ 18446744073709551615 by omega) x0
    omega
  rw [unhide hm] at hX
  have hh := hi_word _ _ _ _ p0 p1 q0 q1 r0 r1 s0 s1 hX
  rw [← unhide hm] at hh
  show Ending.returned (.tuple #[.int .u64 (IntKind.u64.wrap (IntKind.u64.wrap (IntKind.u64.wrap (x / 4294967296 * (y / 4294967296)) + IntKind.u64.wrap (IntKind.u64.wrap (x / 4294967296 * bits BinOp.and IntKind.u64 y 4294967295) + IntKind.u64.wrap (bits BinOp.and IntKind.u64 x 4294967295 * bits BinOp.and IntKind.u64 y 4294967295) / 4294967296) / 4294967296) + IntKind.u64.wrap (bits BinOp.and IntKind.u64 (IntKind.u64.wrap (IntKind.u64.wrap (x / 4294967296 * bits BinOp.and IntKind.u64 y 4294967295) + IntKind.u64.wrap (bits BinOp.and IntKind.u64 x 4294967295 * bits BinOp.and IntKind.u64 y 4294967295) / 4294967296)) 4294967295 + IntKind.u64.wrap (bits BinOp.and IntKind.u64 x 4294967295 * (y / 4294967296))) / 4294967296)), .int .u64 (IntKind.u64.wrap (x * y))]) = _
  simp only [IntKind.wrap_u64, e1, e2, e3]
  rw [hh]

end Go.Proofs.YtlcfldkmojpkpaaGreatDoor
