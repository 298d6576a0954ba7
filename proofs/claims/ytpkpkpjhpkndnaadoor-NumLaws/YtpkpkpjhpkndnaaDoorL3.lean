/- The walk of NumLaws: its last line by specs. -/
import Derived.Test.YtpkpkpjhpkndnaaDoorRJ
import Derived.Test.YtpkpkpjhpkndnaaDoorN2
namespace Go.Proofs.YtpkpkpjhpkndnaaDoor
open Go Go.RowKit

theorem add_lt {y z : Int} {a : Nat} (h : (y.natAbs : Int) < pw a) (k : (z.natAbs : Int) < pw a) : ((y + z).natAbs : Int) < pw (a + 1) := by
  have h1 : pw (a + 1) = 1000000000 * pw a := rfl
  omega
theorem sub_lt {y z : Int} {a : Nat} (h : (y.natAbs : Int) < pw a) (k : (z.natAbs : Int) < pw a) : ((y - z).natAbs : Int) < pw (a + 1) := by
  have h1 : pw (a + 1) = 1000000000 * pw a := rfl
  omega
theorem pw_le {z : Int} {a b : Nat} (h : (z.natAbs : Int) < pw a) (hab : a ≤ b) : (z.natAbs : Int) < pw b := Int.lt_of_lt_of_le h (pw_mono hab)
theorem sign_at (v : Value) (z q : Int) (w : World) (h : IsI w v z) (hq : sgn z = q) :
    Calls Tryd.prog 31 #[v] w fun e w' => e = .returned (.int .i64 q) ∧ Below w.heap.size w w' := by
  have := sign_any v z w h
  rwa [hq] at this
theorem sgn_pos {z : Int} (h : 0 < z) : sgn z = 1 := by unfold sgn; rw [if_neg (by omega), if_pos h]
theorem sgn_cmp (y z : Int) : sgn (y - z) = cmpI y z := by
  unfold sgn cmpI
  by_cases h1 : y < z
  · rw [if_pos (by omega), if_pos h1]
  · by_cases h2 : z < y
    · rw [if_neg (by omega), if_pos (by omega), if_neg h1, if_pos h2]
    · rw [if_neg (by omega), if_neg (by omega), if_neg h1, if_neg h2]
theorem mod_gcd (y z : Int) (_h : Int.gcd y z ≠ 0) : y % (Int.gcd y z : Int) = 0 ∧ z % (Int.gcd y z : Int) = 0 :=
  ⟨Int.emod_eq_zero_of_dvd (Int.gcd_dvd_left ..), Int.emod_eq_zero_of_dvd (Int.gcd_dvd_right ..)⟩


/-- What stands ahead of the last line. -/
structure LawsE (a0 : Act) (w0 : World) (zA zB zC : Int) : Prop where
  hA : (zA.natAbs : Int) < pw 40
  hB : (zB.natAbs : Int) < pw 40
  hC : (zC.natAbs : Int) < pw 40
  hG : (((Int.gcd zA zB : Int)).natAbs : Int) < pw 40
  hX : ((zA % (Int.gcd zA zB : Int)).natAbs : Int) < pw 40
  hY : ((zB % (Int.gcd zA zB : Int)).natAbs : Int) < pw 40
  tA : PB a0 w0 7 zA
  tB : PB a0 w0 9 zB
  tC : PB a0 w0 11 zC
  tG : PB a0 w0 13 (Int.gcd zA zB : Int)
  tX : PB a0 w0 15 (zA % (Int.gcd zA zB : Int))
  tY : PB a0 w0 17 (zB % (Int.gcd zA zB : Int))
def lawsSpP (zA zB zC : Int) : List Sp :=
  [Sp.num (zA),
   Sp.num (zB),
   Sp.num (zA + zB),
   Sp.num (zB),
   Sp.num (zA),
   Sp.num (zB + zA),
   Sp.int (0),
   Sp.bool true,
   Sp.bool true,
   Sp.num (zA),
   Sp.num (zB),
   Sp.num (zA * zB),
   Sp.num (zB),
   Sp.num (zA),
   Sp.num (zB * zA),
   Sp.int (0),
   Sp.bool true,
   Sp.bool true,
   Sp.bool true,
   Sp.num (zA),
   Sp.num (zB),
   Sp.num (zC),
   Sp.num (zB + zC),
   Sp.num (zA + (zB + zC)),
   Sp.num (zA),
   Sp.num (zB),
   Sp.num (zA + zB),
   Sp.num (zC),
   Sp.num (zA + zB + zC),
   Sp.int (0),
   Sp.bool true,
   Sp.bool true,
   Sp.bool true,
   Sp.num (zA),
   Sp.num (zB),
   Sp.num (zC),
   Sp.num (zB * zC),
   Sp.num (zA * (zB * zC)),
   Sp.num (zA),
   Sp.num (zB),
   Sp.num (zA * zB),
   Sp.num (zC),
   Sp.num ((zA * zB) * zC),
   Sp.int (0),
   Sp.bool true,
   Sp.bool true,
   Sp.bool true,
   Sp.num (zA),
   Sp.num (zB),
   Sp.num (zC),
   Sp.num (zB + zC),
   Sp.num (zA * (zB + zC)),
   Sp.num (zA),
   Sp.num (zB),
   Sp.num (zA * zB),
   Sp.num (zA),
   Sp.num (zC),
   Sp.num (zA * zC),
   Sp.num (zA * zB + (zA * zC)),
   Sp.int (0),
   Sp.bool true,
   Sp.bool true,
   Sp.bool true,
   Sp.num (zA),
   Sp.num (zB),
   Sp.num (zA - zB),
   Sp.num (zB),
   Sp.num (zA - zB + zB),
   Sp.num (zA),
   Sp.int (0),
   Sp.bool true,
   Sp.bool true,
   Sp.bool true,
   Sp.num (zA),
   Sp.num (zA),
   Sp.num (-zA),
   Sp.num (zA + (-zA)),
   Sp.int (0),
   Sp.bool true,
   Sp.bool true,
   Sp.bool true,
   Sp.num ((Int.gcd zA zB : Int)),
   Sp.int (1),
   Sp.bool false,
   Sp.bool false,
   Sp.num (zA % (Int.gcd zA zB : Int)),
   Sp.int (0),
   Sp.bool true,
   Sp.bool true,
   Sp.num (zB % (Int.gcd zA zB : Int)),
   Sp.int (0),
   Sp.bool true,
   Sp.bool true,
   Sp.bool true,
   Sp.bool true,
   Sp.bool true,
   Sp.num (zA),
   Sp.num (zB),
   Sp.num (zA - zB),
   Sp.int (cmpI zA zB),
   Sp.num (zA),
   Sp.num (zB),
   Sp.int (cmpI zA zB),
   Sp.bool true,
   Sp.bool true,
   Sp.bool true]
set_option maxRecDepth 100000 in
theorem laws_sP0 {Q : Exit → Act → World → Prop} {a0 : Act} {w0 : World} {zA zB zC : Int} (E : LawsE a0 w0 zA zB zC) (_hgz : Int.gcd zA zB ≠ 0) : StepOk Tryd.prog Q (regionOf Tryd.f6 11) (lawsSpP zA zB zC) a0 w0 [7, 9, 11, 13, 15, 17] 0 := by
  intro a w hb hk _hp
  exact st_want (wanted_none rfl) (st_load (hk 7 (by decide)) E.tA hb)
set_option maxRecDepth 100000 in
theorem laws_sP1 {Q : Exit → Act → World → Prop} {a0 : Act} {w0 : World} {zA zB zC : Int} (E : LawsE a0 w0 zA zB zC) (_hgz : Int.gcd zA zB ≠ 0) : StepOk Tryd.prog Q (regionOf Tryd.f6 11) (lawsSpP zA zB zC) a0 w0 [7, 9, 11, 13, 15, 17] 1 := by
  intro a w hb hk _hp
  exact st_want (wanted_none rfl) (st_load (hk 9 (by decide)) E.tB hb)
set_option maxRecDepth 100000 in
theorem laws_sP2 {Q : Exit → Act → World → Prop} {a0 : Act} {w0 : World} {zA zB zC : Int} (E : LawsE a0 w0 zA zB zC) (_hgz : Int.gcd zA zB ≠ 0) : StepOk Tryd.prog Q (regionOf Tryd.f6 11) (lawsSpP zA zB zC) a0 w0 [7, 9, 11, 13, 15, 17] 2 := by
  intro a w _hb _hk hp
  have p0 : (Sp.num (zA)).ok w (a.tmps.getD 56 undef) := hp 0 rfl
  have p1 : (Sp.num (zB)).ok w (a.tmps.getD 57 undef) := hp 1 rfl
  exact st_want (wanted_none rfl) (st_Add p0 p1 E.hA E.hB (by decide) (by decide))
set_option maxRecDepth 100000 in
theorem laws_sP3 {Q : Exit → Act → World → Prop} {a0 : Act} {w0 : World} {zA zB zC : Int} (E : LawsE a0 w0 zA zB zC) (_hgz : Int.gcd zA zB ≠ 0) : StepOk Tryd.prog Q (regionOf Tryd.f6 11) (lawsSpP zA zB zC) a0 w0 [7, 9, 11, 13, 15, 17] 3 := by
  intro a w hb hk _hp
  exact st_want (wanted_none rfl) (st_load (hk 9 (by decide)) E.tB hb)
set_option maxRecDepth 100000 in
theorem laws_sP4 {Q : Exit → Act → World → Prop} {a0 : Act} {w0 : World} {zA zB zC : Int} (E : LawsE a0 w0 zA zB zC) (_hgz : Int.gcd zA zB ≠ 0) : StepOk Tryd.prog Q (regionOf Tryd.f6 11) (lawsSpP zA zB zC) a0 w0 [7, 9, 11, 13, 15, 17] 4 := by
  intro a w hb hk _hp
  exact st_want (wanted_none rfl) (st_load (hk 7 (by decide)) E.tA hb)
set_option maxRecDepth 100000 in
theorem laws_sP5 {Q : Exit → Act → World → Prop} {a0 : Act} {w0 : World} {zA zB zC : Int} (E : LawsE a0 w0 zA zB zC) (_hgz : Int.gcd zA zB ≠ 0) : StepOk Tryd.prog Q (regionOf Tryd.f6 11) (lawsSpP zA zB zC) a0 w0 [7, 9, 11, 13, 15, 17] 5 := by
  intro a w _hb _hk hp
  have p0 : (Sp.num (zB)).ok w (a.tmps.getD 59 undef) := hp 3 rfl
  have p1 : (Sp.num (zA)).ok w (a.tmps.getD 60 undef) := hp 4 rfl
  exact st_want (wanted_none rfl) (st_Add p0 p1 E.hB E.hA (by decide) (by decide))
set_option maxRecDepth 100000 in
theorem laws_sP6 {Q : Exit → Act → World → Prop} {a0 : Act} {w0 : World} {zA zB zC : Int} (E : LawsE a0 w0 zA zB zC) (_hgz : Int.gcd zA zB ≠ 0) : StepOk Tryd.prog Q (regionOf Tryd.f6 11) (lawsSpP zA zB zC) a0 w0 [7, 9, 11, 13, 15, 17] 6 := by
  intro a w _hb _hk hp
  have p0 : (Sp.num (zA + zB)).ok w (a.tmps.getD 58 undef) := hp 2 rfl
  have p1 : (Sp.num (zB + zA)).ok w (a.tmps.getD 61 undef) := hp 5 rfl
  exact st_want (wanted_none rfl) (st_Cmp p0 p1 (add_lt2 E.hA E.hB) (add_lt2 E.hB E.hA) (by decide) (by decide) (cmpI_eq (Int.add_comm _ _)))
set_option maxRecDepth 100000 in
theorem laws_sP7 {Q : Exit → Act → World → Prop} {a0 : Act} {w0 : World} {zA zB zC : Int} (_E : LawsE a0 w0 zA zB zC) (_hgz : Int.gcd zA zB ≠ 0) : StepOk Tryd.prog Q (regionOf Tryd.f6 11) (lawsSpP zA zB zC) a0 w0 [7, 9, 11, 13, 15, 17] 7 := by
  intro a w _hb _hk hp
  have p0 : (Sp.int (0)).ok w (a.tmps.getD 62 undef) := hp 6 rfl
  exact st_want (wanted_none rfl) (st_eql0 p0 (rfl))
set_option maxRecDepth 100000 in
theorem laws_sP8 {Q : Exit → Act → World → Prop} {a0 : Act} {w0 : World} {zA zB zC : Int} (_E : LawsE a0 w0 zA zB zC) (_hgz : Int.gcd zA zB ≠ 0) : StepOk Tryd.prog Q (regionOf Tryd.f6 11) (lawsSpP zA zB zC) a0 w0 [7, 9, 11, 13, 15, 17] 8 := by
  intro a w _hb _hk hp
  have p0 : (Sp.bool true).ok w (a.tmps.getD 63 undef) := hp 7 rfl
  exact st_want (wanted_none rfl) (st_move p0)
set_option maxRecDepth 100000 in
theorem laws_sP9 {Q : Exit → Act → World → Prop} {a0 : Act} {w0 : World} {zA zB zC : Int} (E : LawsE a0 w0 zA zB zC) (_hgz : Int.gcd zA zB ≠ 0) : StepOk Tryd.prog Q (regionOf Tryd.f6 11) (lawsSpP zA zB zC) a0 w0 [7, 9, 11, 13, 15, 17] 9 := by
  intro a w hb hk hp
  have pg : slotOf (regionOf Tryd.f6 11).toArray a 8 = .bool true := hp 8 rfl
  exact st_want (wanted_slot rfl pg rfl) (st_load (hk 7 (by decide)) E.tA hb)
set_option maxRecDepth 100000 in
theorem laws_sP10 {Q : Exit → Act → World → Prop} {a0 : Act} {w0 : World} {zA zB zC : Int} (E : LawsE a0 w0 zA zB zC) (_hgz : Int.gcd zA zB ≠ 0) : StepOk Tryd.prog Q (regionOf Tryd.f6 11) (lawsSpP zA zB zC) a0 w0 [7, 9, 11, 13, 15, 17] 10 := by
  intro a w hb hk hp
  have pg : slotOf (regionOf Tryd.f6 11).toArray a 8 = .bool true := hp 8 rfl
  exact st_want (wanted_slot rfl pg rfl) (st_load (hk 9 (by decide)) E.tB hb)
set_option maxRecDepth 100000 in
theorem laws_sP11 {Q : Exit → Act → World → Prop} {a0 : Act} {w0 : World} {zA zB zC : Int} (E : LawsE a0 w0 zA zB zC) (_hgz : Int.gcd zA zB ≠ 0) : StepOk Tryd.prog Q (regionOf Tryd.f6 11) (lawsSpP zA zB zC) a0 w0 [7, 9, 11, 13, 15, 17] 11 := by
  intro a w _hb _hk hp
  have pg : slotOf (regionOf Tryd.f6 11).toArray a 8 = .bool true := hp 8 rfl
  have p0 : (Sp.num (zA)).ok w (a.tmps.getD 65 undef) := hp 9 rfl
  have p1 : (Sp.num (zB)).ok w (a.tmps.getD 66 undef) := hp 10 rfl
  exact st_want (wanted_slot rfl pg rfl) (st_Mul p0 p1 E.hA E.hB (by decide) (by decide))
set_option maxRecDepth 100000 in
theorem laws_sP12 {Q : Exit → Act → World → Prop} {a0 : Act} {w0 : World} {zA zB zC : Int} (E : LawsE a0 w0 zA zB zC) (_hgz : Int.gcd zA zB ≠ 0) : StepOk Tryd.prog Q (regionOf Tryd.f6 11) (lawsSpP zA zB zC) a0 w0 [7, 9, 11, 13, 15, 17] 12 := by
  intro a w hb hk hp
  have pg : slotOf (regionOf Tryd.f6 11).toArray a 8 = .bool true := hp 8 rfl
  exact st_want (wanted_slot rfl pg rfl) (st_load (hk 9 (by decide)) E.tB hb)
set_option maxRecDepth 100000 in
theorem laws_sP13 {Q : Exit → Act → World → Prop} {a0 : Act} {w0 : World} {zA zB zC : Int} (E : LawsE a0 w0 zA zB zC) (_hgz : Int.gcd zA zB ≠ 0) : StepOk Tryd.prog Q (regionOf Tryd.f6 11) (lawsSpP zA zB zC) a0 w0 [7, 9, 11, 13, 15, 17] 13 := by
  intro a w hb hk hp
  have pg : slotOf (regionOf Tryd.f6 11).toArray a 8 = .bool true := hp 8 rfl
  exact st_want (wanted_slot rfl pg rfl) (st_load (hk 7 (by decide)) E.tA hb)
set_option maxRecDepth 100000 in
theorem laws_sP14 {Q : Exit → Act → World → Prop} {a0 : Act} {w0 : World} {zA zB zC : Int} (E : LawsE a0 w0 zA zB zC) (_hgz : Int.gcd zA zB ≠ 0) : StepOk Tryd.prog Q (regionOf Tryd.f6 11) (lawsSpP zA zB zC) a0 w0 [7, 9, 11, 13, 15, 17] 14 := by
  intro a w _hb _hk hp
  have pg : slotOf (regionOf Tryd.f6 11).toArray a 8 = .bool true := hp 8 rfl
  have p0 : (Sp.num (zB)).ok w (a.tmps.getD 68 undef) := hp 12 rfl
  have p1 : (Sp.num (zA)).ok w (a.tmps.getD 69 undef) := hp 13 rfl
  exact st_want (wanted_slot rfl pg rfl) (st_Mul p0 p1 E.hB E.hA (by decide) (by decide))
set_option maxRecDepth 100000 in
theorem laws_sP15 {Q : Exit → Act → World → Prop} {a0 : Act} {w0 : World} {zA zB zC : Int} (E : LawsE a0 w0 zA zB zC) (_hgz : Int.gcd zA zB ≠ 0) : StepOk Tryd.prog Q (regionOf Tryd.f6 11) (lawsSpP zA zB zC) a0 w0 [7, 9, 11, 13, 15, 17] 15 := by
  intro a w _hb _hk hp
  have pg : slotOf (regionOf Tryd.f6 11).toArray a 8 = .bool true := hp 8 rfl
  have p0 : (Sp.num (zA * zB)).ok w (a.tmps.getD 67 undef) := hp 11 rfl
  have p1 : (Sp.num (zB * zA)).ok w (a.tmps.getD 70 undef) := hp 14 rfl
  exact st_want (wanted_slot rfl pg rfl) (st_Cmp p0 p1 (mul_lt E.hA E.hB) (mul_lt E.hB E.hA) (by decide) (by decide) (cmpI_eq (Int.mul_comm _ _)))
set_option maxRecDepth 100000 in
theorem laws_sP16 {Q : Exit → Act → World → Prop} {a0 : Act} {w0 : World} {zA zB zC : Int} (_E : LawsE a0 w0 zA zB zC) (_hgz : Int.gcd zA zB ≠ 0) : StepOk Tryd.prog Q (regionOf Tryd.f6 11) (lawsSpP zA zB zC) a0 w0 [7, 9, 11, 13, 15, 17] 16 := by
  intro a w _hb _hk hp
  have pg : slotOf (regionOf Tryd.f6 11).toArray a 8 = .bool true := hp 8 rfl
  have p0 : (Sp.int (0)).ok w (a.tmps.getD 71 undef) := hp 15 rfl
  exact st_want (wanted_slot rfl pg rfl) (st_eql0 p0 (rfl))
set_option maxRecDepth 100000 in
theorem laws_sP17 {Q : Exit → Act → World → Prop} {a0 : Act} {w0 : World} {zA zB zC : Int} (_E : LawsE a0 w0 zA zB zC) (_hgz : Int.gcd zA zB ≠ 0) : StepOk Tryd.prog Q (regionOf Tryd.f6 11) (lawsSpP zA zB zC) a0 w0 [7, 9, 11, 13, 15, 17] 17 := by
  intro a w _hb _hk hp
  have p0 : (Sp.bool true).ok w (a.tmps.getD 64 undef) := hp 8 rfl
  have p1 : (Sp.bool true).ok w (a.tmps.getD 72 undef) := hp 16 rfl
  exact st_want (wanted_none rfl) (st_pick p0 p1)
set_option maxRecDepth 100000 in
theorem laws_sP18 {Q : Exit → Act → World → Prop} {a0 : Act} {w0 : World} {zA zB zC : Int} (_E : LawsE a0 w0 zA zB zC) (_hgz : Int.gcd zA zB ≠ 0) : StepOk Tryd.prog Q (regionOf Tryd.f6 11) (lawsSpP zA zB zC) a0 w0 [7, 9, 11, 13, 15, 17] 18 := by
  intro a w _hb _hk hp
  have p0 : (Sp.bool true).ok w (a.tmps.getD 73 undef) := hp 17 rfl
  exact st_want (wanted_none rfl) (st_move p0)
set_option maxRecDepth 100000 in
theorem laws_sP19 {Q : Exit → Act → World → Prop} {a0 : Act} {w0 : World} {zA zB zC : Int} (E : LawsE a0 w0 zA zB zC) (_hgz : Int.gcd zA zB ≠ 0) : StepOk Tryd.prog Q (regionOf Tryd.f6 11) (lawsSpP zA zB zC) a0 w0 [7, 9, 11, 13, 15, 17] 19 := by
  intro a w hb hk hp
  have pg : slotOf (regionOf Tryd.f6 11).toArray a 18 = .bool true := hp 18 rfl
  exact st_want (wanted_slot rfl pg rfl) (st_load (hk 7 (by decide)) E.tA hb)
set_option maxRecDepth 100000 in
theorem laws_sP20 {Q : Exit → Act → World → Prop} {a0 : Act} {w0 : World} {zA zB zC : Int} (E : LawsE a0 w0 zA zB zC) (_hgz : Int.gcd zA zB ≠ 0) : StepOk Tryd.prog Q (regionOf Tryd.f6 11) (lawsSpP zA zB zC) a0 w0 [7, 9, 11, 13, 15, 17] 20 := by
  intro a w hb hk hp
  have pg : slotOf (regionOf Tryd.f6 11).toArray a 18 = .bool true := hp 18 rfl
  exact st_want (wanted_slot rfl pg rfl) (st_load (hk 9 (by decide)) E.tB hb)
set_option maxRecDepth 100000 in
theorem laws_sP21 {Q : Exit → Act → World → Prop} {a0 : Act} {w0 : World} {zA zB zC : Int} (E : LawsE a0 w0 zA zB zC) (_hgz : Int.gcd zA zB ≠ 0) : StepOk Tryd.prog Q (regionOf Tryd.f6 11) (lawsSpP zA zB zC) a0 w0 [7, 9, 11, 13, 15, 17] 21 := by
  intro a w hb hk hp
  have pg : slotOf (regionOf Tryd.f6 11).toArray a 18 = .bool true := hp 18 rfl
  exact st_want (wanted_slot rfl pg rfl) (st_load (hk 11 (by decide)) E.tC hb)
set_option maxRecDepth 100000 in
theorem laws_sP22 {Q : Exit → Act → World → Prop} {a0 : Act} {w0 : World} {zA zB zC : Int} (E : LawsE a0 w0 zA zB zC) (_hgz : Int.gcd zA zB ≠ 0) : StepOk Tryd.prog Q (regionOf Tryd.f6 11) (lawsSpP zA zB zC) a0 w0 [7, 9, 11, 13, 15, 17] 22 := by
  intro a w _hb _hk hp
  have pg : slotOf (regionOf Tryd.f6 11).toArray a 18 = .bool true := hp 18 rfl
  have p0 : (Sp.num (zB)).ok w (a.tmps.getD 76 undef) := hp 20 rfl
  have p1 : (Sp.num (zC)).ok w (a.tmps.getD 77 undef) := hp 21 rfl
  exact st_want (wanted_slot rfl pg rfl) (st_Add p0 p1 E.hB E.hC (by decide) (by decide))
set_option maxRecDepth 100000 in
theorem laws_sP23 {Q : Exit → Act → World → Prop} {a0 : Act} {w0 : World} {zA zB zC : Int} (E : LawsE a0 w0 zA zB zC) (_hgz : Int.gcd zA zB ≠ 0) : StepOk Tryd.prog Q (regionOf Tryd.f6 11) (lawsSpP zA zB zC) a0 w0 [7, 9, 11, 13, 15, 17] 23 := by
  intro a w _hb _hk hp
  have pg : slotOf (regionOf Tryd.f6 11).toArray a 18 = .bool true := hp 18 rfl
  have p0 : (Sp.num (zA)).ok w (a.tmps.getD 75 undef) := hp 19 rfl
  have p1 : (Sp.num (zB + zC)).ok w (a.tmps.getD 78 undef) := hp 22 rfl
  exact st_want (wanted_slot rfl pg rfl) (st_Add p0 p1 E.hA (add_lt2 E.hB E.hC) (by decide) (by decide))
set_option maxRecDepth 100000 in
theorem laws_sP24 {Q : Exit → Act → World → Prop} {a0 : Act} {w0 : World} {zA zB zC : Int} (E : LawsE a0 w0 zA zB zC) (_hgz : Int.gcd zA zB ≠ 0) : StepOk Tryd.prog Q (regionOf Tryd.f6 11) (lawsSpP zA zB zC) a0 w0 [7, 9, 11, 13, 15, 17] 24 := by
  intro a w hb hk hp
  have pg : slotOf (regionOf Tryd.f6 11).toArray a 18 = .bool true := hp 18 rfl
  exact st_want (wanted_slot rfl pg rfl) (st_load (hk 7 (by decide)) E.tA hb)
set_option maxRecDepth 100000 in
theorem laws_sP25 {Q : Exit → Act → World → Prop} {a0 : Act} {w0 : World} {zA zB zC : Int} (E : LawsE a0 w0 zA zB zC) (_hgz : Int.gcd zA zB ≠ 0) : StepOk Tryd.prog Q (regionOf Tryd.f6 11) (lawsSpP zA zB zC) a0 w0 [7, 9, 11, 13, 15, 17] 25 := by
  intro a w hb hk hp
  have pg : slotOf (regionOf Tryd.f6 11).toArray a 18 = .bool true := hp 18 rfl
  exact st_want (wanted_slot rfl pg rfl) (st_load (hk 9 (by decide)) E.tB hb)
set_option maxRecDepth 100000 in
theorem laws_sP26 {Q : Exit → Act → World → Prop} {a0 : Act} {w0 : World} {zA zB zC : Int} (E : LawsE a0 w0 zA zB zC) (_hgz : Int.gcd zA zB ≠ 0) : StepOk Tryd.prog Q (regionOf Tryd.f6 11) (lawsSpP zA zB zC) a0 w0 [7, 9, 11, 13, 15, 17] 26 := by
  intro a w _hb _hk hp
  have pg : slotOf (regionOf Tryd.f6 11).toArray a 18 = .bool true := hp 18 rfl
  have p0 : (Sp.num (zA)).ok w (a.tmps.getD 80 undef) := hp 24 rfl
  have p1 : (Sp.num (zB)).ok w (a.tmps.getD 81 undef) := hp 25 rfl
  exact st_want (wanted_slot rfl pg rfl) (st_Add p0 p1 E.hA E.hB (by decide) (by decide))
set_option maxRecDepth 100000 in
theorem laws_sP27 {Q : Exit → Act → World → Prop} {a0 : Act} {w0 : World} {zA zB zC : Int} (E : LawsE a0 w0 zA zB zC) (_hgz : Int.gcd zA zB ≠ 0) : StepOk Tryd.prog Q (regionOf Tryd.f6 11) (lawsSpP zA zB zC) a0 w0 [7, 9, 11, 13, 15, 17] 27 := by
  intro a w hb hk hp
  have pg : slotOf (regionOf Tryd.f6 11).toArray a 18 = .bool true := hp 18 rfl
  exact st_want (wanted_slot rfl pg rfl) (st_load (hk 11 (by decide)) E.tC hb)
set_option maxRecDepth 100000 in
theorem laws_sP28 {Q : Exit → Act → World → Prop} {a0 : Act} {w0 : World} {zA zB zC : Int} (E : LawsE a0 w0 zA zB zC) (_hgz : Int.gcd zA zB ≠ 0) : StepOk Tryd.prog Q (regionOf Tryd.f6 11) (lawsSpP zA zB zC) a0 w0 [7, 9, 11, 13, 15, 17] 28 := by
  intro a w _hb _hk hp
  have pg : slotOf (regionOf Tryd.f6 11).toArray a 18 = .bool true := hp 18 rfl
  have p0 : (Sp.num (zA + zB)).ok w (a.tmps.getD 82 undef) := hp 26 rfl
  have p1 : (Sp.num (zC)).ok w (a.tmps.getD 83 undef) := hp 27 rfl
  exact st_want (wanted_slot rfl pg rfl) (st_Add p0 p1 (add_lt2 E.hA E.hB) E.hC (by decide) (by decide))
set_option maxRecDepth 100000 in
theorem laws_sP29 {Q : Exit → Act → World → Prop} {a0 : Act} {w0 : World} {zA zB zC : Int} (E : LawsE a0 w0 zA zB zC) (_hgz : Int.gcd zA zB ≠ 0) : StepOk Tryd.prog Q (regionOf Tryd.f6 11) (lawsSpP zA zB zC) a0 w0 [7, 9, 11, 13, 15, 17] 29 := by
  intro a w _hb _hk hp
  have pg : slotOf (regionOf Tryd.f6 11).toArray a 18 = .bool true := hp 18 rfl
  have p0 : (Sp.num (zA + (zB + zC))).ok w (a.tmps.getD 79 undef) := hp 23 rfl
  have p1 : (Sp.num (zA + zB + zC)).ok w (a.tmps.getD 84 undef) := hp 28 rfl
  exact st_want (wanted_slot rfl pg rfl) (st_Cmp p0 p1 (add_lt2 E.hA (add_lt2 E.hB E.hC)) (add_lt2 (add_lt2 E.hA E.hB) E.hC) (by decide) (by decide) (cmpI_eq ((Int.add_assoc _ _ _).symm)))
set_option maxRecDepth 100000 in
theorem laws_sP30 {Q : Exit → Act → World → Prop} {a0 : Act} {w0 : World} {zA zB zC : Int} (_E : LawsE a0 w0 zA zB zC) (_hgz : Int.gcd zA zB ≠ 0) : StepOk Tryd.prog Q (regionOf Tryd.f6 11) (lawsSpP zA zB zC) a0 w0 [7, 9, 11, 13, 15, 17] 30 := by
  intro a w _hb _hk hp
  have pg : slotOf (regionOf Tryd.f6 11).toArray a 18 = .bool true := hp 18 rfl
  have p0 : (Sp.int (0)).ok w (a.tmps.getD 85 undef) := hp 29 rfl
  exact st_want (wanted_slot rfl pg rfl) (st_eql0 p0 (rfl))
set_option maxRecDepth 100000 in
theorem laws_sP31 {Q : Exit → Act → World → Prop} {a0 : Act} {w0 : World} {zA zB zC : Int} (_E : LawsE a0 w0 zA zB zC) (_hgz : Int.gcd zA zB ≠ 0) : StepOk Tryd.prog Q (regionOf Tryd.f6 11) (lawsSpP zA zB zC) a0 w0 [7, 9, 11, 13, 15, 17] 31 := by
  intro a w _hb _hk hp
  have p0 : (Sp.bool true).ok w (a.tmps.getD 74 undef) := hp 18 rfl
  have p1 : (Sp.bool true).ok w (a.tmps.getD 86 undef) := hp 30 rfl
  exact st_want (wanted_none rfl) (st_pick p0 p1)
set_option maxRecDepth 100000 in
theorem laws_sP32 {Q : Exit → Act → World → Prop} {a0 : Act} {w0 : World} {zA zB zC : Int} (_E : LawsE a0 w0 zA zB zC) (_hgz : Int.gcd zA zB ≠ 0) : StepOk Tryd.prog Q (regionOf Tryd.f6 11) (lawsSpP zA zB zC) a0 w0 [7, 9, 11, 13, 15, 17] 32 := by
  intro a w _hb _hk hp
  have p0 : (Sp.bool true).ok w (a.tmps.getD 87 undef) := hp 31 rfl
  exact st_want (wanted_none rfl) (st_move p0)
set_option maxRecDepth 100000 in
theorem laws_sP33 {Q : Exit → Act → World → Prop} {a0 : Act} {w0 : World} {zA zB zC : Int} (E : LawsE a0 w0 zA zB zC) (_hgz : Int.gcd zA zB ≠ 0) : StepOk Tryd.prog Q (regionOf Tryd.f6 11) (lawsSpP zA zB zC) a0 w0 [7, 9, 11, 13, 15, 17] 33 := by
  intro a w hb hk hp
  have pg : slotOf (regionOf Tryd.f6 11).toArray a 32 = .bool true := hp 32 rfl
  exact st_want (wanted_slot rfl pg rfl) (st_load (hk 7 (by decide)) E.tA hb)
set_option maxRecDepth 100000 in
theorem laws_sP34 {Q : Exit → Act → World → Prop} {a0 : Act} {w0 : World} {zA zB zC : Int} (E : LawsE a0 w0 zA zB zC) (_hgz : Int.gcd zA zB ≠ 0) : StepOk Tryd.prog Q (regionOf Tryd.f6 11) (lawsSpP zA zB zC) a0 w0 [7, 9, 11, 13, 15, 17] 34 := by
  intro a w hb hk hp
  have pg : slotOf (regionOf Tryd.f6 11).toArray a 32 = .bool true := hp 32 rfl
  exact st_want (wanted_slot rfl pg rfl) (st_load (hk 9 (by decide)) E.tB hb)
set_option maxRecDepth 100000 in
theorem laws_sP35 {Q : Exit → Act → World → Prop} {a0 : Act} {w0 : World} {zA zB zC : Int} (E : LawsE a0 w0 zA zB zC) (_hgz : Int.gcd zA zB ≠ 0) : StepOk Tryd.prog Q (regionOf Tryd.f6 11) (lawsSpP zA zB zC) a0 w0 [7, 9, 11, 13, 15, 17] 35 := by
  intro a w hb hk hp
  have pg : slotOf (regionOf Tryd.f6 11).toArray a 32 = .bool true := hp 32 rfl
  exact st_want (wanted_slot rfl pg rfl) (st_load (hk 11 (by decide)) E.tC hb)
set_option maxRecDepth 100000 in
theorem laws_sP36 {Q : Exit → Act → World → Prop} {a0 : Act} {w0 : World} {zA zB zC : Int} (E : LawsE a0 w0 zA zB zC) (_hgz : Int.gcd zA zB ≠ 0) : StepOk Tryd.prog Q (regionOf Tryd.f6 11) (lawsSpP zA zB zC) a0 w0 [7, 9, 11, 13, 15, 17] 36 := by
  intro a w _hb _hk hp
  have pg : slotOf (regionOf Tryd.f6 11).toArray a 32 = .bool true := hp 32 rfl
  have p0 : (Sp.num (zB)).ok w (a.tmps.getD 90 undef) := hp 34 rfl
  have p1 : (Sp.num (zC)).ok w (a.tmps.getD 91 undef) := hp 35 rfl
  exact st_want (wanted_slot rfl pg rfl) (st_Mul p0 p1 E.hB E.hC (by decide) (by decide))
set_option maxRecDepth 100000 in
theorem laws_sP37 {Q : Exit → Act → World → Prop} {a0 : Act} {w0 : World} {zA zB zC : Int} (E : LawsE a0 w0 zA zB zC) (_hgz : Int.gcd zA zB ≠ 0) : StepOk Tryd.prog Q (regionOf Tryd.f6 11) (lawsSpP zA zB zC) a0 w0 [7, 9, 11, 13, 15, 17] 37 := by
  intro a w _hb _hk hp
  have pg : slotOf (regionOf Tryd.f6 11).toArray a 32 = .bool true := hp 32 rfl
  have p0 : (Sp.num (zA)).ok w (a.tmps.getD 89 undef) := hp 33 rfl
  have p1 : (Sp.num (zB * zC)).ok w (a.tmps.getD 92 undef) := hp 36 rfl
  exact st_want (wanted_slot rfl pg rfl) (st_Mul p0 p1 E.hA (mul_lt E.hB E.hC) (by decide) (by decide))
set_option maxRecDepth 100000 in
theorem laws_sP38 {Q : Exit → Act → World → Prop} {a0 : Act} {w0 : World} {zA zB zC : Int} (E : LawsE a0 w0 zA zB zC) (_hgz : Int.gcd zA zB ≠ 0) : StepOk Tryd.prog Q (regionOf Tryd.f6 11) (lawsSpP zA zB zC) a0 w0 [7, 9, 11, 13, 15, 17] 38 := by
  intro a w hb hk hp
  have pg : slotOf (regionOf Tryd.f6 11).toArray a 32 = .bool true := hp 32 rfl
  exact st_want (wanted_slot rfl pg rfl) (st_load (hk 7 (by decide)) E.tA hb)
set_option maxRecDepth 100000 in
theorem laws_sP39 {Q : Exit → Act → World → Prop} {a0 : Act} {w0 : World} {zA zB zC : Int} (E : LawsE a0 w0 zA zB zC) (_hgz : Int.gcd zA zB ≠ 0) : StepOk Tryd.prog Q (regionOf Tryd.f6 11) (lawsSpP zA zB zC) a0 w0 [7, 9, 11, 13, 15, 17] 39 := by
  intro a w hb hk hp
  have pg : slotOf (regionOf Tryd.f6 11).toArray a 32 = .bool true := hp 32 rfl
  exact st_want (wanted_slot rfl pg rfl) (st_load (hk 9 (by decide)) E.tB hb)
set_option maxRecDepth 100000 in
theorem laws_sP40 {Q : Exit → Act → World → Prop} {a0 : Act} {w0 : World} {zA zB zC : Int} (E : LawsE a0 w0 zA zB zC) (_hgz : Int.gcd zA zB ≠ 0) : StepOk Tryd.prog Q (regionOf Tryd.f6 11) (lawsSpP zA zB zC) a0 w0 [7, 9, 11, 13, 15, 17] 40 := by
  intro a w _hb _hk hp
  have pg : slotOf (regionOf Tryd.f6 11).toArray a 32 = .bool true := hp 32 rfl
  have p0 : (Sp.num (zA)).ok w (a.tmps.getD 94 undef) := hp 38 rfl
  have p1 : (Sp.num (zB)).ok w (a.tmps.getD 95 undef) := hp 39 rfl
  exact st_want (wanted_slot rfl pg rfl) (st_Mul p0 p1 E.hA E.hB (by decide) (by decide))
set_option maxRecDepth 100000 in
theorem laws_sP41 {Q : Exit → Act → World → Prop} {a0 : Act} {w0 : World} {zA zB zC : Int} (E : LawsE a0 w0 zA zB zC) (_hgz : Int.gcd zA zB ≠ 0) : StepOk Tryd.prog Q (regionOf Tryd.f6 11) (lawsSpP zA zB zC) a0 w0 [7, 9, 11, 13, 15, 17] 41 := by
  intro a w hb hk hp
  have pg : slotOf (regionOf Tryd.f6 11).toArray a 32 = .bool true := hp 32 rfl
  exact st_want (wanted_slot rfl pg rfl) (st_load (hk 11 (by decide)) E.tC hb)
set_option maxRecDepth 100000 in
theorem laws_sP42 {Q : Exit → Act → World → Prop} {a0 : Act} {w0 : World} {zA zB zC : Int} (E : LawsE a0 w0 zA zB zC) (_hgz : Int.gcd zA zB ≠ 0) : StepOk Tryd.prog Q (regionOf Tryd.f6 11) (lawsSpP zA zB zC) a0 w0 [7, 9, 11, 13, 15, 17] 42 := by
  intro a w _hb _hk hp
  have pg : slotOf (regionOf Tryd.f6 11).toArray a 32 = .bool true := hp 32 rfl
  have p0 : (Sp.num (zA * zB)).ok w (a.tmps.getD 96 undef) := hp 40 rfl
  have p1 : (Sp.num (zC)).ok w (a.tmps.getD 97 undef) := hp 41 rfl
  exact st_want (wanted_slot rfl pg rfl) (st_Mul p0 p1 (mul_lt E.hA E.hB) E.hC (by decide) (by decide))
set_option maxRecDepth 100000 in
theorem laws_sP43 {Q : Exit → Act → World → Prop} {a0 : Act} {w0 : World} {zA zB zC : Int} (E : LawsE a0 w0 zA zB zC) (_hgz : Int.gcd zA zB ≠ 0) : StepOk Tryd.prog Q (regionOf Tryd.f6 11) (lawsSpP zA zB zC) a0 w0 [7, 9, 11, 13, 15, 17] 43 := by
  intro a w _hb _hk hp
  have pg : slotOf (regionOf Tryd.f6 11).toArray a 32 = .bool true := hp 32 rfl
  have p0 : (Sp.num (zA * (zB * zC))).ok w (a.tmps.getD 93 undef) := hp 37 rfl
  have p1 : (Sp.num ((zA * zB) * zC)).ok w (a.tmps.getD 98 undef) := hp 42 rfl
  exact st_want (wanted_slot rfl pg rfl) (st_Cmp p0 p1 (mul_lt E.hA (mul_lt E.hB E.hC)) (mul_lt (mul_lt E.hA E.hB) E.hC) (by decide) (by decide) (cmpI_eq ((Int.mul_assoc _ _ _).symm)))
set_option maxRecDepth 100000 in
theorem laws_sP44 {Q : Exit → Act → World → Prop} {a0 : Act} {w0 : World} {zA zB zC : Int} (_E : LawsE a0 w0 zA zB zC) (_hgz : Int.gcd zA zB ≠ 0) : StepOk Tryd.prog Q (regionOf Tryd.f6 11) (lawsSpP zA zB zC) a0 w0 [7, 9, 11, 13, 15, 17] 44 := by
  intro a w _hb _hk hp
  have pg : slotOf (regionOf Tryd.f6 11).toArray a 32 = .bool true := hp 32 rfl
  have p0 : (Sp.int (0)).ok w (a.tmps.getD 99 undef) := hp 43 rfl
  exact st_want (wanted_slot rfl pg rfl) (st_eql0 p0 (rfl))
set_option maxRecDepth 100000 in
theorem laws_sP45 {Q : Exit → Act → World → Prop} {a0 : Act} {w0 : World} {zA zB zC : Int} (_E : LawsE a0 w0 zA zB zC) (_hgz : Int.gcd zA zB ≠ 0) : StepOk Tryd.prog Q (regionOf Tryd.f6 11) (lawsSpP zA zB zC) a0 w0 [7, 9, 11, 13, 15, 17] 45 := by
  intro a w _hb _hk hp
  have p0 : (Sp.bool true).ok w (a.tmps.getD 88 undef) := hp 32 rfl
  have p1 : (Sp.bool true).ok w (a.tmps.getD 100 undef) := hp 44 rfl
  exact st_want (wanted_none rfl) (st_pick p0 p1)
set_option maxRecDepth 100000 in
theorem laws_sP46 {Q : Exit → Act → World → Prop} {a0 : Act} {w0 : World} {zA zB zC : Int} (_E : LawsE a0 w0 zA zB zC) (_hgz : Int.gcd zA zB ≠ 0) : StepOk Tryd.prog Q (regionOf Tryd.f6 11) (lawsSpP zA zB zC) a0 w0 [7, 9, 11, 13, 15, 17] 46 := by
  intro a w _hb _hk hp
  have p0 : (Sp.bool true).ok w (a.tmps.getD 101 undef) := hp 45 rfl
  exact st_want (wanted_none rfl) (st_move p0)
set_option maxRecDepth 100000 in
theorem laws_sP47 {Q : Exit → Act → World → Prop} {a0 : Act} {w0 : World} {zA zB zC : Int} (E : LawsE a0 w0 zA zB zC) (_hgz : Int.gcd zA zB ≠ 0) : StepOk Tryd.prog Q (regionOf Tryd.f6 11) (lawsSpP zA zB zC) a0 w0 [7, 9, 11, 13, 15, 17] 47 := by
  intro a w hb hk hp
  have pg : slotOf (regionOf Tryd.f6 11).toArray a 46 = .bool true := hp 46 rfl
  exact st_want (wanted_slot rfl pg rfl) (st_load (hk 7 (by decide)) E.tA hb)
set_option maxRecDepth 100000 in
theorem laws_sP48 {Q : Exit → Act → World → Prop} {a0 : Act} {w0 : World} {zA zB zC : Int} (E : LawsE a0 w0 zA zB zC) (_hgz : Int.gcd zA zB ≠ 0) : StepOk Tryd.prog Q (regionOf Tryd.f6 11) (lawsSpP zA zB zC) a0 w0 [7, 9, 11, 13, 15, 17] 48 := by
  intro a w hb hk hp
  have pg : slotOf (regionOf Tryd.f6 11).toArray a 46 = .bool true := hp 46 rfl
  exact st_want (wanted_slot rfl pg rfl) (st_load (hk 9 (by decide)) E.tB hb)
set_option maxRecDepth 100000 in
theorem laws_sP49 {Q : Exit → Act → World → Prop} {a0 : Act} {w0 : World} {zA zB zC : Int} (E : LawsE a0 w0 zA zB zC) (_hgz : Int.gcd zA zB ≠ 0) : StepOk Tryd.prog Q (regionOf Tryd.f6 11) (lawsSpP zA zB zC) a0 w0 [7, 9, 11, 13, 15, 17] 49 := by
  intro a w hb hk hp
  have pg : slotOf (regionOf Tryd.f6 11).toArray a 46 = .bool true := hp 46 rfl
  exact st_want (wanted_slot rfl pg rfl) (st_load (hk 11 (by decide)) E.tC hb)
set_option maxRecDepth 100000 in
theorem laws_sP50 {Q : Exit → Act → World → Prop} {a0 : Act} {w0 : World} {zA zB zC : Int} (E : LawsE a0 w0 zA zB zC) (_hgz : Int.gcd zA zB ≠ 0) : StepOk Tryd.prog Q (regionOf Tryd.f6 11) (lawsSpP zA zB zC) a0 w0 [7, 9, 11, 13, 15, 17] 50 := by
  intro a w _hb _hk hp
  have pg : slotOf (regionOf Tryd.f6 11).toArray a 46 = .bool true := hp 46 rfl
  have p0 : (Sp.num (zB)).ok w (a.tmps.getD 104 undef) := hp 48 rfl
  have p1 : (Sp.num (zC)).ok w (a.tmps.getD 105 undef) := hp 49 rfl
  exact st_want (wanted_slot rfl pg rfl) (st_Add p0 p1 E.hB E.hC (by decide) (by decide))
set_option maxRecDepth 100000 in
theorem laws_sP51 {Q : Exit → Act → World → Prop} {a0 : Act} {w0 : World} {zA zB zC : Int} (E : LawsE a0 w0 zA zB zC) (_hgz : Int.gcd zA zB ≠ 0) : StepOk Tryd.prog Q (regionOf Tryd.f6 11) (lawsSpP zA zB zC) a0 w0 [7, 9, 11, 13, 15, 17] 51 := by
  intro a w _hb _hk hp
  have pg : slotOf (regionOf Tryd.f6 11).toArray a 46 = .bool true := hp 46 rfl
  have p0 : (Sp.num (zA)).ok w (a.tmps.getD 103 undef) := hp 47 rfl
  have p1 : (Sp.num (zB + zC)).ok w (a.tmps.getD 106 undef) := hp 50 rfl
  exact st_want (wanted_slot rfl pg rfl) (st_Mul p0 p1 E.hA (add_lt2 E.hB E.hC) (by decide) (by decide))
set_option maxRecDepth 100000 in
theorem laws_sP52 {Q : Exit → Act → World → Prop} {a0 : Act} {w0 : World} {zA zB zC : Int} (E : LawsE a0 w0 zA zB zC) (_hgz : Int.gcd zA zB ≠ 0) : StepOk Tryd.prog Q (regionOf Tryd.f6 11) (lawsSpP zA zB zC) a0 w0 [7, 9, 11, 13, 15, 17] 52 := by
  intro a w hb hk hp
  have pg : slotOf (regionOf Tryd.f6 11).toArray a 46 = .bool true := hp 46 rfl
  exact st_want (wanted_slot rfl pg rfl) (st_load (hk 7 (by decide)) E.tA hb)
set_option maxRecDepth 100000 in
theorem laws_sP53 {Q : Exit → Act → World → Prop} {a0 : Act} {w0 : World} {zA zB zC : Int} (E : LawsE a0 w0 zA zB zC) (_hgz : Int.gcd zA zB ≠ 0) : StepOk Tryd.prog Q (regionOf Tryd.f6 11) (lawsSpP zA zB zC) a0 w0 [7, 9, 11, 13, 15, 17] 53 := by
  intro a w hb hk hp
  have pg : slotOf (regionOf Tryd.f6 11).toArray a 46 = .bool true := hp 46 rfl
  exact st_want (wanted_slot rfl pg rfl) (st_load (hk 9 (by decide)) E.tB hb)
set_option maxRecDepth 100000 in
theorem laws_sP54 {Q : Exit → Act → World → Prop} {a0 : Act} {w0 : World} {zA zB zC : Int} (E : LawsE a0 w0 zA zB zC) (_hgz : Int.gcd zA zB ≠ 0) : StepOk Tryd.prog Q (regionOf Tryd.f6 11) (lawsSpP zA zB zC) a0 w0 [7, 9, 11, 13, 15, 17] 54 := by
  intro a w _hb _hk hp
  have pg : slotOf (regionOf Tryd.f6 11).toArray a 46 = .bool true := hp 46 rfl
  have p0 : (Sp.num (zA)).ok w (a.tmps.getD 108 undef) := hp 52 rfl
  have p1 : (Sp.num (zB)).ok w (a.tmps.getD 109 undef) := hp 53 rfl
  exact st_want (wanted_slot rfl pg rfl) (st_Mul p0 p1 E.hA E.hB (by decide) (by decide))
set_option maxRecDepth 100000 in
theorem laws_sP55 {Q : Exit → Act → World → Prop} {a0 : Act} {w0 : World} {zA zB zC : Int} (E : LawsE a0 w0 zA zB zC) (_hgz : Int.gcd zA zB ≠ 0) : StepOk Tryd.prog Q (regionOf Tryd.f6 11) (lawsSpP zA zB zC) a0 w0 [7, 9, 11, 13, 15, 17] 55 := by
  intro a w hb hk hp
  have pg : slotOf (regionOf Tryd.f6 11).toArray a 46 = .bool true := hp 46 rfl
  exact st_want (wanted_slot rfl pg rfl) (st_load (hk 7 (by decide)) E.tA hb)
set_option maxRecDepth 100000 in
theorem laws_sP56 {Q : Exit → Act → World → Prop} {a0 : Act} {w0 : World} {zA zB zC : Int} (E : LawsE a0 w0 zA zB zC) (_hgz : Int.gcd zA zB ≠ 0) : StepOk Tryd.prog Q (regionOf Tryd.f6 11) (lawsSpP zA zB zC) a0 w0 [7, 9, 11, 13, 15, 17] 56 := by
  intro a w hb hk hp
  have pg : slotOf (regionOf Tryd.f6 11).toArray a 46 = .bool true := hp 46 rfl
  exact st_want (wanted_slot rfl pg rfl) (st_load (hk 11 (by decide)) E.tC hb)
set_option maxRecDepth 100000 in
theorem laws_sP57 {Q : Exit → Act → World → Prop} {a0 : Act} {w0 : World} {zA zB zC : Int} (E : LawsE a0 w0 zA zB zC) (_hgz : Int.gcd zA zB ≠ 0) : StepOk Tryd.prog Q (regionOf Tryd.f6 11) (lawsSpP zA zB zC) a0 w0 [7, 9, 11, 13, 15, 17] 57 := by
  intro a w _hb _hk hp
  have pg : slotOf (regionOf Tryd.f6 11).toArray a 46 = .bool true := hp 46 rfl
  have p0 : (Sp.num (zA)).ok w (a.tmps.getD 111 undef) := hp 55 rfl
  have p1 : (Sp.num (zC)).ok w (a.tmps.getD 112 undef) := hp 56 rfl
  exact st_want (wanted_slot rfl pg rfl) (st_Mul p0 p1 E.hA E.hC (by decide) (by decide))
set_option maxRecDepth 100000 in
theorem laws_sP58 {Q : Exit → Act → World → Prop} {a0 : Act} {w0 : World} {zA zB zC : Int} (E : LawsE a0 w0 zA zB zC) (_hgz : Int.gcd zA zB ≠ 0) : StepOk Tryd.prog Q (regionOf Tryd.f6 11) (lawsSpP zA zB zC) a0 w0 [7, 9, 11, 13, 15, 17] 58 := by
  intro a w _hb _hk hp
  have pg : slotOf (regionOf Tryd.f6 11).toArray a 46 = .bool true := hp 46 rfl
  have p0 : (Sp.num (zA * zB)).ok w (a.tmps.getD 110 undef) := hp 54 rfl
  have p1 : (Sp.num (zA * zC)).ok w (a.tmps.getD 113 undef) := hp 57 rfl
  exact st_want (wanted_slot rfl pg rfl) (st_Add p0 p1 (mul_lt E.hA E.hB) (mul_lt E.hA E.hC) (by decide) (by decide))
set_option maxRecDepth 100000 in
theorem laws_sP59 {Q : Exit → Act → World → Prop} {a0 : Act} {w0 : World} {zA zB zC : Int} (E : LawsE a0 w0 zA zB zC) (_hgz : Int.gcd zA zB ≠ 0) : StepOk Tryd.prog Q (regionOf Tryd.f6 11) (lawsSpP zA zB zC) a0 w0 [7, 9, 11, 13, 15, 17] 59 := by
  intro a w _hb _hk hp
  have pg : slotOf (regionOf Tryd.f6 11).toArray a 46 = .bool true := hp 46 rfl
  have p0 : (Sp.num (zA * (zB + zC))).ok w (a.tmps.getD 107 undef) := hp 51 rfl
  have p1 : (Sp.num (zA * zB + (zA * zC))).ok w (a.tmps.getD 114 undef) := hp 58 rfl
  exact st_want (wanted_slot rfl pg rfl) (st_Cmp p0 p1 (mul_lt E.hA (add_lt2 E.hB E.hC)) (add_lt2 (mul_lt E.hA E.hB) (mul_lt E.hA E.hC)) (by decide) (by decide) (cmpI_eq (Int.mul_add _ _ _)))
set_option maxRecDepth 100000 in
theorem laws_sP60 {Q : Exit → Act → World → Prop} {a0 : Act} {w0 : World} {zA zB zC : Int} (_E : LawsE a0 w0 zA zB zC) (_hgz : Int.gcd zA zB ≠ 0) : StepOk Tryd.prog Q (regionOf Tryd.f6 11) (lawsSpP zA zB zC) a0 w0 [7, 9, 11, 13, 15, 17] 60 := by
  intro a w _hb _hk hp
  have pg : slotOf (regionOf Tryd.f6 11).toArray a 46 = .bool true := hp 46 rfl
  have p0 : (Sp.int (0)).ok w (a.tmps.getD 115 undef) := hp 59 rfl
  exact st_want (wanted_slot rfl pg rfl) (st_eql0 p0 (rfl))
set_option maxRecDepth 100000 in
theorem laws_sP61 {Q : Exit → Act → World → Prop} {a0 : Act} {w0 : World} {zA zB zC : Int} (_E : LawsE a0 w0 zA zB zC) (_hgz : Int.gcd zA zB ≠ 0) : StepOk Tryd.prog Q (regionOf Tryd.f6 11) (lawsSpP zA zB zC) a0 w0 [7, 9, 11, 13, 15, 17] 61 := by
  intro a w _hb _hk hp
  have p0 : (Sp.bool true).ok w (a.tmps.getD 102 undef) := hp 46 rfl
  have p1 : (Sp.bool true).ok w (a.tmps.getD 116 undef) := hp 60 rfl
  exact st_want (wanted_none rfl) (st_pick p0 p1)
set_option maxRecDepth 100000 in
theorem laws_sP62 {Q : Exit → Act → World → Prop} {a0 : Act} {w0 : World} {zA zB zC : Int} (_E : LawsE a0 w0 zA zB zC) (_hgz : Int.gcd zA zB ≠ 0) : StepOk Tryd.prog Q (regionOf Tryd.f6 11) (lawsSpP zA zB zC) a0 w0 [7, 9, 11, 13, 15, 17] 62 := by
  intro a w _hb _hk hp
  have p0 : (Sp.bool true).ok w (a.tmps.getD 117 undef) := hp 61 rfl
  exact st_want (wanted_none rfl) (st_move p0)
set_option maxRecDepth 100000 in
theorem laws_sP63 {Q : Exit → Act → World → Prop} {a0 : Act} {w0 : World} {zA zB zC : Int} (E : LawsE a0 w0 zA zB zC) (_hgz : Int.gcd zA zB ≠ 0) : StepOk Tryd.prog Q (regionOf Tryd.f6 11) (lawsSpP zA zB zC) a0 w0 [7, 9, 11, 13, 15, 17] 63 := by
  intro a w hb hk hp
  have pg : slotOf (regionOf Tryd.f6 11).toArray a 62 = .bool true := hp 62 rfl
  exact st_want (wanted_slot rfl pg rfl) (st_load (hk 7 (by decide)) E.tA hb)
set_option maxRecDepth 100000 in
theorem laws_sP64 {Q : Exit → Act → World → Prop} {a0 : Act} {w0 : World} {zA zB zC : Int} (E : LawsE a0 w0 zA zB zC) (_hgz : Int.gcd zA zB ≠ 0) : StepOk Tryd.prog Q (regionOf Tryd.f6 11) (lawsSpP zA zB zC) a0 w0 [7, 9, 11, 13, 15, 17] 64 := by
  intro a w hb hk hp
  have pg : slotOf (regionOf Tryd.f6 11).toArray a 62 = .bool true := hp 62 rfl
  exact st_want (wanted_slot rfl pg rfl) (st_load (hk 9 (by decide)) E.tB hb)
set_option maxRecDepth 100000 in
theorem laws_sP65 {Q : Exit → Act → World → Prop} {a0 : Act} {w0 : World} {zA zB zC : Int} (E : LawsE a0 w0 zA zB zC) (_hgz : Int.gcd zA zB ≠ 0) : StepOk Tryd.prog Q (regionOf Tryd.f6 11) (lawsSpP zA zB zC) a0 w0 [7, 9, 11, 13, 15, 17] 65 := by
  intro a w _hb _hk hp
  have pg : slotOf (regionOf Tryd.f6 11).toArray a 62 = .bool true := hp 62 rfl
  have p0 : (Sp.num (zA)).ok w (a.tmps.getD 119 undef) := hp 63 rfl
  have p1 : (Sp.num (zB)).ok w (a.tmps.getD 120 undef) := hp 64 rfl
  exact st_want (wanted_slot rfl pg rfl) (st_Sub p0 p1 E.hA E.hB (by decide) (by decide))
set_option maxRecDepth 100000 in
theorem laws_sP66 {Q : Exit → Act → World → Prop} {a0 : Act} {w0 : World} {zA zB zC : Int} (E : LawsE a0 w0 zA zB zC) (_hgz : Int.gcd zA zB ≠ 0) : StepOk Tryd.prog Q (regionOf Tryd.f6 11) (lawsSpP zA zB zC) a0 w0 [7, 9, 11, 13, 15, 17] 66 := by
  intro a w hb hk hp
  have pg : slotOf (regionOf Tryd.f6 11).toArray a 62 = .bool true := hp 62 rfl
  exact st_want (wanted_slot rfl pg rfl) (st_load (hk 9 (by decide)) E.tB hb)
set_option maxRecDepth 100000 in
theorem laws_sP67 {Q : Exit → Act → World → Prop} {a0 : Act} {w0 : World} {zA zB zC : Int} (E : LawsE a0 w0 zA zB zC) (_hgz : Int.gcd zA zB ≠ 0) : StepOk Tryd.prog Q (regionOf Tryd.f6 11) (lawsSpP zA zB zC) a0 w0 [7, 9, 11, 13, 15, 17] 67 := by
  intro a w _hb _hk hp
  have pg : slotOf (regionOf Tryd.f6 11).toArray a 62 = .bool true := hp 62 rfl
  have p0 : (Sp.num (zA - zB)).ok w (a.tmps.getD 121 undef) := hp 65 rfl
  have p1 : (Sp.num (zB)).ok w (a.tmps.getD 122 undef) := hp 66 rfl
  exact st_want (wanted_slot rfl pg rfl) (st_Add p0 p1 (sub_lt2 E.hA E.hB) E.hB (by decide) (by decide))
set_option maxRecDepth 100000 in
theorem laws_sP68 {Q : Exit → Act → World → Prop} {a0 : Act} {w0 : World} {zA zB zC : Int} (E : LawsE a0 w0 zA zB zC) (_hgz : Int.gcd zA zB ≠ 0) : StepOk Tryd.prog Q (regionOf Tryd.f6 11) (lawsSpP zA zB zC) a0 w0 [7, 9, 11, 13, 15, 17] 68 := by
  intro a w hb hk hp
  have pg : slotOf (regionOf Tryd.f6 11).toArray a 62 = .bool true := hp 62 rfl
  exact st_want (wanted_slot rfl pg rfl) (st_load (hk 7 (by decide)) E.tA hb)
set_option maxRecDepth 100000 in
theorem laws_sP69 {Q : Exit → Act → World → Prop} {a0 : Act} {w0 : World} {zA zB zC : Int} (E : LawsE a0 w0 zA zB zC) (_hgz : Int.gcd zA zB ≠ 0) : StepOk Tryd.prog Q (regionOf Tryd.f6 11) (lawsSpP zA zB zC) a0 w0 [7, 9, 11, 13, 15, 17] 69 := by
  intro a w _hb _hk hp
  have pg : slotOf (regionOf Tryd.f6 11).toArray a 62 = .bool true := hp 62 rfl
  have p0 : (Sp.num (zA - zB + zB)).ok w (a.tmps.getD 123 undef) := hp 67 rfl
  have p1 : (Sp.num (zA)).ok w (a.tmps.getD 124 undef) := hp 68 rfl
  exact st_want (wanted_slot rfl pg rfl) (st_Cmp p0 p1 (add_lt2 (sub_lt2 E.hA E.hB) E.hB) E.hA (by decide) (by decide) (cmpI_eq (Int.sub_add_cancel _ _)))
set_option maxRecDepth 100000 in
theorem laws_sP70 {Q : Exit → Act → World → Prop} {a0 : Act} {w0 : World} {zA zB zC : Int} (_E : LawsE a0 w0 zA zB zC) (_hgz : Int.gcd zA zB ≠ 0) : StepOk Tryd.prog Q (regionOf Tryd.f6 11) (lawsSpP zA zB zC) a0 w0 [7, 9, 11, 13, 15, 17] 70 := by
  intro a w _hb _hk hp
  have pg : slotOf (regionOf Tryd.f6 11).toArray a 62 = .bool true := hp 62 rfl
  have p0 : (Sp.int (0)).ok w (a.tmps.getD 125 undef) := hp 69 rfl
  exact st_want (wanted_slot rfl pg rfl) (st_eql0 p0 (rfl))
set_option maxRecDepth 100000 in
theorem laws_sP71 {Q : Exit → Act → World → Prop} {a0 : Act} {w0 : World} {zA zB zC : Int} (_E : LawsE a0 w0 zA zB zC) (_hgz : Int.gcd zA zB ≠ 0) : StepOk Tryd.prog Q (regionOf Tryd.f6 11) (lawsSpP zA zB zC) a0 w0 [7, 9, 11, 13, 15, 17] 71 := by
  intro a w _hb _hk hp
  have p0 : (Sp.bool true).ok w (a.tmps.getD 118 undef) := hp 62 rfl
  have p1 : (Sp.bool true).ok w (a.tmps.getD 126 undef) := hp 70 rfl
  exact st_want (wanted_none rfl) (st_pick p0 p1)
set_option maxRecDepth 100000 in
theorem laws_sP72 {Q : Exit → Act → World → Prop} {a0 : Act} {w0 : World} {zA zB zC : Int} (_E : LawsE a0 w0 zA zB zC) (_hgz : Int.gcd zA zB ≠ 0) : StepOk Tryd.prog Q (regionOf Tryd.f6 11) (lawsSpP zA zB zC) a0 w0 [7, 9, 11, 13, 15, 17] 72 := by
  intro a w _hb _hk hp
  have p0 : (Sp.bool true).ok w (a.tmps.getD 127 undef) := hp 71 rfl
  exact st_want (wanted_none rfl) (st_move p0)
set_option maxRecDepth 100000 in
theorem laws_sP73 {Q : Exit → Act → World → Prop} {a0 : Act} {w0 : World} {zA zB zC : Int} (E : LawsE a0 w0 zA zB zC) (_hgz : Int.gcd zA zB ≠ 0) : StepOk Tryd.prog Q (regionOf Tryd.f6 11) (lawsSpP zA zB zC) a0 w0 [7, 9, 11, 13, 15, 17] 73 := by
  intro a w hb hk hp
  have pg : slotOf (regionOf Tryd.f6 11).toArray a 72 = .bool true := hp 72 rfl
  exact st_want (wanted_slot rfl pg rfl) (st_load (hk 7 (by decide)) E.tA hb)
set_option maxRecDepth 100000 in
theorem laws_sP74 {Q : Exit → Act → World → Prop} {a0 : Act} {w0 : World} {zA zB zC : Int} (E : LawsE a0 w0 zA zB zC) (_hgz : Int.gcd zA zB ≠ 0) : StepOk Tryd.prog Q (regionOf Tryd.f6 11) (lawsSpP zA zB zC) a0 w0 [7, 9, 11, 13, 15, 17] 74 := by
  intro a w hb hk hp
  have pg : slotOf (regionOf Tryd.f6 11).toArray a 72 = .bool true := hp 72 rfl
  exact st_want (wanted_slot rfl pg rfl) (st_load (hk 7 (by decide)) E.tA hb)
set_option maxRecDepth 100000 in
theorem laws_sP75 {Q : Exit → Act → World → Prop} {a0 : Act} {w0 : World} {zA zB zC : Int} (E : LawsE a0 w0 zA zB zC) (_hgz : Int.gcd zA zB ≠ 0) : StepOk Tryd.prog Q (regionOf Tryd.f6 11) (lawsSpP zA zB zC) a0 w0 [7, 9, 11, 13, 15, 17] 75 := by
  intro a w _hb _hk hp
  have pg : slotOf (regionOf Tryd.f6 11).toArray a 72 = .bool true := hp 72 rfl
  have p0 : (Sp.num (zA)).ok w (a.tmps.getD 130 undef) := hp 74 rfl
  exact st_want (wanted_slot rfl pg rfl) (st_Neg p0 E.hA (by decide))
set_option maxRecDepth 100000 in
theorem laws_sP76 {Q : Exit → Act → World → Prop} {a0 : Act} {w0 : World} {zA zB zC : Int} (E : LawsE a0 w0 zA zB zC) (_hgz : Int.gcd zA zB ≠ 0) : StepOk Tryd.prog Q (regionOf Tryd.f6 11) (lawsSpP zA zB zC) a0 w0 [7, 9, 11, 13, 15, 17] 76 := by
  intro a w _hb _hk hp
  have pg : slotOf (regionOf Tryd.f6 11).toArray a 72 = .bool true := hp 72 rfl
  have p0 : (Sp.num (zA)).ok w (a.tmps.getD 129 undef) := hp 73 rfl
  have p1 : (Sp.num (-zA)).ok w (a.tmps.getD 131 undef) := hp 75 rfl
  exact st_want (wanted_slot rfl pg rfl) (st_Add p0 p1 E.hA (neg_pw E.hA) (by decide) (by decide))
set_option maxRecDepth 100000 in
theorem laws_sP77 {Q : Exit → Act → World → Prop} {a0 : Act} {w0 : World} {zA zB zC : Int} (_E : LawsE a0 w0 zA zB zC) (_hgz : Int.gcd zA zB ≠ 0) : StepOk Tryd.prog Q (regionOf Tryd.f6 11) (lawsSpP zA zB zC) a0 w0 [7, 9, 11, 13, 15, 17] 77 := by
  intro a w _hb _hk hp
  have pg : slotOf (regionOf Tryd.f6 11).toArray a 72 = .bool true := hp 72 rfl
  have p0 : (Sp.num (zA + (-zA))).ok w (a.tmps.getD 132 undef) := hp 76 rfl
  exact st_want (wanted_slot rfl pg rfl) (st_Sign p0 (by rw [Int.add_right_neg]; rfl))
set_option maxRecDepth 100000 in
theorem laws_sP78 {Q : Exit → Act → World → Prop} {a0 : Act} {w0 : World} {zA zB zC : Int} (_E : LawsE a0 w0 zA zB zC) (_hgz : Int.gcd zA zB ≠ 0) : StepOk Tryd.prog Q (regionOf Tryd.f6 11) (lawsSpP zA zB zC) a0 w0 [7, 9, 11, 13, 15, 17] 78 := by
  intro a w _hb _hk hp
  have pg : slotOf (regionOf Tryd.f6 11).toArray a 72 = .bool true := hp 72 rfl
  have p0 : (Sp.int (0)).ok w (a.tmps.getD 133 undef) := hp 77 rfl
  exact st_want (wanted_slot rfl pg rfl) (st_eql0 p0 (rfl))
set_option maxRecDepth 100000 in
theorem laws_sP79 {Q : Exit → Act → World → Prop} {a0 : Act} {w0 : World} {zA zB zC : Int} (_E : LawsE a0 w0 zA zB zC) (_hgz : Int.gcd zA zB ≠ 0) : StepOk Tryd.prog Q (regionOf Tryd.f6 11) (lawsSpP zA zB zC) a0 w0 [7, 9, 11, 13, 15, 17] 79 := by
  intro a w _hb _hk hp
  have p0 : (Sp.bool true).ok w (a.tmps.getD 128 undef) := hp 72 rfl
  have p1 : (Sp.bool true).ok w (a.tmps.getD 134 undef) := hp 78 rfl
  exact st_want (wanted_none rfl) (st_pick p0 p1)
set_option maxRecDepth 100000 in
theorem laws_sP80 {Q : Exit → Act → World → Prop} {a0 : Act} {w0 : World} {zA zB zC : Int} (_E : LawsE a0 w0 zA zB zC) (_hgz : Int.gcd zA zB ≠ 0) : StepOk Tryd.prog Q (regionOf Tryd.f6 11) (lawsSpP zA zB zC) a0 w0 [7, 9, 11, 13, 15, 17] 80 := by
  intro a w _hb _hk hp
  have p0 : (Sp.bool true).ok w (a.tmps.getD 135 undef) := hp 79 rfl
  exact st_want (wanted_none rfl) (st_move p0)
set_option maxRecDepth 100000 in
theorem laws_sP81 {Q : Exit → Act → World → Prop} {a0 : Act} {w0 : World} {zA zB zC : Int} (E : LawsE a0 w0 zA zB zC) (_hgz : Int.gcd zA zB ≠ 0) : StepOk Tryd.prog Q (regionOf Tryd.f6 11) (lawsSpP zA zB zC) a0 w0 [7, 9, 11, 13, 15, 17] 81 := by
  intro a w hb hk hp
  have pg : slotOf (regionOf Tryd.f6 11).toArray a 80 = .bool true := hp 80 rfl
  exact st_want (wanted_slot rfl pg rfl) (st_load (hk 13 (by decide)) E.tG hb)
set_option maxRecDepth 100000 in
theorem laws_sP82 {Q : Exit → Act → World → Prop} {a0 : Act} {w0 : World} {zA zB zC : Int} (_E : LawsE a0 w0 zA zB zC) (_hgz : Int.gcd zA zB ≠ 0) : StepOk Tryd.prog Q (regionOf Tryd.f6 11) (lawsSpP zA zB zC) a0 w0 [7, 9, 11, 13, 15, 17] 82 := by
  intro a w _hb _hk hp
  have pg : slotOf (regionOf Tryd.f6 11).toArray a 80 = .bool true := hp 80 rfl
  have p0 : (Sp.num ((Int.gcd zA zB : Int))).ok w (a.tmps.getD 137 undef) := hp 81 rfl
  exact st_want (wanted_slot rfl pg rfl) (st_Sign p0 (sgn_pos (by omega)))
set_option maxRecDepth 100000 in
theorem laws_sP83 {Q : Exit → Act → World → Prop} {a0 : Act} {w0 : World} {zA zB zC : Int} (_E : LawsE a0 w0 zA zB zC) (_hgz : Int.gcd zA zB ≠ 0) : StepOk Tryd.prog Q (regionOf Tryd.f6 11) (lawsSpP zA zB zC) a0 w0 [7, 9, 11, 13, 15, 17] 83 := by
  intro a w _hb _hk hp
  have pg : slotOf (regionOf Tryd.f6 11).toArray a 80 = .bool true := hp 80 rfl
  have p0 : (Sp.int (1)).ok w (a.tmps.getD 138 undef) := hp 82 rfl
  exact st_want (wanted_slot rfl pg rfl) (st_eql0 p0 (rfl))
set_option maxRecDepth 100000 in
theorem laws_sP84 {Q : Exit → Act → World → Prop} {a0 : Act} {w0 : World} {zA zB zC : Int} (_E : LawsE a0 w0 zA zB zC) (_hgz : Int.gcd zA zB ≠ 0) : StepOk Tryd.prog Q (regionOf Tryd.f6 11) (lawsSpP zA zB zC) a0 w0 [7, 9, 11, 13, 15, 17] 84 := by
  intro a w _hb _hk hp
  have pg : slotOf (regionOf Tryd.f6 11).toArray a 80 = .bool true := hp 80 rfl
  have p0 : (Sp.bool false).ok w (a.tmps.getD 139 undef) := hp 83 rfl
  exact st_want (wanted_slot rfl pg rfl) (st_move p0)
set_option maxRecDepth 100000 in
theorem laws_sP85 {Q : Exit → Act → World → Prop} {a0 : Act} {w0 : World} {zA zB zC : Int} (E : LawsE a0 w0 zA zB zC) (_hgz : Int.gcd zA zB ≠ 0) : StepOk Tryd.prog Q (regionOf Tryd.f6 11) (lawsSpP zA zB zC) a0 w0 [7, 9, 11, 13, 15, 17] 85 := by
  intro a w hb hk hp
  have pg : slotOf (regionOf Tryd.f6 11).toArray a 84 = .bool false := hp 84 rfl
  exact st_want (wanted_slot rfl pg rfl) (st_load (hk 15 (by decide)) E.tX hb)
set_option maxRecDepth 100000 in
theorem laws_sP86 {Q : Exit → Act → World → Prop} {a0 : Act} {w0 : World} {zA zB zC : Int} (_E : LawsE a0 w0 zA zB zC) (hgz : Int.gcd zA zB ≠ 0) : StepOk Tryd.prog Q (regionOf Tryd.f6 11) (lawsSpP zA zB zC) a0 w0 [7, 9, 11, 13, 15, 17] 86 := by
  intro a w _hb _hk hp
  have pg : slotOf (regionOf Tryd.f6 11).toArray a 84 = .bool false := hp 84 rfl
  have p0 : (Sp.num (zA % (Int.gcd zA zB : Int))).ok w (a.tmps.getD 141 undef) := hp 85 rfl
  exact st_want (wanted_slot rfl pg rfl) (st_Sign p0 (by rw [(mod_gcd zA zB hgz).1]; rfl))
set_option maxRecDepth 100000 in
theorem laws_sP87 {Q : Exit → Act → World → Prop} {a0 : Act} {w0 : World} {zA zB zC : Int} (_E : LawsE a0 w0 zA zB zC) (_hgz : Int.gcd zA zB ≠ 0) : StepOk Tryd.prog Q (regionOf Tryd.f6 11) (lawsSpP zA zB zC) a0 w0 [7, 9, 11, 13, 15, 17] 87 := by
  intro a w _hb _hk hp
  have pg : slotOf (regionOf Tryd.f6 11).toArray a 84 = .bool false := hp 84 rfl
  have p0 : (Sp.int (0)).ok w (a.tmps.getD 142 undef) := hp 86 rfl
  exact st_want (wanted_slot rfl pg rfl) (st_eql0 p0 (rfl))
set_option maxRecDepth 100000 in
theorem laws_sP88 {Q : Exit → Act → World → Prop} {a0 : Act} {w0 : World} {zA zB zC : Int} (_E : LawsE a0 w0 zA zB zC) (_hgz : Int.gcd zA zB ≠ 0) : StepOk Tryd.prog Q (regionOf Tryd.f6 11) (lawsSpP zA zB zC) a0 w0 [7, 9, 11, 13, 15, 17] 88 := by
  intro a w _hb _hk hp
  have pg : slotOf (regionOf Tryd.f6 11).toArray a 84 = .bool false := hp 84 rfl
  have p0 : (Sp.bool true).ok w (a.tmps.getD 143 undef) := hp 87 rfl
  exact st_want (wanted_slot rfl pg rfl) (st_move p0)
set_option maxRecDepth 100000 in
theorem laws_sP89 {Q : Exit → Act → World → Prop} {a0 : Act} {w0 : World} {zA zB zC : Int} (E : LawsE a0 w0 zA zB zC) (_hgz : Int.gcd zA zB ≠ 0) : StepOk Tryd.prog Q (regionOf Tryd.f6 11) (lawsSpP zA zB zC) a0 w0 [7, 9, 11, 13, 15, 17] 89 := by
  intro a w hb hk hp
  have pg : slotOf (regionOf Tryd.f6 11).toArray a 88 = .bool true := hp 88 rfl
  exact st_want (wanted_slot rfl pg rfl) (st_load (hk 17 (by decide)) E.tY hb)
set_option maxRecDepth 100000 in
theorem laws_sP90 {Q : Exit → Act → World → Prop} {a0 : Act} {w0 : World} {zA zB zC : Int} (_E : LawsE a0 w0 zA zB zC) (hgz : Int.gcd zA zB ≠ 0) : StepOk Tryd.prog Q (regionOf Tryd.f6 11) (lawsSpP zA zB zC) a0 w0 [7, 9, 11, 13, 15, 17] 90 := by
  intro a w _hb _hk hp
  have pg : slotOf (regionOf Tryd.f6 11).toArray a 88 = .bool true := hp 88 rfl
  have p0 : (Sp.num (zB % (Int.gcd zA zB : Int))).ok w (a.tmps.getD 145 undef) := hp 89 rfl
  exact st_want (wanted_slot rfl pg rfl) (st_Sign p0 (by rw [(mod_gcd zA zB hgz).2]; rfl))
set_option maxRecDepth 100000 in
theorem laws_sP91 {Q : Exit → Act → World → Prop} {a0 : Act} {w0 : World} {zA zB zC : Int} (_E : LawsE a0 w0 zA zB zC) (_hgz : Int.gcd zA zB ≠ 0) : StepOk Tryd.prog Q (regionOf Tryd.f6 11) (lawsSpP zA zB zC) a0 w0 [7, 9, 11, 13, 15, 17] 91 := by
  intro a w _hb _hk hp
  have pg : slotOf (regionOf Tryd.f6 11).toArray a 88 = .bool true := hp 88 rfl
  have p0 : (Sp.int (0)).ok w (a.tmps.getD 146 undef) := hp 90 rfl
  exact st_want (wanted_slot rfl pg rfl) (st_eql0 p0 (rfl))
set_option maxRecDepth 100000 in
theorem laws_sP92 {Q : Exit → Act → World → Prop} {a0 : Act} {w0 : World} {zA zB zC : Int} (_E : LawsE a0 w0 zA zB zC) (_hgz : Int.gcd zA zB ≠ 0) : StepOk Tryd.prog Q (regionOf Tryd.f6 11) (lawsSpP zA zB zC) a0 w0 [7, 9, 11, 13, 15, 17] 92 := by
  intro a w _hb _hk hp
  have pg : slotOf (regionOf Tryd.f6 11).toArray a 84 = .bool false := hp 84 rfl
  have p0 : (Sp.bool true).ok w (a.tmps.getD 144 undef) := hp 88 rfl
  have p1 : (Sp.bool true).ok w (a.tmps.getD 147 undef) := hp 91 rfl
  exact st_want (wanted_slot rfl pg rfl) (st_pick p0 p1)
set_option maxRecDepth 100000 in
theorem laws_sP93 {Q : Exit → Act → World → Prop} {a0 : Act} {w0 : World} {zA zB zC : Int} (_E : LawsE a0 w0 zA zB zC) (_hgz : Int.gcd zA zB ≠ 0) : StepOk Tryd.prog Q (regionOf Tryd.f6 11) (lawsSpP zA zB zC) a0 w0 [7, 9, 11, 13, 15, 17] 93 := by
  intro a w _hb _hk hp
  have pg : slotOf (regionOf Tryd.f6 11).toArray a 80 = .bool true := hp 80 rfl
  have p0 : (Sp.bool false).ok w (a.tmps.getD 140 undef) := hp 84 rfl
  have p1 : (Sp.bool true).ok w (a.tmps.getD 148 undef) := hp 92 rfl
  exact st_want (wanted_slot rfl pg rfl) (st_pick p0 p1)
set_option maxRecDepth 100000 in
theorem laws_sP94 {Q : Exit → Act → World → Prop} {a0 : Act} {w0 : World} {zA zB zC : Int} (_E : LawsE a0 w0 zA zB zC) (_hgz : Int.gcd zA zB ≠ 0) : StepOk Tryd.prog Q (regionOf Tryd.f6 11) (lawsSpP zA zB zC) a0 w0 [7, 9, 11, 13, 15, 17] 94 := by
  intro a w _hb _hk hp
  have p0 : (Sp.bool true).ok w (a.tmps.getD 136 undef) := hp 80 rfl
  have p1 : (Sp.bool true).ok w (a.tmps.getD 149 undef) := hp 93 rfl
  exact st_want (wanted_none rfl) (st_pick p0 p1)
set_option maxRecDepth 100000 in
theorem laws_sP95 {Q : Exit → Act → World → Prop} {a0 : Act} {w0 : World} {zA zB zC : Int} (_E : LawsE a0 w0 zA zB zC) (_hgz : Int.gcd zA zB ≠ 0) : StepOk Tryd.prog Q (regionOf Tryd.f6 11) (lawsSpP zA zB zC) a0 w0 [7, 9, 11, 13, 15, 17] 95 := by
  intro a w _hb _hk hp
  have p0 : (Sp.bool true).ok w (a.tmps.getD 150 undef) := hp 94 rfl
  exact st_want (wanted_none rfl) (st_move p0)
set_option maxRecDepth 100000 in
theorem laws_sP96 {Q : Exit → Act → World → Prop} {a0 : Act} {w0 : World} {zA zB zC : Int} (E : LawsE a0 w0 zA zB zC) (_hgz : Int.gcd zA zB ≠ 0) : StepOk Tryd.prog Q (regionOf Tryd.f6 11) (lawsSpP zA zB zC) a0 w0 [7, 9, 11, 13, 15, 17] 96 := by
  intro a w hb hk hp
  have pg : slotOf (regionOf Tryd.f6 11).toArray a 95 = .bool true := hp 95 rfl
  exact st_want (wanted_slot rfl pg rfl) (st_load (hk 7 (by decide)) E.tA hb)
set_option maxRecDepth 100000 in
theorem laws_sP97 {Q : Exit → Act → World → Prop} {a0 : Act} {w0 : World} {zA zB zC : Int} (E : LawsE a0 w0 zA zB zC) (_hgz : Int.gcd zA zB ≠ 0) : StepOk Tryd.prog Q (regionOf Tryd.f6 11) (lawsSpP zA zB zC) a0 w0 [7, 9, 11, 13, 15, 17] 97 := by
  intro a w hb hk hp
  have pg : slotOf (regionOf Tryd.f6 11).toArray a 95 = .bool true := hp 95 rfl
  exact st_want (wanted_slot rfl pg rfl) (st_load (hk 9 (by decide)) E.tB hb)
set_option maxRecDepth 100000 in
theorem laws_sP98 {Q : Exit → Act → World → Prop} {a0 : Act} {w0 : World} {zA zB zC : Int} (E : LawsE a0 w0 zA zB zC) (_hgz : Int.gcd zA zB ≠ 0) : StepOk Tryd.prog Q (regionOf Tryd.f6 11) (lawsSpP zA zB zC) a0 w0 [7, 9, 11, 13, 15, 17] 98 := by
  intro a w _hb _hk hp
  have pg : slotOf (regionOf Tryd.f6 11).toArray a 95 = .bool true := hp 95 rfl
  have p0 : (Sp.num (zA)).ok w (a.tmps.getD 152 undef) := hp 96 rfl
  have p1 : (Sp.num (zB)).ok w (a.tmps.getD 153 undef) := hp 97 rfl
  exact st_want (wanted_slot rfl pg rfl) (st_Sub p0 p1 E.hA E.hB (by decide) (by decide))
set_option maxRecDepth 100000 in
theorem laws_sP99 {Q : Exit → Act → World → Prop} {a0 : Act} {w0 : World} {zA zB zC : Int} (_E : LawsE a0 w0 zA zB zC) (_hgz : Int.gcd zA zB ≠ 0) : StepOk Tryd.prog Q (regionOf Tryd.f6 11) (lawsSpP zA zB zC) a0 w0 [7, 9, 11, 13, 15, 17] 99 := by
  intro a w _hb _hk hp
  have pg : slotOf (regionOf Tryd.f6 11).toArray a 95 = .bool true := hp 95 rfl
  have p0 : (Sp.num (zA - zB)).ok w (a.tmps.getD 154 undef) := hp 98 rfl
  exact st_want (wanted_slot rfl pg rfl) (st_Sign p0 (sgn_cmp _ _))
set_option maxRecDepth 100000 in
theorem laws_sP100 {Q : Exit → Act → World → Prop} {a0 : Act} {w0 : World} {zA zB zC : Int} (E : LawsE a0 w0 zA zB zC) (_hgz : Int.gcd zA zB ≠ 0) : StepOk Tryd.prog Q (regionOf Tryd.f6 11) (lawsSpP zA zB zC) a0 w0 [7, 9, 11, 13, 15, 17] 100 := by
  intro a w hb hk hp
  have pg : slotOf (regionOf Tryd.f6 11).toArray a 95 = .bool true := hp 95 rfl
  exact st_want (wanted_slot rfl pg rfl) (st_load (hk 7 (by decide)) E.tA hb)
set_option maxRecDepth 100000 in
theorem laws_sP101 {Q : Exit → Act → World → Prop} {a0 : Act} {w0 : World} {zA zB zC : Int} (E : LawsE a0 w0 zA zB zC) (_hgz : Int.gcd zA zB ≠ 0) : StepOk Tryd.prog Q (regionOf Tryd.f6 11) (lawsSpP zA zB zC) a0 w0 [7, 9, 11, 13, 15, 17] 101 := by
  intro a w hb hk hp
  have pg : slotOf (regionOf Tryd.f6 11).toArray a 95 = .bool true := hp 95 rfl
  exact st_want (wanted_slot rfl pg rfl) (st_load (hk 9 (by decide)) E.tB hb)
set_option maxRecDepth 100000 in
theorem laws_sP102 {Q : Exit → Act → World → Prop} {a0 : Act} {w0 : World} {zA zB zC : Int} (E : LawsE a0 w0 zA zB zC) (_hgz : Int.gcd zA zB ≠ 0) : StepOk Tryd.prog Q (regionOf Tryd.f6 11) (lawsSpP zA zB zC) a0 w0 [7, 9, 11, 13, 15, 17] 102 := by
  intro a w _hb _hk hp
  have pg : slotOf (regionOf Tryd.f6 11).toArray a 95 = .bool true := hp 95 rfl
  have p0 : (Sp.num (zA)).ok w (a.tmps.getD 156 undef) := hp 100 rfl
  have p1 : (Sp.num (zB)).ok w (a.tmps.getD 157 undef) := hp 101 rfl
  exact st_want (wanted_slot rfl pg rfl) (st_Cmp p0 p1 E.hA E.hB (by decide) (by decide) (rfl))
set_option maxRecDepth 100000 in
theorem laws_sP103 {Q : Exit → Act → World → Prop} {a0 : Act} {w0 : World} {zA zB zC : Int} (_E : LawsE a0 w0 zA zB zC) (_hgz : Int.gcd zA zB ≠ 0) : StepOk Tryd.prog Q (regionOf Tryd.f6 11) (lawsSpP zA zB zC) a0 w0 [7, 9, 11, 13, 15, 17] 103 := by
  intro a w _hb _hk hp
  have pg : slotOf (regionOf Tryd.f6 11).toArray a 95 = .bool true := hp 95 rfl
  have p0 : (Sp.int (cmpI zA zB)).ok w (a.tmps.getD 155 undef) := hp 99 rfl
  have p1 : (Sp.int (cmpI zA zB)).ok w (a.tmps.getD 158 undef) := hp 102 rfl
  exact st_want (wanted_slot rfl pg rfl) (st_eql p0 p1 (by simp))
set_option maxRecDepth 100000 in
theorem laws_sP104 {Q : Exit → Act → World → Prop} {a0 : Act} {w0 : World} {zA zB zC : Int} (_E : LawsE a0 w0 zA zB zC) (_hgz : Int.gcd zA zB ≠ 0) : StepOk Tryd.prog Q (regionOf Tryd.f6 11) (lawsSpP zA zB zC) a0 w0 [7, 9, 11, 13, 15, 17] 104 := by
  intro a w _hb _hk hp
  have p0 : (Sp.bool true).ok w (a.tmps.getD 151 undef) := hp 95 rfl
  have p1 : (Sp.bool true).ok w (a.tmps.getD 159 undef) := hp 103 rfl
  exact st_want (wanted_none rfl) (st_pick p0 p1)
set_option maxRecDepth 100000 in
theorem laws_sP105 {Q : Exit → Act → World → Prop} {a0 : Act} {w0 : World} {zA zB zC : Int} (_E : LawsE a0 w0 zA zB zC) (_hgz : Int.gcd zA zB ≠ 0) : StepOk Tryd.prog Q (regionOf Tryd.f6 11) (lawsSpP zA zB zC) a0 w0 [7, 9, 11, 13, 15, 17] 105 := by
  intro a w _hb _hk hp
  have p0 : (Sp.bool true).ok w (a.tmps.getD 160 undef) := hp 104 rfl
  exact st_want (wanted_none rfl) (st_assign p0)
set_option maxRecDepth 100000 in
theorem laws_allP {Q : Exit → Act → World → Prop} {a0 : Act} {w0 : World} {zA zB zC : Int} (E : LawsE a0 w0 zA zB zC) (hgz : Int.gcd zA zB ≠ 0) : ∀ i, i < 106 → StepOk Tryd.prog Q (regionOf Tryd.f6 11) (lawsSpP zA zB zC) a0 w0 [7, 9, 11, 13, 15, 17] i :=
  flip lt_step (laws_sP105 E hgz) <| flip lt_step (laws_sP104 E hgz) <| flip lt_step (laws_sP103 E hgz) <| flip lt_step (laws_sP102 E hgz) <| flip lt_step (laws_sP101 E hgz) <| flip lt_step (laws_sP100 E hgz) <| flip lt_step (laws_sP99 E hgz) <| flip lt_step (laws_sP98 E hgz) <| flip lt_step (laws_sP97 E hgz) <| flip lt_step (laws_sP96 E hgz) <| flip lt_step (laws_sP95 E hgz) <| flip lt_step (laws_sP94 E hgz) <| flip lt_step (laws_sP93 E hgz) <| flip lt_step (laws_sP92 E hgz) <| flip lt_step (laws_sP91 E hgz) <| flip lt_step (laws_sP90 E hgz) <| flip lt_step (laws_sP89 E hgz) <| flip lt_step (laws_sP88 E hgz) <| flip lt_step (laws_sP87 E hgz) <| flip lt_step (laws_sP86 E hgz) <| flip lt_step (laws_sP85 E hgz) <| flip lt_step (laws_sP84 E hgz) <| flip lt_step (laws_sP83 E hgz) <| flip lt_step (laws_sP82 E hgz) <| flip lt_step (laws_sP81 E hgz) <| flip lt_step (laws_sP80 E hgz) <| flip lt_step (laws_sP79 E hgz) <| flip lt_step (laws_sP78 E hgz) <| flip lt_step (laws_sP77 E hgz) <| flip lt_step (laws_sP76 E hgz) <| flip lt_step (laws_sP75 E hgz) <| flip lt_step (laws_sP74 E hgz) <| flip lt_step (laws_sP73 E hgz) <| flip lt_step (laws_sP72 E hgz) <| flip lt_step (laws_sP71 E hgz) <| flip lt_step (laws_sP70 E hgz) <| flip lt_step (laws_sP69 E hgz) <| flip lt_step (laws_sP68 E hgz) <| flip lt_step (laws_sP67 E hgz) <| flip lt_step (laws_sP66 E hgz) <| flip lt_step (laws_sP65 E hgz) <| flip lt_step (laws_sP64 E hgz) <| flip lt_step (laws_sP63 E hgz) <| flip lt_step (laws_sP62 E hgz) <| flip lt_step (laws_sP61 E hgz) <| flip lt_step (laws_sP60 E hgz) <| flip lt_step (laws_sP59 E hgz) <| flip lt_step (laws_sP58 E hgz) <| flip lt_step (laws_sP57 E hgz) <| flip lt_step (laws_sP56 E hgz) <| flip lt_step (laws_sP55 E hgz) <| flip lt_step (laws_sP54 E hgz) <| flip lt_step (laws_sP53 E hgz) <| flip lt_step (laws_sP52 E hgz) <| flip lt_step (laws_sP51 E hgz) <| flip lt_step (laws_sP50 E hgz) <| flip lt_step (laws_sP49 E hgz) <| flip lt_step (laws_sP48 E hgz) <| flip lt_step (laws_sP47 E hgz) <| flip lt_step (laws_sP46 E hgz) <| flip lt_step (laws_sP45 E hgz) <| flip lt_step (laws_sP44 E hgz) <| flip lt_step (laws_sP43 E hgz) <| flip lt_step (laws_sP42 E hgz) <| flip lt_step (laws_sP41 E hgz) <| flip lt_step (laws_sP40 E hgz) <| flip lt_step (laws_sP39 E hgz) <| flip lt_step (laws_sP38 E hgz) <| flip lt_step (laws_sP37 E hgz) <| flip lt_step (laws_sP36 E hgz) <| flip lt_step (laws_sP35 E hgz) <| flip lt_step (laws_sP34 E hgz) <| flip lt_step (laws_sP33 E hgz) <| flip lt_step (laws_sP32 E hgz) <| flip lt_step (laws_sP31 E hgz) <| flip lt_step (laws_sP30 E hgz) <| flip lt_step (laws_sP29 E hgz) <| flip lt_step (laws_sP28 E hgz) <| flip lt_step (laws_sP27 E hgz) <| flip lt_step (laws_sP26 E hgz) <| flip lt_step (laws_sP25 E hgz) <| flip lt_step (laws_sP24 E hgz) <| flip lt_step (laws_sP23 E hgz) <| flip lt_step (laws_sP22 E hgz) <| flip lt_step (laws_sP21 E hgz) <| flip lt_step (laws_sP20 E hgz) <| flip lt_step (laws_sP19 E hgz) <| flip lt_step (laws_sP18 E hgz) <| flip lt_step (laws_sP17 E hgz) <| flip lt_step (laws_sP16 E hgz) <| flip lt_step (laws_sP15 E hgz) <| flip lt_step (laws_sP14 E hgz) <| flip lt_step (laws_sP13 E hgz) <| flip lt_step (laws_sP12 E hgz) <| flip lt_step (laws_sP11 E hgz) <| flip lt_step (laws_sP10 E hgz) <| flip lt_step (laws_sP9 E hgz) <| flip lt_step (laws_sP8 E hgz) <| flip lt_step (laws_sP7 E hgz) <| flip lt_step (laws_sP6 E hgz) <| flip lt_step (laws_sP5 E hgz) <| flip lt_step (laws_sP4 E hgz) <| flip lt_step (laws_sP3 E hgz) <| flip lt_step (laws_sP2 E hgz) <| flip lt_step (laws_sP1 E hgz) <| flip lt_step (laws_sP0 E hgz) <| lt_zero
def lawsSpZ (zA zB zC : Int) : List Sp :=
  [Sp.num (zA),
   Sp.num (zB),
   Sp.num (zA + zB),
   Sp.num (zB),
   Sp.num (zA),
   Sp.num (zB + zA),
   Sp.int (0),
   Sp.bool true,
   Sp.bool true,
   Sp.num (zA),
   Sp.num (zB),
   Sp.num (zA * zB),
   Sp.num (zB),
   Sp.num (zA),
   Sp.num (zB * zA),
   Sp.int (0),
   Sp.bool true,
   Sp.bool true,
   Sp.bool true,
   Sp.num (zA),
   Sp.num (zB),
   Sp.num (zC),
   Sp.num (zB + zC),
   Sp.num (zA + (zB + zC)),
   Sp.num (zA),
   Sp.num (zB),
   Sp.num (zA + zB),
   Sp.num (zC),
   Sp.num (zA + zB + zC),
   Sp.int (0),
   Sp.bool true,
   Sp.bool true,
   Sp.bool true,
   Sp.num (zA),
   Sp.num (zB),
   Sp.num (zC),
   Sp.num (zB * zC),
   Sp.num (zA * (zB * zC)),
   Sp.num (zA),
   Sp.num (zB),
   Sp.num (zA * zB),
   Sp.num (zC),
   Sp.num ((zA * zB) * zC),
   Sp.int (0),
   Sp.bool true,
   Sp.bool true,
   Sp.bool true,
   Sp.num (zA),
   Sp.num (zB),
   Sp.num (zC),
   Sp.num (zB + zC),
   Sp.num (zA * (zB + zC)),
   Sp.num (zA),
   Sp.num (zB),
   Sp.num (zA * zB),
   Sp.num (zA),
   Sp.num (zC),
   Sp.num (zA * zC),
   Sp.num (zA * zB + (zA * zC)),
   Sp.int (0),
   Sp.bool true,
   Sp.bool true,
   Sp.bool true,
   Sp.num (zA),
   Sp.num (zB),
   Sp.num (zA - zB),
   Sp.num (zB),
   Sp.num (zA - zB + zB),
   Sp.num (zA),
   Sp.int (0),
   Sp.bool true,
   Sp.bool true,
   Sp.bool true,
   Sp.num (zA),
   Sp.num (zA),
   Sp.num (-zA),
   Sp.num (zA + (-zA)),
   Sp.int (0),
   Sp.bool true,
   Sp.bool true,
   Sp.bool true,
   Sp.num ((Int.gcd zA zB : Int)),
   Sp.int (0),
   Sp.bool true,
   Sp.bool true,
   Sp.val (undef),
   Sp.val (undef),
   Sp.val (undef),
   Sp.val (undef),
   Sp.val (undef),
   Sp.val (undef),
   Sp.val (undef),
   Sp.val (undef),
   Sp.bool true,
   Sp.bool true,
   Sp.bool true,
   Sp.num (zA),
   Sp.num (zB),
   Sp.num (zA - zB),
   Sp.int (cmpI zA zB),
   Sp.num (zA),
   Sp.num (zB),
   Sp.int (cmpI zA zB),
   Sp.bool true,
   Sp.bool true,
   Sp.bool true]
set_option maxRecDepth 100000 in
theorem laws_sZ0 {Q : Exit → Act → World → Prop} {a0 : Act} {w0 : World} {zA zB zC : Int} (E : LawsE a0 w0 zA zB zC) (_hgz : Int.gcd zA zB = 0) : StepOk Tryd.prog Q (regionOf Tryd.f6 11) (lawsSpZ zA zB zC) a0 w0 [7, 9, 11, 13, 15, 17] 0 := by
  intro a w hb hk _hp
  exact st_want (wanted_none rfl) (st_load (hk 7 (by decide)) E.tA hb)
set_option maxRecDepth 100000 in
theorem laws_sZ1 {Q : Exit → Act → World → Prop} {a0 : Act} {w0 : World} {zA zB zC : Int} (E : LawsE a0 w0 zA zB zC) (_hgz : Int.gcd zA zB = 0) : StepOk Tryd.prog Q (regionOf Tryd.f6 11) (lawsSpZ zA zB zC) a0 w0 [7, 9, 11, 13, 15, 17] 1 := by
  intro a w hb hk _hp
  exact st_want (wanted_none rfl) (st_load (hk 9 (by decide)) E.tB hb)
set_option maxRecDepth 100000 in
theorem laws_sZ2 {Q : Exit → Act → World → Prop} {a0 : Act} {w0 : World} {zA zB zC : Int} (E : LawsE a0 w0 zA zB zC) (_hgz : Int.gcd zA zB = 0) : StepOk Tryd.prog Q (regionOf Tryd.f6 11) (lawsSpZ zA zB zC) a0 w0 [7, 9, 11, 13, 15, 17] 2 := by
  intro a w _hb _hk hp
  have p0 : (Sp.num (zA)).ok w (a.tmps.getD 56 undef) := hp 0 rfl
  have p1 : (Sp.num (zB)).ok w (a.tmps.getD 57 undef) := hp 1 rfl
  exact st_want (wanted_none rfl) (st_Add p0 p1 E.hA E.hB (by decide) (by decide))
set_option maxRecDepth 100000 in
theorem laws_sZ3 {Q : Exit → Act → World → Prop} {a0 : Act} {w0 : World} {zA zB zC : Int} (E : LawsE a0 w0 zA zB zC) (_hgz : Int.gcd zA zB = 0) : StepOk Tryd.prog Q (regionOf Tryd.f6 11) (lawsSpZ zA zB zC) a0 w0 [7, 9, 11, 13, 15, 17] 3 := by
  intro a w hb hk _hp
  exact st_want (wanted_none rfl) (st_load (hk 9 (by decide)) E.tB hb)
set_option maxRecDepth 100000 in
theorem laws_sZ4 {Q : Exit → Act → World → Prop} {a0 : Act} {w0 : World} {zA zB zC : Int} (E : LawsE a0 w0 zA zB zC) (_hgz : Int.gcd zA zB = 0) : StepOk Tryd.prog Q (regionOf Tryd.f6 11) (lawsSpZ zA zB zC) a0 w0 [7, 9, 11, 13, 15, 17] 4 := by
  intro a w hb hk _hp
  exact st_want (wanted_none rfl) (st_load (hk 7 (by decide)) E.tA hb)
set_option maxRecDepth 100000 in
theorem laws_sZ5 {Q : Exit → Act → World → Prop} {a0 : Act} {w0 : World} {zA zB zC : Int} (E : LawsE a0 w0 zA zB zC) (_hgz : Int.gcd zA zB = 0) : StepOk Tryd.prog Q (regionOf Tryd.f6 11) (lawsSpZ zA zB zC) a0 w0 [7, 9, 11, 13, 15, 17] 5 := by
  intro a w _hb _hk hp
  have p0 : (Sp.num (zB)).ok w (a.tmps.getD 59 undef) := hp 3 rfl
  have p1 : (Sp.num (zA)).ok w (a.tmps.getD 60 undef) := hp 4 rfl
  exact st_want (wanted_none rfl) (st_Add p0 p1 E.hB E.hA (by decide) (by decide))
set_option maxRecDepth 100000 in
theorem laws_sZ6 {Q : Exit → Act → World → Prop} {a0 : Act} {w0 : World} {zA zB zC : Int} (E : LawsE a0 w0 zA zB zC) (_hgz : Int.gcd zA zB = 0) : StepOk Tryd.prog Q (regionOf Tryd.f6 11) (lawsSpZ zA zB zC) a0 w0 [7, 9, 11, 13, 15, 17] 6 := by
  intro a w _hb _hk hp
  have p0 : (Sp.num (zA + zB)).ok w (a.tmps.getD 58 undef) := hp 2 rfl
  have p1 : (Sp.num (zB + zA)).ok w (a.tmps.getD 61 undef) := hp 5 rfl
  exact st_want (wanted_none rfl) (st_Cmp p0 p1 (add_lt2 E.hA E.hB) (add_lt2 E.hB E.hA) (by decide) (by decide) (cmpI_eq (Int.add_comm _ _)))
set_option maxRecDepth 100000 in
theorem laws_sZ7 {Q : Exit → Act → World → Prop} {a0 : Act} {w0 : World} {zA zB zC : Int} (_E : LawsE a0 w0 zA zB zC) (_hgz : Int.gcd zA zB = 0) : StepOk Tryd.prog Q (regionOf Tryd.f6 11) (lawsSpZ zA zB zC) a0 w0 [7, 9, 11, 13, 15, 17] 7 := by
  intro a w _hb _hk hp
  have p0 : (Sp.int (0)).ok w (a.tmps.getD 62 undef) := hp 6 rfl
  exact st_want (wanted_none rfl) (st_eql0 p0 (rfl))
set_option maxRecDepth 100000 in
theorem laws_sZ8 {Q : Exit → Act → World → Prop} {a0 : Act} {w0 : World} {zA zB zC : Int} (_E : LawsE a0 w0 zA zB zC) (_hgz : Int.gcd zA zB = 0) : StepOk Tryd.prog Q (regionOf Tryd.f6 11) (lawsSpZ zA zB zC) a0 w0 [7, 9, 11, 13, 15, 17] 8 := by
  intro a w _hb _hk hp
  have p0 : (Sp.bool true).ok w (a.tmps.getD 63 undef) := hp 7 rfl
  exact st_want (wanted_none rfl) (st_move p0)
set_option maxRecDepth 100000 in
theorem laws_sZ9 {Q : Exit → Act → World → Prop} {a0 : Act} {w0 : World} {zA zB zC : Int} (E : LawsE a0 w0 zA zB zC) (_hgz : Int.gcd zA zB = 0) : StepOk Tryd.prog Q (regionOf Tryd.f6 11) (lawsSpZ zA zB zC) a0 w0 [7, 9, 11, 13, 15, 17] 9 := by
  intro a w hb hk hp
  have pg : slotOf (regionOf Tryd.f6 11).toArray a 8 = .bool true := hp 8 rfl
  exact st_want (wanted_slot rfl pg rfl) (st_load (hk 7 (by decide)) E.tA hb)
set_option maxRecDepth 100000 in
theorem laws_sZ10 {Q : Exit → Act → World → Prop} {a0 : Act} {w0 : World} {zA zB zC : Int} (E : LawsE a0 w0 zA zB zC) (_hgz : Int.gcd zA zB = 0) : StepOk Tryd.prog Q (regionOf Tryd.f6 11) (lawsSpZ zA zB zC) a0 w0 [7, 9, 11, 13, 15, 17] 10 := by
  intro a w hb hk hp
  have pg : slotOf (regionOf Tryd.f6 11).toArray a 8 = .bool true := hp 8 rfl
  exact st_want (wanted_slot rfl pg rfl) (st_load (hk 9 (by decide)) E.tB hb)
set_option maxRecDepth 100000 in
theorem laws_sZ11 {Q : Exit → Act → World → Prop} {a0 : Act} {w0 : World} {zA zB zC : Int} (E : LawsE a0 w0 zA zB zC) (_hgz : Int.gcd zA zB = 0) : StepOk Tryd.prog Q (regionOf Tryd.f6 11) (lawsSpZ zA zB zC) a0 w0 [7, 9, 11, 13, 15, 17] 11 := by
  intro a w _hb _hk hp
  have pg : slotOf (regionOf Tryd.f6 11).toArray a 8 = .bool true := hp 8 rfl
  have p0 : (Sp.num (zA)).ok w (a.tmps.getD 65 undef) := hp 9 rfl
  have p1 : (Sp.num (zB)).ok w (a.tmps.getD 66 undef) := hp 10 rfl
  exact st_want (wanted_slot rfl pg rfl) (st_Mul p0 p1 E.hA E.hB (by decide) (by decide))
set_option maxRecDepth 100000 in
theorem laws_sZ12 {Q : Exit → Act → World → Prop} {a0 : Act} {w0 : World} {zA zB zC : Int} (E : LawsE a0 w0 zA zB zC) (_hgz : Int.gcd zA zB = 0) : StepOk Tryd.prog Q (regionOf Tryd.f6 11) (lawsSpZ zA zB zC) a0 w0 [7, 9, 11, 13, 15, 17] 12 := by
  intro a w hb hk hp
  have pg : slotOf (regionOf Tryd.f6 11).toArray a 8 = .bool true := hp 8 rfl
  exact st_want (wanted_slot rfl pg rfl) (st_load (hk 9 (by decide)) E.tB hb)
set_option maxRecDepth 100000 in
theorem laws_sZ13 {Q : Exit → Act → World → Prop} {a0 : Act} {w0 : World} {zA zB zC : Int} (E : LawsE a0 w0 zA zB zC) (_hgz : Int.gcd zA zB = 0) : StepOk Tryd.prog Q (regionOf Tryd.f6 11) (lawsSpZ zA zB zC) a0 w0 [7, 9, 11, 13, 15, 17] 13 := by
  intro a w hb hk hp
  have pg : slotOf (regionOf Tryd.f6 11).toArray a 8 = .bool true := hp 8 rfl
  exact st_want (wanted_slot rfl pg rfl) (st_load (hk 7 (by decide)) E.tA hb)
set_option maxRecDepth 100000 in
theorem laws_sZ14 {Q : Exit → Act → World → Prop} {a0 : Act} {w0 : World} {zA zB zC : Int} (E : LawsE a0 w0 zA zB zC) (_hgz : Int.gcd zA zB = 0) : StepOk Tryd.prog Q (regionOf Tryd.f6 11) (lawsSpZ zA zB zC) a0 w0 [7, 9, 11, 13, 15, 17] 14 := by
  intro a w _hb _hk hp
  have pg : slotOf (regionOf Tryd.f6 11).toArray a 8 = .bool true := hp 8 rfl
  have p0 : (Sp.num (zB)).ok w (a.tmps.getD 68 undef) := hp 12 rfl
  have p1 : (Sp.num (zA)).ok w (a.tmps.getD 69 undef) := hp 13 rfl
  exact st_want (wanted_slot rfl pg rfl) (st_Mul p0 p1 E.hB E.hA (by decide) (by decide))
set_option maxRecDepth 100000 in
theorem laws_sZ15 {Q : Exit → Act → World → Prop} {a0 : Act} {w0 : World} {zA zB zC : Int} (E : LawsE a0 w0 zA zB zC) (_hgz : Int.gcd zA zB = 0) : StepOk Tryd.prog Q (regionOf Tryd.f6 11) (lawsSpZ zA zB zC) a0 w0 [7, 9, 11, 13, 15, 17] 15 := by
  intro a w _hb _hk hp
  have pg : slotOf (regionOf Tryd.f6 11).toArray a 8 = .bool true := hp 8 rfl
  have p0 : (Sp.num (zA * zB)).ok w (a.tmps.getD 67 undef) := hp 11 rfl
  have p1 : (Sp.num (zB * zA)).ok w (a.tmps.getD 70 undef) := hp 14 rfl
  exact st_want (wanted_slot rfl pg rfl) (st_Cmp p0 p1 (mul_lt E.hA E.hB) (mul_lt E.hB E.hA) (by decide) (by decide) (cmpI_eq (Int.mul_comm _ _)))
set_option maxRecDepth 100000 in
theorem laws_sZ16 {Q : Exit → Act → World → Prop} {a0 : Act} {w0 : World} {zA zB zC : Int} (_E : LawsE a0 w0 zA zB zC) (_hgz : Int.gcd zA zB = 0) : StepOk Tryd.prog Q (regionOf Tryd.f6 11) (lawsSpZ zA zB zC) a0 w0 [7, 9, 11, 13, 15, 17] 16 := by
  intro a w _hb _hk hp
  have pg : slotOf (regionOf Tryd.f6 11).toArray a 8 = .bool true := hp 8 rfl
  have p0 : (Sp.int (0)).ok w (a.tmps.getD 71 undef) := hp 15 rfl
  exact st_want (wanted_slot rfl pg rfl) (st_eql0 p0 (rfl))
set_option maxRecDepth 100000 in
theorem laws_sZ17 {Q : Exit → Act → World → Prop} {a0 : Act} {w0 : World} {zA zB zC : Int} (_E : LawsE a0 w0 zA zB zC) (_hgz : Int.gcd zA zB = 0) : StepOk Tryd.prog Q (regionOf Tryd.f6 11) (lawsSpZ zA zB zC) a0 w0 [7, 9, 11, 13, 15, 17] 17 := by
  intro a w _hb _hk hp
  have p0 : (Sp.bool true).ok w (a.tmps.getD 64 undef) := hp 8 rfl
  have p1 : (Sp.bool true).ok w (a.tmps.getD 72 undef) := hp 16 rfl
  exact st_want (wanted_none rfl) (st_pick p0 p1)
set_option maxRecDepth 100000 in
theorem laws_sZ18 {Q : Exit → Act → World → Prop} {a0 : Act} {w0 : World} {zA zB zC : Int} (_E : LawsE a0 w0 zA zB zC) (_hgz : Int.gcd zA zB = 0) : StepOk Tryd.prog Q (regionOf Tryd.f6 11) (lawsSpZ zA zB zC) a0 w0 [7, 9, 11, 13, 15, 17] 18 := by
  intro a w _hb _hk hp
  have p0 : (Sp.bool true).ok w (a.tmps.getD 73 undef) := hp 17 rfl
  exact st_want (wanted_none rfl) (st_move p0)
set_option maxRecDepth 100000 in
theorem laws_sZ19 {Q : Exit → Act → World → Prop} {a0 : Act} {w0 : World} {zA zB zC : Int} (E : LawsE a0 w0 zA zB zC) (_hgz : Int.gcd zA zB = 0) : StepOk Tryd.prog Q (regionOf Tryd.f6 11) (lawsSpZ zA zB zC) a0 w0 [7, 9, 11, 13, 15, 17] 19 := by
  intro a w hb hk hp
  have pg : slotOf (regionOf Tryd.f6 11).toArray a 18 = .bool true := hp 18 rfl
  exact st_want (wanted_slot rfl pg rfl) (st_load (hk 7 (by decide)) E.tA hb)
set_option maxRecDepth 100000 in
theorem laws_sZ20 {Q : Exit → Act → World → Prop} {a0 : Act} {w0 : World} {zA zB zC : Int} (E : LawsE a0 w0 zA zB zC) (_hgz : Int.gcd zA zB = 0) : StepOk Tryd.prog Q (regionOf Tryd.f6 11) (lawsSpZ zA zB zC) a0 w0 [7, 9, 11, 13, 15, 17] 20 := by
  intro a w hb hk hp
  have pg : slotOf (regionOf Tryd.f6 11).toArray a 18 = .bool true := hp 18 rfl
  exact st_want (wanted_slot rfl pg rfl) (st_load (hk 9 (by decide)) E.tB hb)
set_option maxRecDepth 100000 in
theorem laws_sZ21 {Q : Exit → Act → World → Prop} {a0 : Act} {w0 : World} {zA zB zC : Int} (E : LawsE a0 w0 zA zB zC) (_hgz : Int.gcd zA zB = 0) : StepOk Tryd.prog Q (regionOf Tryd.f6 11) (lawsSpZ zA zB zC) a0 w0 [7, 9, 11, 13, 15, 17] 21 := by
  intro a w hb hk hp
  have pg : slotOf (regionOf Tryd.f6 11).toArray a 18 = .bool true := hp 18 rfl
  exact st_want (wanted_slot rfl pg rfl) (st_load (hk 11 (by decide)) E.tC hb)
set_option maxRecDepth 100000 in
theorem laws_sZ22 {Q : Exit → Act → World → Prop} {a0 : Act} {w0 : World} {zA zB zC : Int} (E : LawsE a0 w0 zA zB zC) (_hgz : Int.gcd zA zB = 0) : StepOk Tryd.prog Q (regionOf Tryd.f6 11) (lawsSpZ zA zB zC) a0 w0 [7, 9, 11, 13, 15, 17] 22 := by
  intro a w _hb _hk hp
  have pg : slotOf (regionOf Tryd.f6 11).toArray a 18 = .bool true := hp 18 rfl
  have p0 : (Sp.num (zB)).ok w (a.tmps.getD 76 undef) := hp 20 rfl
  have p1 : (Sp.num (zC)).ok w (a.tmps.getD 77 undef) := hp 21 rfl
  exact st_want (wanted_slot rfl pg rfl) (st_Add p0 p1 E.hB E.hC (by decide) (by decide))
set_option maxRecDepth 100000 in
theorem laws_sZ23 {Q : Exit → Act → World → Prop} {a0 : Act} {w0 : World} {zA zB zC : Int} (E : LawsE a0 w0 zA zB zC) (_hgz : Int.gcd zA zB = 0) : StepOk Tryd.prog Q (regionOf Tryd.f6 11) (lawsSpZ zA zB zC) a0 w0 [7, 9, 11, 13, 15, 17] 23 := by
  intro a w _hb _hk hp
  have pg : slotOf (regionOf Tryd.f6 11).toArray a 18 = .bool true := hp 18 rfl
  have p0 : (Sp.num (zA)).ok w (a.tmps.getD 75 undef) := hp 19 rfl
  have p1 : (Sp.num (zB + zC)).ok w (a.tmps.getD 78 undef) := hp 22 rfl
  exact st_want (wanted_slot rfl pg rfl) (st_Add p0 p1 E.hA (add_lt2 E.hB E.hC) (by decide) (by decide))
set_option maxRecDepth 100000 in
theorem laws_sZ24 {Q : Exit → Act → World → Prop} {a0 : Act} {w0 : World} {zA zB zC : Int} (E : LawsE a0 w0 zA zB zC) (_hgz : Int.gcd zA zB = 0) : StepOk Tryd.prog Q (regionOf Tryd.f6 11) (lawsSpZ zA zB zC) a0 w0 [7, 9, 11, 13, 15, 17] 24 := by
  intro a w hb hk hp
  have pg : slotOf (regionOf Tryd.f6 11).toArray a 18 = .bool true := hp 18 rfl
  exact st_want (wanted_slot rfl pg rfl) (st_load (hk 7 (by decide)) E.tA hb)
set_option maxRecDepth 100000 in
theorem laws_sZ25 {Q : Exit → Act → World → Prop} {a0 : Act} {w0 : World} {zA zB zC : Int} (E : LawsE a0 w0 zA zB zC) (_hgz : Int.gcd zA zB = 0) : StepOk Tryd.prog Q (regionOf Tryd.f6 11) (lawsSpZ zA zB zC) a0 w0 [7, 9, 11, 13, 15, 17] 25 := by
  intro a w hb hk hp
  have pg : slotOf (regionOf Tryd.f6 11).toArray a 18 = .bool true := hp 18 rfl
  exact st_want (wanted_slot rfl pg rfl) (st_load (hk 9 (by decide)) E.tB hb)
set_option maxRecDepth 100000 in
theorem laws_sZ26 {Q : Exit → Act → World → Prop} {a0 : Act} {w0 : World} {zA zB zC : Int} (E : LawsE a0 w0 zA zB zC) (_hgz : Int.gcd zA zB = 0) : StepOk Tryd.prog Q (regionOf Tryd.f6 11) (lawsSpZ zA zB zC) a0 w0 [7, 9, 11, 13, 15, 17] 26 := by
  intro a w _hb _hk hp
  have pg : slotOf (regionOf Tryd.f6 11).toArray a 18 = .bool true := hp 18 rfl
  have p0 : (Sp.num (zA)).ok w (a.tmps.getD 80 undef) := hp 24 rfl
  have p1 : (Sp.num (zB)).ok w (a.tmps.getD 81 undef) := hp 25 rfl
  exact st_want (wanted_slot rfl pg rfl) (st_Add p0 p1 E.hA E.hB (by decide) (by decide))
set_option maxRecDepth 100000 in
theorem laws_sZ27 {Q : Exit → Act → World → Prop} {a0 : Act} {w0 : World} {zA zB zC : Int} (E : LawsE a0 w0 zA zB zC) (_hgz : Int.gcd zA zB = 0) : StepOk Tryd.prog Q (regionOf Tryd.f6 11) (lawsSpZ zA zB zC) a0 w0 [7, 9, 11, 13, 15, 17] 27 := by
  intro a w hb hk hp
  have pg : slotOf (regionOf Tryd.f6 11).toArray a 18 = .bool true := hp 18 rfl
  exact st_want (wanted_slot rfl pg rfl) (st_load (hk 11 (by decide)) E.tC hb)
set_option maxRecDepth 100000 in
theorem laws_sZ28 {Q : Exit → Act → World → Prop} {a0 : Act} {w0 : World} {zA zB zC : Int} (E : LawsE a0 w0 zA zB zC) (_hgz : Int.gcd zA zB = 0) : StepOk Tryd.prog Q (regionOf Tryd.f6 11) (lawsSpZ zA zB zC) a0 w0 [7, 9, 11, 13, 15, 17] 28 := by
  intro a w _hb _hk hp
  have pg : slotOf (regionOf Tryd.f6 11).toArray a 18 = .bool true := hp 18 rfl
  have p0 : (Sp.num (zA + zB)).ok w (a.tmps.getD 82 undef) := hp 26 rfl
  have p1 : (Sp.num (zC)).ok w (a.tmps.getD 83 undef) := hp 27 rfl
  exact st_want (wanted_slot rfl pg rfl) (st_Add p0 p1 (add_lt2 E.hA E.hB) E.hC (by decide) (by decide))
set_option maxRecDepth 100000 in
theorem laws_sZ29 {Q : Exit → Act → World → Prop} {a0 : Act} {w0 : World} {zA zB zC : Int} (E : LawsE a0 w0 zA zB zC) (_hgz : Int.gcd zA zB = 0) : StepOk Tryd.prog Q (regionOf Tryd.f6 11) (lawsSpZ zA zB zC) a0 w0 [7, 9, 11, 13, 15, 17] 29 := by
  intro a w _hb _hk hp
  have pg : slotOf (regionOf Tryd.f6 11).toArray a 18 = .bool true := hp 18 rfl
  have p0 : (Sp.num (zA + (zB + zC))).ok w (a.tmps.getD 79 undef) := hp 23 rfl
  have p1 : (Sp.num (zA + zB + zC)).ok w (a.tmps.getD 84 undef) := hp 28 rfl
  exact st_want (wanted_slot rfl pg rfl) (st_Cmp p0 p1 (add_lt2 E.hA (add_lt2 E.hB E.hC)) (add_lt2 (add_lt2 E.hA E.hB) E.hC) (by decide) (by decide) (cmpI_eq ((Int.add_assoc _ _ _).symm)))
set_option maxRecDepth 100000 in
theorem laws_sZ30 {Q : Exit → Act → World → Prop} {a0 : Act} {w0 : World} {zA zB zC : Int} (_E : LawsE a0 w0 zA zB zC) (_hgz : Int.gcd zA zB = 0) : StepOk Tryd.prog Q (regionOf Tryd.f6 11) (lawsSpZ zA zB zC) a0 w0 [7, 9, 11, 13, 15, 17] 30 := by
  intro a w _hb _hk hp
  have pg : slotOf (regionOf Tryd.f6 11).toArray a 18 = .bool true := hp 18 rfl
  have p0 : (Sp.int (0)).ok w (a.tmps.getD 85 undef) := hp 29 rfl
  exact st_want (wanted_slot rfl pg rfl) (st_eql0 p0 (rfl))
set_option maxRecDepth 100000 in
theorem laws_sZ31 {Q : Exit → Act → World → Prop} {a0 : Act} {w0 : World} {zA zB zC : Int} (_E : LawsE a0 w0 zA zB zC) (_hgz : Int.gcd zA zB = 0) : StepOk Tryd.prog Q (regionOf Tryd.f6 11) (lawsSpZ zA zB zC) a0 w0 [7, 9, 11, 13, 15, 17] 31 := by
  intro a w _hb _hk hp
  have p0 : (Sp.bool true).ok w (a.tmps.getD 74 undef) := hp 18 rfl
  have p1 : (Sp.bool true).ok w (a.tmps.getD 86 undef) := hp 30 rfl
  exact st_want (wanted_none rfl) (st_pick p0 p1)
set_option maxRecDepth 100000 in
theorem laws_sZ32 {Q : Exit → Act → World → Prop} {a0 : Act} {w0 : World} {zA zB zC : Int} (_E : LawsE a0 w0 zA zB zC) (_hgz : Int.gcd zA zB = 0) : StepOk Tryd.prog Q (regionOf Tryd.f6 11) (lawsSpZ zA zB zC) a0 w0 [7, 9, 11, 13, 15, 17] 32 := by
  intro a w _hb _hk hp
  have p0 : (Sp.bool true).ok w (a.tmps.getD 87 undef) := hp 31 rfl
  exact st_want (wanted_none rfl) (st_move p0)
set_option maxRecDepth 100000 in
theorem laws_sZ33 {Q : Exit → Act → World → Prop} {a0 : Act} {w0 : World} {zA zB zC : Int} (E : LawsE a0 w0 zA zB zC) (_hgz : Int.gcd zA zB = 0) : StepOk Tryd.prog Q (regionOf Tryd.f6 11) (lawsSpZ zA zB zC) a0 w0 [7, 9, 11, 13, 15, 17] 33 := by
  intro a w hb hk hp
  have pg : slotOf (regionOf Tryd.f6 11).toArray a 32 = .bool true := hp 32 rfl
  exact st_want (wanted_slot rfl pg rfl) (st_load (hk 7 (by decide)) E.tA hb)
set_option maxRecDepth 100000 in
theorem laws_sZ34 {Q : Exit → Act → World → Prop} {a0 : Act} {w0 : World} {zA zB zC : Int} (E : LawsE a0 w0 zA zB zC) (_hgz : Int.gcd zA zB = 0) : StepOk Tryd.prog Q (regionOf Tryd.f6 11) (lawsSpZ zA zB zC) a0 w0 [7, 9, 11, 13, 15, 17] 34 := by
  intro a w hb hk hp
  have pg : slotOf (regionOf Tryd.f6 11).toArray a 32 = .bool true := hp 32 rfl
  exact st_want (wanted_slot rfl pg rfl) (st_load (hk 9 (by decide)) E.tB hb)
set_option maxRecDepth 100000 in
theorem laws_sZ35 {Q : Exit → Act → World → Prop} {a0 : Act} {w0 : World} {zA zB zC : Int} (E : LawsE a0 w0 zA zB zC) (_hgz : Int.gcd zA zB = 0) : StepOk Tryd.prog Q (regionOf Tryd.f6 11) (lawsSpZ zA zB zC) a0 w0 [7, 9, 11, 13, 15, 17] 35 := by
  intro a w hb hk hp
  have pg : slotOf (regionOf Tryd.f6 11).toArray a 32 = .bool true := hp 32 rfl
  exact st_want (wanted_slot rfl pg rfl) (st_load (hk 11 (by decide)) E.tC hb)
set_option maxRecDepth 100000 in
theorem laws_sZ36 {Q : Exit → Act → World → Prop} {a0 : Act} {w0 : World} {zA zB zC : Int} (E : LawsE a0 w0 zA zB zC) (_hgz : Int.gcd zA zB = 0) : StepOk Tryd.prog Q (regionOf Tryd.f6 11) (lawsSpZ zA zB zC) a0 w0 [7, 9, 11, 13, 15, 17] 36 := by
  intro a w _hb _hk hp
  have pg : slotOf (regionOf Tryd.f6 11).toArray a 32 = .bool true := hp 32 rfl
  have p0 : (Sp.num (zB)).ok w (a.tmps.getD 90 undef) := hp 34 rfl
  have p1 : (Sp.num (zC)).ok w (a.tmps.getD 91 undef) := hp 35 rfl
  exact st_want (wanted_slot rfl pg rfl) (st_Mul p0 p1 E.hB E.hC (by decide) (by decide))
set_option maxRecDepth 100000 in
theorem laws_sZ37 {Q : Exit → Act → World → Prop} {a0 : Act} {w0 : World} {zA zB zC : Int} (E : LawsE a0 w0 zA zB zC) (_hgz : Int.gcd zA zB = 0) : StepOk Tryd.prog Q (regionOf Tryd.f6 11) (lawsSpZ zA zB zC) a0 w0 [7, 9, 11, 13, 15, 17] 37 := by
  intro a w _hb _hk hp
  have pg : slotOf (regionOf Tryd.f6 11).toArray a 32 = .bool true := hp 32 rfl
  have p0 : (Sp.num (zA)).ok w (a.tmps.getD 89 undef) := hp 33 rfl
  have p1 : (Sp.num (zB * zC)).ok w (a.tmps.getD 92 undef) := hp 36 rfl
  exact st_want (wanted_slot rfl pg rfl) (st_Mul p0 p1 E.hA (mul_lt E.hB E.hC) (by decide) (by decide))
set_option maxRecDepth 100000 in
theorem laws_sZ38 {Q : Exit → Act → World → Prop} {a0 : Act} {w0 : World} {zA zB zC : Int} (E : LawsE a0 w0 zA zB zC) (_hgz : Int.gcd zA zB = 0) : StepOk Tryd.prog Q (regionOf Tryd.f6 11) (lawsSpZ zA zB zC) a0 w0 [7, 9, 11, 13, 15, 17] 38 := by
  intro a w hb hk hp
  have pg : slotOf (regionOf Tryd.f6 11).toArray a 32 = .bool true := hp 32 rfl
  exact st_want (wanted_slot rfl pg rfl) (st_load (hk 7 (by decide)) E.tA hb)
set_option maxRecDepth 100000 in
theorem laws_sZ39 {Q : Exit → Act → World → Prop} {a0 : Act} {w0 : World} {zA zB zC : Int} (E : LawsE a0 w0 zA zB zC) (_hgz : Int.gcd zA zB = 0) : StepOk Tryd.prog Q (regionOf Tryd.f6 11) (lawsSpZ zA zB zC) a0 w0 [7, 9, 11, 13, 15, 17] 39 := by
  intro a w hb hk hp
  have pg : slotOf (regionOf Tryd.f6 11).toArray a 32 = .bool true := hp 32 rfl
  exact st_want (wanted_slot rfl pg rfl) (st_load (hk 9 (by decide)) E.tB hb)
set_option maxRecDepth 100000 in
theorem laws_sZ40 {Q : Exit → Act → World → Prop} {a0 : Act} {w0 : World} {zA zB zC : Int} (E : LawsE a0 w0 zA zB zC) (_hgz : Int.gcd zA zB = 0) : StepOk Tryd.prog Q (regionOf Tryd.f6 11) (lawsSpZ zA zB zC) a0 w0 [7, 9, 11, 13, 15, 17] 40 := by
  intro a w _hb _hk hp
  have pg : slotOf (regionOf Tryd.f6 11).toArray a 32 = .bool true := hp 32 rfl
  have p0 : (Sp.num (zA)).ok w (a.tmps.getD 94 undef) := hp 38 rfl
  have p1 : (Sp.num (zB)).ok w (a.tmps.getD 95 undef) := hp 39 rfl
  exact st_want (wanted_slot rfl pg rfl) (st_Mul p0 p1 E.hA E.hB (by decide) (by decide))
set_option maxRecDepth 100000 in
theorem laws_sZ41 {Q : Exit → Act → World → Prop} {a0 : Act} {w0 : World} {zA zB zC : Int} (E : LawsE a0 w0 zA zB zC) (_hgz : Int.gcd zA zB = 0) : StepOk Tryd.prog Q (regionOf Tryd.f6 11) (lawsSpZ zA zB zC) a0 w0 [7, 9, 11, 13, 15, 17] 41 := by
  intro a w hb hk hp
  have pg : slotOf (regionOf Tryd.f6 11).toArray a 32 = .bool true := hp 32 rfl
  exact st_want (wanted_slot rfl pg rfl) (st_load (hk 11 (by decide)) E.tC hb)
set_option maxRecDepth 100000 in
theorem laws_sZ42 {Q : Exit → Act → World → Prop} {a0 : Act} {w0 : World} {zA zB zC : Int} (E : LawsE a0 w0 zA zB zC) (_hgz : Int.gcd zA zB = 0) : StepOk Tryd.prog Q (regionOf Tryd.f6 11) (lawsSpZ zA zB zC) a0 w0 [7, 9, 11, 13, 15, 17] 42 := by
  intro a w _hb _hk hp
  have pg : slotOf (regionOf Tryd.f6 11).toArray a 32 = .bool true := hp 32 rfl
  have p0 : (Sp.num (zA * zB)).ok w (a.tmps.getD 96 undef) := hp 40 rfl
  have p1 : (Sp.num (zC)).ok w (a.tmps.getD 97 undef) := hp 41 rfl
  exact st_want (wanted_slot rfl pg rfl) (st_Mul p0 p1 (mul_lt E.hA E.hB) E.hC (by decide) (by decide))
set_option maxRecDepth 100000 in
theorem laws_sZ43 {Q : Exit → Act → World → Prop} {a0 : Act} {w0 : World} {zA zB zC : Int} (E : LawsE a0 w0 zA zB zC) (_hgz : Int.gcd zA zB = 0) : StepOk Tryd.prog Q (regionOf Tryd.f6 11) (lawsSpZ zA zB zC) a0 w0 [7, 9, 11, 13, 15, 17] 43 := by
  intro a w _hb _hk hp
  have pg : slotOf (regionOf Tryd.f6 11).toArray a 32 = .bool true := hp 32 rfl
  have p0 : (Sp.num (zA * (zB * zC))).ok w (a.tmps.getD 93 undef) := hp 37 rfl
  have p1 : (Sp.num ((zA * zB) * zC)).ok w (a.tmps.getD 98 undef) := hp 42 rfl
  exact st_want (wanted_slot rfl pg rfl) (st_Cmp p0 p1 (mul_lt E.hA (mul_lt E.hB E.hC)) (mul_lt (mul_lt E.hA E.hB) E.hC) (by decide) (by decide) (cmpI_eq ((Int.mul_assoc _ _ _).symm)))
set_option maxRecDepth 100000 in
theorem laws_sZ44 {Q : Exit → Act → World → Prop} {a0 : Act} {w0 : World} {zA zB zC : Int} (_E : LawsE a0 w0 zA zB zC) (_hgz : Int.gcd zA zB = 0) : StepOk Tryd.prog Q (regionOf Tryd.f6 11) (lawsSpZ zA zB zC) a0 w0 [7, 9, 11, 13, 15, 17] 44 := by
  intro a w _hb _hk hp
  have pg : slotOf (regionOf Tryd.f6 11).toArray a 32 = .bool true := hp 32 rfl
  have p0 : (Sp.int (0)).ok w (a.tmps.getD 99 undef) := hp 43 rfl
  exact st_want (wanted_slot rfl pg rfl) (st_eql0 p0 (rfl))
set_option maxRecDepth 100000 in
theorem laws_sZ45 {Q : Exit → Act → World → Prop} {a0 : Act} {w0 : World} {zA zB zC : Int} (_E : LawsE a0 w0 zA zB zC) (_hgz : Int.gcd zA zB = 0) : StepOk Tryd.prog Q (regionOf Tryd.f6 11) (lawsSpZ zA zB zC) a0 w0 [7, 9, 11, 13, 15, 17] 45 := by
  intro a w _hb _hk hp
  have p0 : (Sp.bool true).ok w (a.tmps.getD 88 undef) := hp 32 rfl
  have p1 : (Sp.bool true).ok w (a.tmps.getD 100 undef) := hp 44 rfl
  exact st_want (wanted_none rfl) (st_pick p0 p1)
set_option maxRecDepth 100000 in
theorem laws_sZ46 {Q : Exit → Act → World → Prop} {a0 : Act} {w0 : World} {zA zB zC : Int} (_E : LawsE a0 w0 zA zB zC) (_hgz : Int.gcd zA zB = 0) : StepOk Tryd.prog Q (regionOf Tryd.f6 11) (lawsSpZ zA zB zC) a0 w0 [7, 9, 11, 13, 15, 17] 46 := by
  intro a w _hb _hk hp
  have p0 : (Sp.bool true).ok w (a.tmps.getD 101 undef) := hp 45 rfl
  exact st_want (wanted_none rfl) (st_move p0)
set_option maxRecDepth 100000 in
theorem laws_sZ47 {Q : Exit → Act → World → Prop} {a0 : Act} {w0 : World} {zA zB zC : Int} (E : LawsE a0 w0 zA zB zC) (_hgz : Int.gcd zA zB = 0) : StepOk Tryd.prog Q (regionOf Tryd.f6 11) (lawsSpZ zA zB zC) a0 w0 [7, 9, 11, 13, 15, 17] 47 := by
  intro a w hb hk hp
  have pg : slotOf (regionOf Tryd.f6 11).toArray a 46 = .bool true := hp 46 rfl
  exact st_want (wanted_slot rfl pg rfl) (st_load (hk 7 (by decide)) E.tA hb)
set_option maxRecDepth 100000 in
theorem laws_sZ48 {Q : Exit → Act → World → Prop} {a0 : Act} {w0 : World} {zA zB zC : Int} (E : LawsE a0 w0 zA zB zC) (_hgz : Int.gcd zA zB = 0) : StepOk Tryd.prog Q (regionOf Tryd.f6 11) (lawsSpZ zA zB zC) a0 w0 [7, 9, 11, 13, 15, 17] 48 := by
  intro a w hb hk hp
  have pg : slotOf (regionOf Tryd.f6 11).toArray a 46 = .bool true := hp 46 rfl
  exact st_want (wanted_slot rfl pg rfl) (st_load (hk 9 (by decide)) E.tB hb)
set_option maxRecDepth 100000 in
theorem laws_sZ49 {Q : Exit → Act → World → Prop} {a0 : Act} {w0 : World} {zA zB zC : Int} (E : LawsE a0 w0 zA zB zC) (_hgz : Int.gcd zA zB = 0) : StepOk Tryd.prog Q (regionOf Tryd.f6 11) (lawsSpZ zA zB zC) a0 w0 [7, 9, 11, 13, 15, 17] 49 := by
  intro a w hb hk hp
  have pg : slotOf (regionOf Tryd.f6 11).toArray a 46 = .bool true := hp 46 rfl
  exact st_want (wanted_slot rfl pg rfl) (st_load (hk 11 (by decide)) E.tC hb)
set_option maxRecDepth 100000 in
theorem laws_sZ50 {Q : Exit → Act → World → Prop} {a0 : Act} {w0 : World} {zA zB zC : Int} (E : LawsE a0 w0 zA zB zC) (_hgz : Int.gcd zA zB = 0) : StepOk Tryd.prog Q (regionOf Tryd.f6 11) (lawsSpZ zA zB zC) a0 w0 [7, 9, 11, 13, 15, 17] 50 := by
  intro a w _hb _hk hp
  have pg : slotOf (regionOf Tryd.f6 11).toArray a 46 = .bool true := hp 46 rfl
  have p0 : (Sp.num (zB)).ok w (a.tmps.getD 104 undef) := hp 48 rfl
  have p1 : (Sp.num (zC)).ok w (a.tmps.getD 105 undef) := hp 49 rfl
  exact st_want (wanted_slot rfl pg rfl) (st_Add p0 p1 E.hB E.hC (by decide) (by decide))
set_option maxRecDepth 100000 in
theorem laws_sZ51 {Q : Exit → Act → World → Prop} {a0 : Act} {w0 : World} {zA zB zC : Int} (E : LawsE a0 w0 zA zB zC) (_hgz : Int.gcd zA zB = 0) : StepOk Tryd.prog Q (regionOf Tryd.f6 11) (lawsSpZ zA zB zC) a0 w0 [7, 9, 11, 13, 15, 17] 51 := by
  intro a w _hb _hk hp
  have pg : slotOf (regionOf Tryd.f6 11).toArray a 46 = .bool true := hp 46 rfl
  have p0 : (Sp.num (zA)).ok w (a.tmps.getD 103 undef) := hp 47 rfl
  have p1 : (Sp.num (zB + zC)).ok w (a.tmps.getD 106 undef) := hp 50 rfl
  exact st_want (wanted_slot rfl pg rfl) (st_Mul p0 p1 E.hA (add_lt2 E.hB E.hC) (by decide) (by decide))
set_option maxRecDepth 100000 in
theorem laws_sZ52 {Q : Exit → Act → World → Prop} {a0 : Act} {w0 : World} {zA zB zC : Int} (E : LawsE a0 w0 zA zB zC) (_hgz : Int.gcd zA zB = 0) : StepOk Tryd.prog Q (regionOf Tryd.f6 11) (lawsSpZ zA zB zC) a0 w0 [7, 9, 11, 13, 15, 17] 52 := by
  intro a w hb hk hp
  have pg : slotOf (regionOf Tryd.f6 11).toArray a 46 = .bool true := hp 46 rfl
  exact st_want (wanted_slot rfl pg rfl) (st_load (hk 7 (by decide)) E.tA hb)
set_option maxRecDepth 100000 in
theorem laws_sZ53 {Q : Exit → Act → World → Prop} {a0 : Act} {w0 : World} {zA zB zC : Int} (E : LawsE a0 w0 zA zB zC) (_hgz : Int.gcd zA zB = 0) : StepOk Tryd.prog Q (regionOf Tryd.f6 11) (lawsSpZ zA zB zC) a0 w0 [7, 9, 11, 13, 15, 17] 53 := by
  intro a w hb hk hp
  have pg : slotOf (regionOf Tryd.f6 11).toArray a 46 = .bool true := hp 46 rfl
  exact st_want (wanted_slot rfl pg rfl) (st_load (hk 9 (by decide)) E.tB hb)
set_option maxRecDepth 100000 in
theorem laws_sZ54 {Q : Exit → Act → World → Prop} {a0 : Act} {w0 : World} {zA zB zC : Int} (E : LawsE a0 w0 zA zB zC) (_hgz : Int.gcd zA zB = 0) : StepOk Tryd.prog Q (regionOf Tryd.f6 11) (lawsSpZ zA zB zC) a0 w0 [7, 9, 11, 13, 15, 17] 54 := by
  intro a w _hb _hk hp
  have pg : slotOf (regionOf Tryd.f6 11).toArray a 46 = .bool true := hp 46 rfl
  have p0 : (Sp.num (zA)).ok w (a.tmps.getD 108 undef) := hp 52 rfl
  have p1 : (Sp.num (zB)).ok w (a.tmps.getD 109 undef) := hp 53 rfl
  exact st_want (wanted_slot rfl pg rfl) (st_Mul p0 p1 E.hA E.hB (by decide) (by decide))
set_option maxRecDepth 100000 in
theorem laws_sZ55 {Q : Exit → Act → World → Prop} {a0 : Act} {w0 : World} {zA zB zC : Int} (E : LawsE a0 w0 zA zB zC) (_hgz : Int.gcd zA zB = 0) : StepOk Tryd.prog Q (regionOf Tryd.f6 11) (lawsSpZ zA zB zC) a0 w0 [7, 9, 11, 13, 15, 17] 55 := by
  intro a w hb hk hp
  have pg : slotOf (regionOf Tryd.f6 11).toArray a 46 = .bool true := hp 46 rfl
  exact st_want (wanted_slot rfl pg rfl) (st_load (hk 7 (by decide)) E.tA hb)
set_option maxRecDepth 100000 in
theorem laws_sZ56 {Q : Exit → Act → World → Prop} {a0 : Act} {w0 : World} {zA zB zC : Int} (E : LawsE a0 w0 zA zB zC) (_hgz : Int.gcd zA zB = 0) : StepOk Tryd.prog Q (regionOf Tryd.f6 11) (lawsSpZ zA zB zC) a0 w0 [7, 9, 11, 13, 15, 17] 56 := by
  intro a w hb hk hp
  have pg : slotOf (regionOf Tryd.f6 11).toArray a 46 = .bool true := hp 46 rfl
  exact st_want (wanted_slot rfl pg rfl) (st_load (hk 11 (by decide)) E.tC hb)
set_option maxRecDepth 100000 in
theorem laws_sZ57 {Q : Exit → Act → World → Prop} {a0 : Act} {w0 : World} {zA zB zC : Int} (E : LawsE a0 w0 zA zB zC) (_hgz : Int.gcd zA zB = 0) : StepOk Tryd.prog Q (regionOf Tryd.f6 11) (lawsSpZ zA zB zC) a0 w0 [7, 9, 11, 13, 15, 17] 57 := by
  intro a w _hb _hk hp
  have pg : slotOf (regionOf Tryd.f6 11).toArray a 46 = .bool true := hp 46 rfl
  have p0 : (Sp.num (zA)).ok w (a.tmps.getD 111 undef) := hp 55 rfl
  have p1 : (Sp.num (zC)).ok w (a.tmps.getD 112 undef) := hp 56 rfl
  exact st_want (wanted_slot rfl pg rfl) (st_Mul p0 p1 E.hA E.hC (by decide) (by decide))
set_option maxRecDepth 100000 in
theorem laws_sZ58 {Q : Exit → Act → World → Prop} {a0 : Act} {w0 : World} {zA zB zC : Int} (E : LawsE a0 w0 zA zB zC) (_hgz : Int.gcd zA zB = 0) : StepOk Tryd.prog Q (regionOf Tryd.f6 11) (lawsSpZ zA zB zC) a0 w0 [7, 9, 11, 13, 15, 17] 58 := by
  intro a w _hb _hk hp
  have pg : slotOf (regionOf Tryd.f6 11).toArray a 46 = .bool true := hp 46 rfl
  have p0 : (Sp.num (zA * zB)).ok w (a.tmps.getD 110 undef) := hp 54 rfl
  have p1 : (Sp.num (zA * zC)).ok w (a.tmps.getD 113 undef) := hp 57 rfl
  exact st_want (wanted_slot rfl pg rfl) (st_Add p0 p1 (mul_lt E.hA E.hB) (mul_lt E.hA E.hC) (by decide) (by decide))
set_option maxRecDepth 100000 in
theorem laws_sZ59 {Q : Exit → Act → World → Prop} {a0 : Act} {w0 : World} {zA zB zC : Int} (E : LawsE a0 w0 zA zB zC) (_hgz : Int.gcd zA zB = 0) : StepOk Tryd.prog Q (regionOf Tryd.f6 11) (lawsSpZ zA zB zC) a0 w0 [7, 9, 11, 13, 15, 17] 59 := by
  intro a w _hb _hk hp
  have pg : slotOf (regionOf Tryd.f6 11).toArray a 46 = .bool true := hp 46 rfl
  have p0 : (Sp.num (zA * (zB + zC))).ok w (a.tmps.getD 107 undef) := hp 51 rfl
  have p1 : (Sp.num (zA * zB + (zA * zC))).ok w (a.tmps.getD 114 undef) := hp 58 rfl
  exact st_want (wanted_slot rfl pg rfl) (st_Cmp p0 p1 (mul_lt E.hA (add_lt2 E.hB E.hC)) (add_lt2 (mul_lt E.hA E.hB) (mul_lt E.hA E.hC)) (by decide) (by decide) (cmpI_eq (Int.mul_add _ _ _)))
set_option maxRecDepth 100000 in
theorem laws_sZ60 {Q : Exit → Act → World → Prop} {a0 : Act} {w0 : World} {zA zB zC : Int} (_E : LawsE a0 w0 zA zB zC) (_hgz : Int.gcd zA zB = 0) : StepOk Tryd.prog Q (regionOf Tryd.f6 11) (lawsSpZ zA zB zC) a0 w0 [7, 9, 11, 13, 15, 17] 60 := by
  intro a w _hb _hk hp
  have pg : slotOf (regionOf Tryd.f6 11).toArray a 46 = .bool true := hp 46 rfl
  have p0 : (Sp.int (0)).ok w (a.tmps.getD 115 undef) := hp 59 rfl
  exact st_want (wanted_slot rfl pg rfl) (st_eql0 p0 (rfl))
set_option maxRecDepth 100000 in
theorem laws_sZ61 {Q : Exit → Act → World → Prop} {a0 : Act} {w0 : World} {zA zB zC : Int} (_E : LawsE a0 w0 zA zB zC) (_hgz : Int.gcd zA zB = 0) : StepOk Tryd.prog Q (regionOf Tryd.f6 11) (lawsSpZ zA zB zC) a0 w0 [7, 9, 11, 13, 15, 17] 61 := by
  intro a w _hb _hk hp
  have p0 : (Sp.bool true).ok w (a.tmps.getD 102 undef) := hp 46 rfl
  have p1 : (Sp.bool true).ok w (a.tmps.getD 116 undef) := hp 60 rfl
  exact st_want (wanted_none rfl) (st_pick p0 p1)
set_option maxRecDepth 100000 in
theorem laws_sZ62 {Q : Exit → Act → World → Prop} {a0 : Act} {w0 : World} {zA zB zC : Int} (_E : LawsE a0 w0 zA zB zC) (_hgz : Int.gcd zA zB = 0) : StepOk Tryd.prog Q (regionOf Tryd.f6 11) (lawsSpZ zA zB zC) a0 w0 [7, 9, 11, 13, 15, 17] 62 := by
  intro a w _hb _hk hp
  have p0 : (Sp.bool true).ok w (a.tmps.getD 117 undef) := hp 61 rfl
  exact st_want (wanted_none rfl) (st_move p0)
set_option maxRecDepth 100000 in
theorem laws_sZ63 {Q : Exit → Act → World → Prop} {a0 : Act} {w0 : World} {zA zB zC : Int} (E : LawsE a0 w0 zA zB zC) (_hgz : Int.gcd zA zB = 0) : StepOk Tryd.prog Q (regionOf Tryd.f6 11) (lawsSpZ zA zB zC) a0 w0 [7, 9, 11, 13, 15, 17] 63 := by
  intro a w hb hk hp
  have pg : slotOf (regionOf Tryd.f6 11).toArray a 62 = .bool true := hp 62 rfl
  exact st_want (wanted_slot rfl pg rfl) (st_load (hk 7 (by decide)) E.tA hb)
set_option maxRecDepth 100000 in
theorem laws_sZ64 {Q : Exit → Act → World → Prop} {a0 : Act} {w0 : World} {zA zB zC : Int} (E : LawsE a0 w0 zA zB zC) (_hgz : Int.gcd zA zB = 0) : StepOk Tryd.prog Q (regionOf Tryd.f6 11) (lawsSpZ zA zB zC) a0 w0 [7, 9, 11, 13, 15, 17] 64 := by
  intro a w hb hk hp
  have pg : slotOf (regionOf Tryd.f6 11).toArray a 62 = .bool true := hp 62 rfl
  exact st_want (wanted_slot rfl pg rfl) (st_load (hk 9 (by decide)) E.tB hb)
set_option maxRecDepth 100000 in
theorem laws_sZ65 {Q : Exit → Act → World → Prop} {a0 : Act} {w0 : World} {zA zB zC : Int} (E : LawsE a0 w0 zA zB zC) (_hgz : Int.gcd zA zB = 0) : StepOk Tryd.prog Q (regionOf Tryd.f6 11) (lawsSpZ zA zB zC) a0 w0 [7, 9, 11, 13, 15, 17] 65 := by
  intro a w _hb _hk hp
  have pg : slotOf (regionOf Tryd.f6 11).toArray a 62 = .bool true := hp 62 rfl
  have p0 : (Sp.num (zA)).ok w (a.tmps.getD 119 undef) := hp 63 rfl
  have p1 : (Sp.num (zB)).ok w (a.tmps.getD 120 undef) := hp 64 rfl
  exact st_want (wanted_slot rfl pg rfl) (st_Sub p0 p1 E.hA E.hB (by decide) (by decide))
set_option maxRecDepth 100000 in
theorem laws_sZ66 {Q : Exit → Act → World → Prop} {a0 : Act} {w0 : World} {zA zB zC : Int} (E : LawsE a0 w0 zA zB zC) (_hgz : Int.gcd zA zB = 0) : StepOk Tryd.prog Q (regionOf Tryd.f6 11) (lawsSpZ zA zB zC) a0 w0 [7, 9, 11, 13, 15, 17] 66 := by
  intro a w hb hk hp
  have pg : slotOf (regionOf Tryd.f6 11).toArray a 62 = .bool true := hp 62 rfl
  exact st_want (wanted_slot rfl pg rfl) (st_load (hk 9 (by decide)) E.tB hb)
set_option maxRecDepth 100000 in
theorem laws_sZ67 {Q : Exit → Act → World → Prop} {a0 : Act} {w0 : World} {zA zB zC : Int} (E : LawsE a0 w0 zA zB zC) (_hgz : Int.gcd zA zB = 0) : StepOk Tryd.prog Q (regionOf Tryd.f6 11) (lawsSpZ zA zB zC) a0 w0 [7, 9, 11, 13, 15, 17] 67 := by
  intro a w _hb _hk hp
  have pg : slotOf (regionOf Tryd.f6 11).toArray a 62 = .bool true := hp 62 rfl
  have p0 : (Sp.num (zA - zB)).ok w (a.tmps.getD 121 undef) := hp 65 rfl
  have p1 : (Sp.num (zB)).ok w (a.tmps.getD 122 undef) := hp 66 rfl
  exact st_want (wanted_slot rfl pg rfl) (st_Add p0 p1 (sub_lt2 E.hA E.hB) E.hB (by decide) (by decide))
set_option maxRecDepth 100000 in
theorem laws_sZ68 {Q : Exit → Act → World → Prop} {a0 : Act} {w0 : World} {zA zB zC : Int} (E : LawsE a0 w0 zA zB zC) (_hgz : Int.gcd zA zB = 0) : StepOk Tryd.prog Q (regionOf Tryd.f6 11) (lawsSpZ zA zB zC) a0 w0 [7, 9, 11, 13, 15, 17] 68 := by
  intro a w hb hk hp
  have pg : slotOf (regionOf Tryd.f6 11).toArray a 62 = .bool true := hp 62 rfl
  exact st_want (wanted_slot rfl pg rfl) (st_load (hk 7 (by decide)) E.tA hb)
set_option maxRecDepth 100000 in
theorem laws_sZ69 {Q : Exit → Act → World → Prop} {a0 : Act} {w0 : World} {zA zB zC : Int} (E : LawsE a0 w0 zA zB zC) (_hgz : Int.gcd zA zB = 0) : StepOk Tryd.prog Q (regionOf Tryd.f6 11) (lawsSpZ zA zB zC) a0 w0 [7, 9, 11, 13, 15, 17] 69 := by
  intro a w _hb _hk hp
  have pg : slotOf (regionOf Tryd.f6 11).toArray a 62 = .bool true := hp 62 rfl
  have p0 : (Sp.num (zA - zB + zB)).ok w (a.tmps.getD 123 undef) := hp 67 rfl
  have p1 : (Sp.num (zA)).ok w (a.tmps.getD 124 undef) := hp 68 rfl
  exact st_want (wanted_slot rfl pg rfl) (st_Cmp p0 p1 (add_lt2 (sub_lt2 E.hA E.hB) E.hB) E.hA (by decide) (by decide) (cmpI_eq (Int.sub_add_cancel _ _)))
set_option maxRecDepth 100000 in
theorem laws_sZ70 {Q : Exit → Act → World → Prop} {a0 : Act} {w0 : World} {zA zB zC : Int} (_E : LawsE a0 w0 zA zB zC) (_hgz : Int.gcd zA zB = 0) : StepOk Tryd.prog Q (regionOf Tryd.f6 11) (lawsSpZ zA zB zC) a0 w0 [7, 9, 11, 13, 15, 17] 70 := by
  intro a w _hb _hk hp
  have pg : slotOf (regionOf Tryd.f6 11).toArray a 62 = .bool true := hp 62 rfl
  have p0 : (Sp.int (0)).ok w (a.tmps.getD 125 undef) := hp 69 rfl
  exact st_want (wanted_slot rfl pg rfl) (st_eql0 p0 (rfl))
set_option maxRecDepth 100000 in
theorem laws_sZ71 {Q : Exit → Act → World → Prop} {a0 : Act} {w0 : World} {zA zB zC : Int} (_E : LawsE a0 w0 zA zB zC) (_hgz : Int.gcd zA zB = 0) : StepOk Tryd.prog Q (regionOf Tryd.f6 11) (lawsSpZ zA zB zC) a0 w0 [7, 9, 11, 13, 15, 17] 71 := by
  intro a w _hb _hk hp
  have p0 : (Sp.bool true).ok w (a.tmps.getD 118 undef) := hp 62 rfl
  have p1 : (Sp.bool true).ok w (a.tmps.getD 126 undef) := hp 70 rfl
  exact st_want (wanted_none rfl) (st_pick p0 p1)
set_option maxRecDepth 100000 in
theorem laws_sZ72 {Q : Exit → Act → World → Prop} {a0 : Act} {w0 : World} {zA zB zC : Int} (_E : LawsE a0 w0 zA zB zC) (_hgz : Int.gcd zA zB = 0) : StepOk Tryd.prog Q (regionOf Tryd.f6 11) (lawsSpZ zA zB zC) a0 w0 [7, 9, 11, 13, 15, 17] 72 := by
  intro a w _hb _hk hp
  have p0 : (Sp.bool true).ok w (a.tmps.getD 127 undef) := hp 71 rfl
  exact st_want (wanted_none rfl) (st_move p0)
set_option maxRecDepth 100000 in
theorem laws_sZ73 {Q : Exit → Act → World → Prop} {a0 : Act} {w0 : World} {zA zB zC : Int} (E : LawsE a0 w0 zA zB zC) (_hgz : Int.gcd zA zB = 0) : StepOk Tryd.prog Q (regionOf Tryd.f6 11) (lawsSpZ zA zB zC) a0 w0 [7, 9, 11, 13, 15, 17] 73 := by
  intro a w hb hk hp
  have pg : slotOf (regionOf Tryd.f6 11).toArray a 72 = .bool true := hp 72 rfl
  exact st_want (wanted_slot rfl pg rfl) (st_load (hk 7 (by decide)) E.tA hb)
set_option maxRecDepth 100000 in
theorem laws_sZ74 {Q : Exit → Act → World → Prop} {a0 : Act} {w0 : World} {zA zB zC : Int} (E : LawsE a0 w0 zA zB zC) (_hgz : Int.gcd zA zB = 0) : StepOk Tryd.prog Q (regionOf Tryd.f6 11) (lawsSpZ zA zB zC) a0 w0 [7, 9, 11, 13, 15, 17] 74 := by
  intro a w hb hk hp
  have pg : slotOf (regionOf Tryd.f6 11).toArray a 72 = .bool true := hp 72 rfl
  exact st_want (wanted_slot rfl pg rfl) (st_load (hk 7 (by decide)) E.tA hb)
set_option maxRecDepth 100000 in
theorem laws_sZ75 {Q : Exit → Act → World → Prop} {a0 : Act} {w0 : World} {zA zB zC : Int} (E : LawsE a0 w0 zA zB zC) (_hgz : Int.gcd zA zB = 0) : StepOk Tryd.prog Q (regionOf Tryd.f6 11) (lawsSpZ zA zB zC) a0 w0 [7, 9, 11, 13, 15, 17] 75 := by
  intro a w _hb _hk hp
  have pg : slotOf (regionOf Tryd.f6 11).toArray a 72 = .bool true := hp 72 rfl
  have p0 : (Sp.num (zA)).ok w (a.tmps.getD 130 undef) := hp 74 rfl
  exact st_want (wanted_slot rfl pg rfl) (st_Neg p0 E.hA (by decide))
set_option maxRecDepth 100000 in
theorem laws_sZ76 {Q : Exit → Act → World → Prop} {a0 : Act} {w0 : World} {zA zB zC : Int} (E : LawsE a0 w0 zA zB zC) (_hgz : Int.gcd zA zB = 0) : StepOk Tryd.prog Q (regionOf Tryd.f6 11) (lawsSpZ zA zB zC) a0 w0 [7, 9, 11, 13, 15, 17] 76 := by
  intro a w _hb _hk hp
  have pg : slotOf (regionOf Tryd.f6 11).toArray a 72 = .bool true := hp 72 rfl
  have p0 : (Sp.num (zA)).ok w (a.tmps.getD 129 undef) := hp 73 rfl
  have p1 : (Sp.num (-zA)).ok w (a.tmps.getD 131 undef) := hp 75 rfl
  exact st_want (wanted_slot rfl pg rfl) (st_Add p0 p1 E.hA (neg_pw E.hA) (by decide) (by decide))
set_option maxRecDepth 100000 in
theorem laws_sZ77 {Q : Exit → Act → World → Prop} {a0 : Act} {w0 : World} {zA zB zC : Int} (_E : LawsE a0 w0 zA zB zC) (_hgz : Int.gcd zA zB = 0) : StepOk Tryd.prog Q (regionOf Tryd.f6 11) (lawsSpZ zA zB zC) a0 w0 [7, 9, 11, 13, 15, 17] 77 := by
  intro a w _hb _hk hp
  have pg : slotOf (regionOf Tryd.f6 11).toArray a 72 = .bool true := hp 72 rfl
  have p0 : (Sp.num (zA + (-zA))).ok w (a.tmps.getD 132 undef) := hp 76 rfl
  exact st_want (wanted_slot rfl pg rfl) (st_Sign p0 (by rw [Int.add_right_neg]; rfl))
set_option maxRecDepth 100000 in
theorem laws_sZ78 {Q : Exit → Act → World → Prop} {a0 : Act} {w0 : World} {zA zB zC : Int} (_E : LawsE a0 w0 zA zB zC) (_hgz : Int.gcd zA zB = 0) : StepOk Tryd.prog Q (regionOf Tryd.f6 11) (lawsSpZ zA zB zC) a0 w0 [7, 9, 11, 13, 15, 17] 78 := by
  intro a w _hb _hk hp
  have pg : slotOf (regionOf Tryd.f6 11).toArray a 72 = .bool true := hp 72 rfl
  have p0 : (Sp.int (0)).ok w (a.tmps.getD 133 undef) := hp 77 rfl
  exact st_want (wanted_slot rfl pg rfl) (st_eql0 p0 (rfl))
set_option maxRecDepth 100000 in
theorem laws_sZ79 {Q : Exit → Act → World → Prop} {a0 : Act} {w0 : World} {zA zB zC : Int} (_E : LawsE a0 w0 zA zB zC) (_hgz : Int.gcd zA zB = 0) : StepOk Tryd.prog Q (regionOf Tryd.f6 11) (lawsSpZ zA zB zC) a0 w0 [7, 9, 11, 13, 15, 17] 79 := by
  intro a w _hb _hk hp
  have p0 : (Sp.bool true).ok w (a.tmps.getD 128 undef) := hp 72 rfl
  have p1 : (Sp.bool true).ok w (a.tmps.getD 134 undef) := hp 78 rfl
  exact st_want (wanted_none rfl) (st_pick p0 p1)
set_option maxRecDepth 100000 in
theorem laws_sZ80 {Q : Exit → Act → World → Prop} {a0 : Act} {w0 : World} {zA zB zC : Int} (_E : LawsE a0 w0 zA zB zC) (_hgz : Int.gcd zA zB = 0) : StepOk Tryd.prog Q (regionOf Tryd.f6 11) (lawsSpZ zA zB zC) a0 w0 [7, 9, 11, 13, 15, 17] 80 := by
  intro a w _hb _hk hp
  have p0 : (Sp.bool true).ok w (a.tmps.getD 135 undef) := hp 79 rfl
  exact st_want (wanted_none rfl) (st_move p0)
set_option maxRecDepth 100000 in
theorem laws_sZ81 {Q : Exit → Act → World → Prop} {a0 : Act} {w0 : World} {zA zB zC : Int} (E : LawsE a0 w0 zA zB zC) (_hgz : Int.gcd zA zB = 0) : StepOk Tryd.prog Q (regionOf Tryd.f6 11) (lawsSpZ zA zB zC) a0 w0 [7, 9, 11, 13, 15, 17] 81 := by
  intro a w hb hk hp
  have pg : slotOf (regionOf Tryd.f6 11).toArray a 80 = .bool true := hp 80 rfl
  exact st_want (wanted_slot rfl pg rfl) (st_load (hk 13 (by decide)) E.tG hb)
set_option maxRecDepth 100000 in
theorem laws_sZ82 {Q : Exit → Act → World → Prop} {a0 : Act} {w0 : World} {zA zB zC : Int} (_E : LawsE a0 w0 zA zB zC) (hgz : Int.gcd zA zB = 0) : StepOk Tryd.prog Q (regionOf Tryd.f6 11) (lawsSpZ zA zB zC) a0 w0 [7, 9, 11, 13, 15, 17] 82 := by
  intro a w _hb _hk hp
  have pg : slotOf (regionOf Tryd.f6 11).toArray a 80 = .bool true := hp 80 rfl
  have p0 : (Sp.num ((Int.gcd zA zB : Int))).ok w (a.tmps.getD 137 undef) := hp 81 rfl
  exact st_want (wanted_slot rfl pg rfl) (st_Sign p0 (by rw [hgz]; rfl))
set_option maxRecDepth 100000 in
theorem laws_sZ83 {Q : Exit → Act → World → Prop} {a0 : Act} {w0 : World} {zA zB zC : Int} (_E : LawsE a0 w0 zA zB zC) (_hgz : Int.gcd zA zB = 0) : StepOk Tryd.prog Q (regionOf Tryd.f6 11) (lawsSpZ zA zB zC) a0 w0 [7, 9, 11, 13, 15, 17] 83 := by
  intro a w _hb _hk hp
  have pg : slotOf (regionOf Tryd.f6 11).toArray a 80 = .bool true := hp 80 rfl
  have p0 : (Sp.int (0)).ok w (a.tmps.getD 138 undef) := hp 82 rfl
  exact st_want (wanted_slot rfl pg rfl) (st_eql0 p0 (rfl))
set_option maxRecDepth 100000 in
theorem laws_sZ84 {Q : Exit → Act → World → Prop} {a0 : Act} {w0 : World} {zA zB zC : Int} (_E : LawsE a0 w0 zA zB zC) (_hgz : Int.gcd zA zB = 0) : StepOk Tryd.prog Q (regionOf Tryd.f6 11) (lawsSpZ zA zB zC) a0 w0 [7, 9, 11, 13, 15, 17] 84 := by
  intro a w _hb _hk hp
  have pg : slotOf (regionOf Tryd.f6 11).toArray a 80 = .bool true := hp 80 rfl
  have p0 : (Sp.bool true).ok w (a.tmps.getD 139 undef) := hp 83 rfl
  exact st_want (wanted_slot rfl pg rfl) (st_move p0)
set_option maxRecDepth 100000 in
theorem laws_sZ85 {Q : Exit → Act → World → Prop} {a0 : Act} {w0 : World} {zA zB zC : Int} (_E : LawsE a0 w0 zA zB zC) (_hgz : Int.gcd zA zB = 0) : StepOk Tryd.prog Q (regionOf Tryd.f6 11) (lawsSpZ zA zB zC) a0 w0 [7, 9, 11, 13, 15, 17] 85 := by
  intro a w _hb _hk hp
  have pg : slotOf (regionOf Tryd.f6 11).toArray a 84 = .bool true := hp 84 rfl
  exact st_unwant (unwanted_slot rfl pg (by decide) rfl) rfl
set_option maxRecDepth 100000 in
theorem laws_sZ86 {Q : Exit → Act → World → Prop} {a0 : Act} {w0 : World} {zA zB zC : Int} (_E : LawsE a0 w0 zA zB zC) (_hgz : Int.gcd zA zB = 0) : StepOk Tryd.prog Q (regionOf Tryd.f6 11) (lawsSpZ zA zB zC) a0 w0 [7, 9, 11, 13, 15, 17] 86 := by
  intro a w _hb _hk hp
  have pg : slotOf (regionOf Tryd.f6 11).toArray a 84 = .bool true := hp 84 rfl
  exact st_unwant (unwanted_slot rfl pg (by decide) rfl) rfl
set_option maxRecDepth 100000 in
theorem laws_sZ87 {Q : Exit → Act → World → Prop} {a0 : Act} {w0 : World} {zA zB zC : Int} (_E : LawsE a0 w0 zA zB zC) (_hgz : Int.gcd zA zB = 0) : StepOk Tryd.prog Q (regionOf Tryd.f6 11) (lawsSpZ zA zB zC) a0 w0 [7, 9, 11, 13, 15, 17] 87 := by
  intro a w _hb _hk hp
  have pg : slotOf (regionOf Tryd.f6 11).toArray a 84 = .bool true := hp 84 rfl
  exact st_unwant (unwanted_slot rfl pg (by decide) rfl) rfl
set_option maxRecDepth 100000 in
theorem laws_sZ88 {Q : Exit → Act → World → Prop} {a0 : Act} {w0 : World} {zA zB zC : Int} (_E : LawsE a0 w0 zA zB zC) (_hgz : Int.gcd zA zB = 0) : StepOk Tryd.prog Q (regionOf Tryd.f6 11) (lawsSpZ zA zB zC) a0 w0 [7, 9, 11, 13, 15, 17] 88 := by
  intro a w _hb _hk hp
  have pg : slotOf (regionOf Tryd.f6 11).toArray a 84 = .bool true := hp 84 rfl
  exact st_unwant (unwanted_slot rfl pg (by decide) rfl) rfl
set_option maxRecDepth 100000 in
theorem laws_sZ89 {Q : Exit → Act → World → Prop} {a0 : Act} {w0 : World} {zA zB zC : Int} (_E : LawsE a0 w0 zA zB zC) (_hgz : Int.gcd zA zB = 0) : StepOk Tryd.prog Q (regionOf Tryd.f6 11) (lawsSpZ zA zB zC) a0 w0 [7, 9, 11, 13, 15, 17] 89 := by
  intro a w _hb _hk hp
  have pg : slotOf (regionOf Tryd.f6 11).toArray a 88 = undef := hp 88 rfl
  exact st_unwant (unwanted_undef rfl pg rfl) rfl
set_option maxRecDepth 100000 in
theorem laws_sZ90 {Q : Exit → Act → World → Prop} {a0 : Act} {w0 : World} {zA zB zC : Int} (_E : LawsE a0 w0 zA zB zC) (_hgz : Int.gcd zA zB = 0) : StepOk Tryd.prog Q (regionOf Tryd.f6 11) (lawsSpZ zA zB zC) a0 w0 [7, 9, 11, 13, 15, 17] 90 := by
  intro a w _hb _hk hp
  have pg : slotOf (regionOf Tryd.f6 11).toArray a 88 = undef := hp 88 rfl
  exact st_unwant (unwanted_undef rfl pg rfl) rfl
set_option maxRecDepth 100000 in
theorem laws_sZ91 {Q : Exit → Act → World → Prop} {a0 : Act} {w0 : World} {zA zB zC : Int} (_E : LawsE a0 w0 zA zB zC) (_hgz : Int.gcd zA zB = 0) : StepOk Tryd.prog Q (regionOf Tryd.f6 11) (lawsSpZ zA zB zC) a0 w0 [7, 9, 11, 13, 15, 17] 91 := by
  intro a w _hb _hk hp
  have pg : slotOf (regionOf Tryd.f6 11).toArray a 88 = undef := hp 88 rfl
  exact st_unwant (unwanted_undef rfl pg rfl) rfl
set_option maxRecDepth 100000 in
theorem laws_sZ92 {Q : Exit → Act → World → Prop} {a0 : Act} {w0 : World} {zA zB zC : Int} (_E : LawsE a0 w0 zA zB zC) (_hgz : Int.gcd zA zB = 0) : StepOk Tryd.prog Q (regionOf Tryd.f6 11) (lawsSpZ zA zB zC) a0 w0 [7, 9, 11, 13, 15, 17] 92 := by
  intro a w _hb _hk hp
  have pg : slotOf (regionOf Tryd.f6 11).toArray a 84 = .bool true := hp 84 rfl
  exact st_unwant (unwanted_slot rfl pg (by decide) rfl) rfl
set_option maxRecDepth 100000 in
theorem laws_sZ93 {Q : Exit → Act → World → Prop} {a0 : Act} {w0 : World} {zA zB zC : Int} (_E : LawsE a0 w0 zA zB zC) (_hgz : Int.gcd zA zB = 0) : StepOk Tryd.prog Q (regionOf Tryd.f6 11) (lawsSpZ zA zB zC) a0 w0 [7, 9, 11, 13, 15, 17] 93 := by
  intro a w _hb _hk hp
  have pg : slotOf (regionOf Tryd.f6 11).toArray a 80 = .bool true := hp 80 rfl
  have p0 : (Sp.bool true).ok w (a.tmps.getD 140 undef) := hp 84 rfl
  exact st_want (wanted_slot rfl pg rfl) (st_pick (S := Sp.bool true) p0 rfl)
set_option maxRecDepth 100000 in
theorem laws_sZ94 {Q : Exit → Act → World → Prop} {a0 : Act} {w0 : World} {zA zB zC : Int} (_E : LawsE a0 w0 zA zB zC) (_hgz : Int.gcd zA zB = 0) : StepOk Tryd.prog Q (regionOf Tryd.f6 11) (lawsSpZ zA zB zC) a0 w0 [7, 9, 11, 13, 15, 17] 94 := by
  intro a w _hb _hk hp
  have p0 : (Sp.bool true).ok w (a.tmps.getD 136 undef) := hp 80 rfl
  have p1 : (Sp.bool true).ok w (a.tmps.getD 149 undef) := hp 93 rfl
  exact st_want (wanted_none rfl) (st_pick p0 p1)
set_option maxRecDepth 100000 in
theorem laws_sZ95 {Q : Exit → Act → World → Prop} {a0 : Act} {w0 : World} {zA zB zC : Int} (_E : LawsE a0 w0 zA zB zC) (_hgz : Int.gcd zA zB = 0) : StepOk Tryd.prog Q (regionOf Tryd.f6 11) (lawsSpZ zA zB zC) a0 w0 [7, 9, 11, 13, 15, 17] 95 := by
  intro a w _hb _hk hp
  have p0 : (Sp.bool true).ok w (a.tmps.getD 150 undef) := hp 94 rfl
  exact st_want (wanted_none rfl) (st_move p0)
set_option maxRecDepth 100000 in
theorem laws_sZ96 {Q : Exit → Act → World → Prop} {a0 : Act} {w0 : World} {zA zB zC : Int} (E : LawsE a0 w0 zA zB zC) (_hgz : Int.gcd zA zB = 0) : StepOk Tryd.prog Q (regionOf Tryd.f6 11) (lawsSpZ zA zB zC) a0 w0 [7, 9, 11, 13, 15, 17] 96 := by
  intro a w hb hk hp
  have pg : slotOf (regionOf Tryd.f6 11).toArray a 95 = .bool true := hp 95 rfl
  exact st_want (wanted_slot rfl pg rfl) (st_load (hk 7 (by decide)) E.tA hb)
set_option maxRecDepth 100000 in
theorem laws_sZ97 {Q : Exit → Act → World → Prop} {a0 : Act} {w0 : World} {zA zB zC : Int} (E : LawsE a0 w0 zA zB zC) (_hgz : Int.gcd zA zB = 0) : StepOk Tryd.prog Q (regionOf Tryd.f6 11) (lawsSpZ zA zB zC) a0 w0 [7, 9, 11, 13, 15, 17] 97 := by
  intro a w hb hk hp
  have pg : slotOf (regionOf Tryd.f6 11).toArray a 95 = .bool true := hp 95 rfl
  exact st_want (wanted_slot rfl pg rfl) (st_load (hk 9 (by decide)) E.tB hb)
set_option maxRecDepth 100000 in
theorem laws_sZ98 {Q : Exit → Act → World → Prop} {a0 : Act} {w0 : World} {zA zB zC : Int} (E : LawsE a0 w0 zA zB zC) (_hgz : Int.gcd zA zB = 0) : StepOk Tryd.prog Q (regionOf Tryd.f6 11) (lawsSpZ zA zB zC) a0 w0 [7, 9, 11, 13, 15, 17] 98 := by
  intro a w _hb _hk hp
  have pg : slotOf (regionOf Tryd.f6 11).toArray a 95 = .bool true := hp 95 rfl
  have p0 : (Sp.num (zA)).ok w (a.tmps.getD 152 undef) := hp 96 rfl
  have p1 : (Sp.num (zB)).ok w (a.tmps.getD 153 undef) := hp 97 rfl
  exact st_want (wanted_slot rfl pg rfl) (st_Sub p0 p1 E.hA E.hB (by decide) (by decide))
set_option maxRecDepth 100000 in
theorem laws_sZ99 {Q : Exit → Act → World → Prop} {a0 : Act} {w0 : World} {zA zB zC : Int} (_E : LawsE a0 w0 zA zB zC) (_hgz : Int.gcd zA zB = 0) : StepOk Tryd.prog Q (regionOf Tryd.f6 11) (lawsSpZ zA zB zC) a0 w0 [7, 9, 11, 13, 15, 17] 99 := by
  intro a w _hb _hk hp
  have pg : slotOf (regionOf Tryd.f6 11).toArray a 95 = .bool true := hp 95 rfl
  have p0 : (Sp.num (zA - zB)).ok w (a.tmps.getD 154 undef) := hp 98 rfl
  exact st_want (wanted_slot rfl pg rfl) (st_Sign p0 (sgn_cmp _ _))
set_option maxRecDepth 100000 in
theorem laws_sZ100 {Q : Exit → Act → World → Prop} {a0 : Act} {w0 : World} {zA zB zC : Int} (E : LawsE a0 w0 zA zB zC) (_hgz : Int.gcd zA zB = 0) : StepOk Tryd.prog Q (regionOf Tryd.f6 11) (lawsSpZ zA zB zC) a0 w0 [7, 9, 11, 13, 15, 17] 100 := by
  intro a w hb hk hp
  have pg : slotOf (regionOf Tryd.f6 11).toArray a 95 = .bool true := hp 95 rfl
  exact st_want (wanted_slot rfl pg rfl) (st_load (hk 7 (by decide)) E.tA hb)
set_option maxRecDepth 100000 in
theorem laws_sZ101 {Q : Exit → Act → World → Prop} {a0 : Act} {w0 : World} {zA zB zC : Int} (E : LawsE a0 w0 zA zB zC) (_hgz : Int.gcd zA zB = 0) : StepOk Tryd.prog Q (regionOf Tryd.f6 11) (lawsSpZ zA zB zC) a0 w0 [7, 9, 11, 13, 15, 17] 101 := by
  intro a w hb hk hp
  have pg : slotOf (regionOf Tryd.f6 11).toArray a 95 = .bool true := hp 95 rfl
  exact st_want (wanted_slot rfl pg rfl) (st_load (hk 9 (by decide)) E.tB hb)
set_option maxRecDepth 100000 in
theorem laws_sZ102 {Q : Exit → Act → World → Prop} {a0 : Act} {w0 : World} {zA zB zC : Int} (E : LawsE a0 w0 zA zB zC) (_hgz : Int.gcd zA zB = 0) : StepOk Tryd.prog Q (regionOf Tryd.f6 11) (lawsSpZ zA zB zC) a0 w0 [7, 9, 11, 13, 15, 17] 102 := by
  intro a w _hb _hk hp
  have pg : slotOf (regionOf Tryd.f6 11).toArray a 95 = .bool true := hp 95 rfl
  have p0 : (Sp.num (zA)).ok w (a.tmps.getD 156 undef) := hp 100 rfl
  have p1 : (Sp.num (zB)).ok w (a.tmps.getD 157 undef) := hp 101 rfl
  exact st_want (wanted_slot rfl pg rfl) (st_Cmp p0 p1 E.hA E.hB (by decide) (by decide) (rfl))
set_option maxRecDepth 100000 in
theorem laws_sZ103 {Q : Exit → Act → World → Prop} {a0 : Act} {w0 : World} {zA zB zC : Int} (_E : LawsE a0 w0 zA zB zC) (_hgz : Int.gcd zA zB = 0) : StepOk Tryd.prog Q (regionOf Tryd.f6 11) (lawsSpZ zA zB zC) a0 w0 [7, 9, 11, 13, 15, 17] 103 := by
  intro a w _hb _hk hp
  have pg : slotOf (regionOf Tryd.f6 11).toArray a 95 = .bool true := hp 95 rfl
  have p0 : (Sp.int (cmpI zA zB)).ok w (a.tmps.getD 155 undef) := hp 99 rfl
  have p1 : (Sp.int (cmpI zA zB)).ok w (a.tmps.getD 158 undef) := hp 102 rfl
  exact st_want (wanted_slot rfl pg rfl) (st_eql p0 p1 (by simp))
set_option maxRecDepth 100000 in
theorem laws_sZ104 {Q : Exit → Act → World → Prop} {a0 : Act} {w0 : World} {zA zB zC : Int} (_E : LawsE a0 w0 zA zB zC) (_hgz : Int.gcd zA zB = 0) : StepOk Tryd.prog Q (regionOf Tryd.f6 11) (lawsSpZ zA zB zC) a0 w0 [7, 9, 11, 13, 15, 17] 104 := by
  intro a w _hb _hk hp
  have p0 : (Sp.bool true).ok w (a.tmps.getD 151 undef) := hp 95 rfl
  have p1 : (Sp.bool true).ok w (a.tmps.getD 159 undef) := hp 103 rfl
  exact st_want (wanted_none rfl) (st_pick p0 p1)
set_option maxRecDepth 100000 in
theorem laws_sZ105 {Q : Exit → Act → World → Prop} {a0 : Act} {w0 : World} {zA zB zC : Int} (_E : LawsE a0 w0 zA zB zC) (_hgz : Int.gcd zA zB = 0) : StepOk Tryd.prog Q (regionOf Tryd.f6 11) (lawsSpZ zA zB zC) a0 w0 [7, 9, 11, 13, 15, 17] 105 := by
  intro a w _hb _hk hp
  have p0 : (Sp.bool true).ok w (a.tmps.getD 160 undef) := hp 104 rfl
  exact st_want (wanted_none rfl) (st_assign p0)
set_option maxRecDepth 100000 in
theorem laws_allZ {Q : Exit → Act → World → Prop} {a0 : Act} {w0 : World} {zA zB zC : Int} (E : LawsE a0 w0 zA zB zC) (hgz : Int.gcd zA zB = 0) : ∀ i, i < 106 → StepOk Tryd.prog Q (regionOf Tryd.f6 11) (lawsSpZ zA zB zC) a0 w0 [7, 9, 11, 13, 15, 17] i :=
  flip lt_step (laws_sZ105 E hgz) <| flip lt_step (laws_sZ104 E hgz) <| flip lt_step (laws_sZ103 E hgz) <| flip lt_step (laws_sZ102 E hgz) <| flip lt_step (laws_sZ101 E hgz) <| flip lt_step (laws_sZ100 E hgz) <| flip lt_step (laws_sZ99 E hgz) <| flip lt_step (laws_sZ98 E hgz) <| flip lt_step (laws_sZ97 E hgz) <| flip lt_step (laws_sZ96 E hgz) <| flip lt_step (laws_sZ95 E hgz) <| flip lt_step (laws_sZ94 E hgz) <| flip lt_step (laws_sZ93 E hgz) <| flip lt_step (laws_sZ92 E hgz) <| flip lt_step (laws_sZ91 E hgz) <| flip lt_step (laws_sZ90 E hgz) <| flip lt_step (laws_sZ89 E hgz) <| flip lt_step (laws_sZ88 E hgz) <| flip lt_step (laws_sZ87 E hgz) <| flip lt_step (laws_sZ86 E hgz) <| flip lt_step (laws_sZ85 E hgz) <| flip lt_step (laws_sZ84 E hgz) <| flip lt_step (laws_sZ83 E hgz) <| flip lt_step (laws_sZ82 E hgz) <| flip lt_step (laws_sZ81 E hgz) <| flip lt_step (laws_sZ80 E hgz) <| flip lt_step (laws_sZ79 E hgz) <| flip lt_step (laws_sZ78 E hgz) <| flip lt_step (laws_sZ77 E hgz) <| flip lt_step (laws_sZ76 E hgz) <| flip lt_step (laws_sZ75 E hgz) <| flip lt_step (laws_sZ74 E hgz) <| flip lt_step (laws_sZ73 E hgz) <| flip lt_step (laws_sZ72 E hgz) <| flip lt_step (laws_sZ71 E hgz) <| flip lt_step (laws_sZ70 E hgz) <| flip lt_step (laws_sZ69 E hgz) <| flip lt_step (laws_sZ68 E hgz) <| flip lt_step (laws_sZ67 E hgz) <| flip lt_step (laws_sZ66 E hgz) <| flip lt_step (laws_sZ65 E hgz) <| flip lt_step (laws_sZ64 E hgz) <| flip lt_step (laws_sZ63 E hgz) <| flip lt_step (laws_sZ62 E hgz) <| flip lt_step (laws_sZ61 E hgz) <| flip lt_step (laws_sZ60 E hgz) <| flip lt_step (laws_sZ59 E hgz) <| flip lt_step (laws_sZ58 E hgz) <| flip lt_step (laws_sZ57 E hgz) <| flip lt_step (laws_sZ56 E hgz) <| flip lt_step (laws_sZ55 E hgz) <| flip lt_step (laws_sZ54 E hgz) <| flip lt_step (laws_sZ53 E hgz) <| flip lt_step (laws_sZ52 E hgz) <| flip lt_step (laws_sZ51 E hgz) <| flip lt_step (laws_sZ50 E hgz) <| flip lt_step (laws_sZ49 E hgz) <| flip lt_step (laws_sZ48 E hgz) <| flip lt_step (laws_sZ47 E hgz) <| flip lt_step (laws_sZ46 E hgz) <| flip lt_step (laws_sZ45 E hgz) <| flip lt_step (laws_sZ44 E hgz) <| flip lt_step (laws_sZ43 E hgz) <| flip lt_step (laws_sZ42 E hgz) <| flip lt_step (laws_sZ41 E hgz) <| flip lt_step (laws_sZ40 E hgz) <| flip lt_step (laws_sZ39 E hgz) <| flip lt_step (laws_sZ38 E hgz) <| flip lt_step (laws_sZ37 E hgz) <| flip lt_step (laws_sZ36 E hgz) <| flip lt_step (laws_sZ35 E hgz) <| flip lt_step (laws_sZ34 E hgz) <| flip lt_step (laws_sZ33 E hgz) <| flip lt_step (laws_sZ32 E hgz) <| flip lt_step (laws_sZ31 E hgz) <| flip lt_step (laws_sZ30 E hgz) <| flip lt_step (laws_sZ29 E hgz) <| flip lt_step (laws_sZ28 E hgz) <| flip lt_step (laws_sZ27 E hgz) <| flip lt_step (laws_sZ26 E hgz) <| flip lt_step (laws_sZ25 E hgz) <| flip lt_step (laws_sZ24 E hgz) <| flip lt_step (laws_sZ23 E hgz) <| flip lt_step (laws_sZ22 E hgz) <| flip lt_step (laws_sZ21 E hgz) <| flip lt_step (laws_sZ20 E hgz) <| flip lt_step (laws_sZ19 E hgz) <| flip lt_step (laws_sZ18 E hgz) <| flip lt_step (laws_sZ17 E hgz) <| flip lt_step (laws_sZ16 E hgz) <| flip lt_step (laws_sZ15 E hgz) <| flip lt_step (laws_sZ14 E hgz) <| flip lt_step (laws_sZ13 E hgz) <| flip lt_step (laws_sZ12 E hgz) <| flip lt_step (laws_sZ11 E hgz) <| flip lt_step (laws_sZ10 E hgz) <| flip lt_step (laws_sZ9 E hgz) <| flip lt_step (laws_sZ8 E hgz) <| flip lt_step (laws_sZ7 E hgz) <| flip lt_step (laws_sZ6 E hgz) <| flip lt_step (laws_sZ5 E hgz) <| flip lt_step (laws_sZ4 E hgz) <| flip lt_step (laws_sZ3 E hgz) <| flip lt_step (laws_sZ2 E hgz) <| flip lt_step (laws_sZ1 E hgz) <| flip lt_step (laws_sZ0 E hgz) <| lt_zero

set_option maxRecDepth 100000 in
theorem laws_last {Q : Exit → Act → World → Prop} {a0 : Act} {w0 : World} {zA zB zC : Int} (E : LawsE a0 w0 zA zB zC) (hN : a0.tmps.size = 161)
    (hQ : ∀ (a : Act) (w : World), Below w0.heap.size w0 w → a.defers = a0.defers → a.tmps.getD 6 undef = .bool true → Q .normal a w) :
    (Code.region 11 (regionOf Tryd.f6 11).toArray true).wp Tryd.prog Q a0 w0 := by
  by_cases hgz : Int.gcd zA zB = 0
  · exact region_sp 161 [7, 9, 11, 13, 15, 17] (lawsSpZ zA zB zC) (by kernel_rfl) (by kernel_rfl) hN 106 (by kernel_rfl) (laws_allZ E hgz) (fun a w hb hd _ _ h => hQ a w hb hd (h 105 (by decide)))
  · exact region_sp 161 [7, 9, 11, 13, 15, 17] (lawsSpP zA zB zC) (by kernel_rfl) (by kernel_rfl) hN 106 (by kernel_rfl) (laws_allP E hgz) (fun a w hb hd _ _ h => hQ a w hb hd (h 105 (by decide)))

end Go.Proofs.YtpkpkpjhpkndnaaDoor
