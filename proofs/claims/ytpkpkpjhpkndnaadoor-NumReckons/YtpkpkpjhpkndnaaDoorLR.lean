/- The walk of NumReckons: its last line by specs. -/
import Derived.Test.YtpkpkpjhpkndnaaDoorDT
import Derived.Test.YtpkpkpjhpkndnaaDoorK1
import Derived.Test.YtpkpkpjhpkndnaaDoorN2
import Derived.Test.YtpkpkpjhpkndnaaDoorL0

namespace Go.Proofs.YtpkpkpjhpkndnaaDoor
open Go Go.RowKit

theorem sgn_cmp (y z : Int) : sgn (y - z) = cmpI y z := by
  unfold sgn cmpI
  by_cases h1 : y < z
  · rw [if_pos (by omega), if_pos h1]
  · by_cases h2 : z < y
    · rw [if_neg (by omega), if_pos (by omega), if_neg h1, if_pos h2]
    · rw [if_neg (by omega), if_neg (by omega), if_neg h1, if_neg h2]
theorem cmpI_bd (y z : Int) : -1 ≤ cmpI y z ∧ cmpI y z ≤ 1 := by
  unfold cmpI
  split
  · omega
  · split <;> omega
theorem cmpI_anti (y z : Int) : cmpI y z = -cmpI z y := by
  unfold cmpI
  by_cases h1 : y < z
  · rw [if_pos h1, if_neg (by omega), if_pos h1]
  · by_cases h2 : z < y
    · rw [if_neg h1, if_pos h2, if_pos h2]; rfl
    · rw [if_neg h1, if_neg h2, if_neg h2, if_neg h1]; rfl
/-- What stands ahead of the last line. -/
structure ReckE (a0 : Act) (w0 : World) (zA zB : Int) : Prop where
  tab : Tab w0
  hA : (zA.natAbs : Int) < pw 40
  hB : (zB.natAbs : Int) < pw 40
  gA : (zA.natAbs : Int) < T4.pw 100
  gB : (zB.natAbs : Int) < T4.pw 100
  tA : PB a0 w0 5 zA
  tB : PB a0 w0 7 zB
  dA : PD a0 w0 6 zA
  dB : PD a0 w0 8 zB
def reckSp (zA zB : Int) : List Sp :=
  [Sp.num (zA),
   Sp.num (zB),
   Sp.num (zA + zB),
   Sp.doc (zA),
   Sp.doc (zB),
   Sp.doc (zA + zB),
   Sp.bool true,
   Sp.bool true,
   Sp.num (zA),
   Sp.num (zB),
   Sp.num (zA - zB),
   Sp.doc (zA),
   Sp.doc (zB),
   Sp.doc (zA - zB),
   Sp.bool true,
   Sp.bool true,
   Sp.bool true,
   Sp.num (zA),
   Sp.num (zB),
   Sp.num (zA * zB),
   Sp.doc (zA),
   Sp.doc (zB),
   Sp.doc (zA * zB),
   Sp.bool true,
   Sp.bool true,
   Sp.bool true,
   Sp.num (zA),
   Sp.num (-zA),
   Sp.doc (zA),
   Sp.doc (-zA),
   Sp.bool true,
   Sp.bool true,
   Sp.bool true,
   Sp.num (zA),
   Sp.num (zB),
   Sp.int (cmpI zA zB),
   Sp.doc (zA),
   Sp.doc (zB),
   Sp.int (cmpI zA zB),
   Sp.bool true,
   Sp.bool true,
   Sp.bool true,
   Sp.num (zA),
   Sp.int (sgn zA),
   Sp.doc (zA),
   Sp.int (sgn zA),
   Sp.bool true,
   Sp.bool true,
   Sp.bool true,
   Sp.num (zA),
   Sp.num (zB),
   Sp.int (cmpI zA zB),
   Sp.num (zB),
   Sp.num (zA),
   Sp.int (cmpI zB zA),
   Sp.int (-(cmpI zB zA)),
   Sp.bool true,
   Sp.bool true,
   Sp.bool true]
set_option maxRecDepth 100000 in
theorem reck_s0 {Q : Exit → Act → World → Prop} {a0 : Act} {w0 : World} {zA zB : Int} (E : ReckE a0 w0 zA zB) : StepOk Tryd.prog Q (regionOf Tryd.f4 7) (reckSp zA zB) a0 w0 [5, 6, 7, 8] 0 := by
  intro a w hb hk _hp
  exact st_want (wanted_none rfl) (st_load (hk 5 (by decide)) E.tA hb)
set_option maxRecDepth 100000 in
theorem reck_s1 {Q : Exit → Act → World → Prop} {a0 : Act} {w0 : World} {zA zB : Int} (E : ReckE a0 w0 zA zB) : StepOk Tryd.prog Q (regionOf Tryd.f4 7) (reckSp zA zB) a0 w0 [5, 6, 7, 8] 1 := by
  intro a w hb hk _hp
  exact st_want (wanted_none rfl) (st_load (hk 7 (by decide)) E.tB hb)
set_option maxRecDepth 100000 in
theorem reck_s2 {Q : Exit → Act → World → Prop} {a0 : Act} {w0 : World} {zA zB : Int} (E : ReckE a0 w0 zA zB) : StepOk Tryd.prog Q (regionOf Tryd.f4 7) (reckSp zA zB) a0 w0 [5, 6, 7, 8] 2 := by
  intro a w _hb _hk hp
  have p0 : (Sp.num (zA)).ok w (a.tmps.getD 26 undef) := hp 0 rfl
  have p1 : (Sp.num (zB)).ok w (a.tmps.getD 27 undef) := hp 1 rfl
  exact st_want (wanted_none rfl) (st_Add p0 p1 E.hA E.hB (by decide) (by decide))
set_option maxRecDepth 100000 in
theorem reck_s3 {Q : Exit → Act → World → Prop} {a0 : Act} {w0 : World} {zA zB : Int} (E : ReckE a0 w0 zA zB) : StepOk Tryd.prog Q (regionOf Tryd.f4 7) (reckSp zA zB) a0 w0 [5, 6, 7, 8] 3 := by
  intro a w hb hk _hp
  exact st_want (wanted_none rfl) (st_loadN (hk 6 (by decide)) E.dA hb)
set_option maxRecDepth 100000 in
theorem reck_s4 {Q : Exit → Act → World → Prop} {a0 : Act} {w0 : World} {zA zB : Int} (E : ReckE a0 w0 zA zB) : StepOk Tryd.prog Q (regionOf Tryd.f4 7) (reckSp zA zB) a0 w0 [5, 6, 7, 8] 4 := by
  intro a w hb hk _hp
  exact st_want (wanted_none rfl) (st_loadN (hk 8 (by decide)) E.dB hb)
set_option maxRecDepth 100000 in
theorem reck_s5 {Q : Exit → Act → World → Prop} {a0 : Act} {w0 : World} {zA zB : Int} (E : ReckE a0 w0 zA zB) : StepOk Tryd.prog Q (regionOf Tryd.f4 7) (reckSp zA zB) a0 w0 [5, 6, 7, 8] 5 := by
  intro a w _hb _hk hp
  have p0 : (Sp.doc (zA)).ok w (a.tmps.getD 29 undef) := hp 3 rfl
  have p1 : (Sp.doc (zB)).ok w (a.tmps.getD 30 undef) := hp 4 rfl
  exact st_want (wanted_none rfl) (st_AddN p0 p1 E.gA E.gB (by decide) (by decide))
set_option maxRecDepth 100000 in
theorem reck_s6 {Q : Exit → Act → World → Prop} {a0 : Act} {w0 : World} {zA zB : Int} (E : ReckE a0 w0 zA zB) : StepOk Tryd.prog Q (regionOf Tryd.f4 7) (reckSp zA zB) a0 w0 [5, 6, 7, 8] 6 := by
  intro a w hb _hk hp
  have p0 : (Sp.num (zA + zB)).ok w (a.tmps.getD 28 undef) := hp 2 rfl
  have p1 : (Sp.doc (zA + zB)).ok w (a.tmps.getD 31 undef) := hp 5 rfl
  exact st_want (wanted_none rfl) (st_same (E.tab.below hb) p0 p1 (add_lt2 E.hA E.hB) (T4.add_lt2 E.gA E.gB) (by decide) (by decide))
set_option maxRecDepth 100000 in
theorem reck_s7 {Q : Exit → Act → World → Prop} {a0 : Act} {w0 : World} {zA zB : Int} (_E : ReckE a0 w0 zA zB) : StepOk Tryd.prog Q (regionOf Tryd.f4 7) (reckSp zA zB) a0 w0 [5, 6, 7, 8] 7 := by
  intro a w _hb _hk hp
  have p0 : (Sp.bool true).ok w (a.tmps.getD 32 undef) := hp 6 rfl
  exact st_want (wanted_none rfl) (st_move p0)
set_option maxRecDepth 100000 in
theorem reck_s8 {Q : Exit → Act → World → Prop} {a0 : Act} {w0 : World} {zA zB : Int} (E : ReckE a0 w0 zA zB) : StepOk Tryd.prog Q (regionOf Tryd.f4 7) (reckSp zA zB) a0 w0 [5, 6, 7, 8] 8 := by
  intro a w hb hk hp
  have pg : slotOf (regionOf Tryd.f4 7).toArray a 7 = .bool true := hp 7 rfl
  exact st_want (wanted_slot rfl pg rfl) (st_load (hk 5 (by decide)) E.tA hb)
set_option maxRecDepth 100000 in
theorem reck_s9 {Q : Exit → Act → World → Prop} {a0 : Act} {w0 : World} {zA zB : Int} (E : ReckE a0 w0 zA zB) : StepOk Tryd.prog Q (regionOf Tryd.f4 7) (reckSp zA zB) a0 w0 [5, 6, 7, 8] 9 := by
  intro a w hb hk hp
  have pg : slotOf (regionOf Tryd.f4 7).toArray a 7 = .bool true := hp 7 rfl
  exact st_want (wanted_slot rfl pg rfl) (st_load (hk 7 (by decide)) E.tB hb)
set_option maxRecDepth 100000 in
theorem reck_s10 {Q : Exit → Act → World → Prop} {a0 : Act} {w0 : World} {zA zB : Int} (E : ReckE a0 w0 zA zB) : StepOk Tryd.prog Q (regionOf Tryd.f4 7) (reckSp zA zB) a0 w0 [5, 6, 7, 8] 10 := by
  intro a w _hb _hk hp
  have pg : slotOf (regionOf Tryd.f4 7).toArray a 7 = .bool true := hp 7 rfl
  have p0 : (Sp.num (zA)).ok w (a.tmps.getD 34 undef) := hp 8 rfl
  have p1 : (Sp.num (zB)).ok w (a.tmps.getD 35 undef) := hp 9 rfl
  exact st_want (wanted_slot rfl pg rfl) (st_Sub p0 p1 E.hA E.hB (by decide) (by decide))
set_option maxRecDepth 100000 in
theorem reck_s11 {Q : Exit → Act → World → Prop} {a0 : Act} {w0 : World} {zA zB : Int} (E : ReckE a0 w0 zA zB) : StepOk Tryd.prog Q (regionOf Tryd.f4 7) (reckSp zA zB) a0 w0 [5, 6, 7, 8] 11 := by
  intro a w hb hk hp
  have pg : slotOf (regionOf Tryd.f4 7).toArray a 7 = .bool true := hp 7 rfl
  exact st_want (wanted_slot rfl pg rfl) (st_loadN (hk 6 (by decide)) E.dA hb)
set_option maxRecDepth 100000 in
theorem reck_s12 {Q : Exit → Act → World → Prop} {a0 : Act} {w0 : World} {zA zB : Int} (E : ReckE a0 w0 zA zB) : StepOk Tryd.prog Q (regionOf Tryd.f4 7) (reckSp zA zB) a0 w0 [5, 6, 7, 8] 12 := by
  intro a w hb hk hp
  have pg : slotOf (regionOf Tryd.f4 7).toArray a 7 = .bool true := hp 7 rfl
  exact st_want (wanted_slot rfl pg rfl) (st_loadN (hk 8 (by decide)) E.dB hb)
set_option maxRecDepth 100000 in
theorem reck_s13 {Q : Exit → Act → World → Prop} {a0 : Act} {w0 : World} {zA zB : Int} (E : ReckE a0 w0 zA zB) : StepOk Tryd.prog Q (regionOf Tryd.f4 7) (reckSp zA zB) a0 w0 [5, 6, 7, 8] 13 := by
  intro a w _hb _hk hp
  have pg : slotOf (regionOf Tryd.f4 7).toArray a 7 = .bool true := hp 7 rfl
  have p0 : (Sp.doc (zA)).ok w (a.tmps.getD 37 undef) := hp 11 rfl
  have p1 : (Sp.doc (zB)).ok w (a.tmps.getD 38 undef) := hp 12 rfl
  exact st_want (wanted_slot rfl pg rfl) (st_SubN p0 p1 E.gA E.gB (by decide) (by decide))
set_option maxRecDepth 100000 in
theorem reck_s14 {Q : Exit → Act → World → Prop} {a0 : Act} {w0 : World} {zA zB : Int} (E : ReckE a0 w0 zA zB) : StepOk Tryd.prog Q (regionOf Tryd.f4 7) (reckSp zA zB) a0 w0 [5, 6, 7, 8] 14 := by
  intro a w hb _hk hp
  have pg : slotOf (regionOf Tryd.f4 7).toArray a 7 = .bool true := hp 7 rfl
  have p0 : (Sp.num (zA - zB)).ok w (a.tmps.getD 36 undef) := hp 10 rfl
  have p1 : (Sp.doc (zA - zB)).ok w (a.tmps.getD 39 undef) := hp 13 rfl
  exact st_want (wanted_slot rfl pg rfl) (st_same (E.tab.below hb) p0 p1 (sub_lt2 E.hA E.hB) (T4.sub_lt2 E.gA E.gB) (by decide) (by decide))
set_option maxRecDepth 100000 in
theorem reck_s15 {Q : Exit → Act → World → Prop} {a0 : Act} {w0 : World} {zA zB : Int} (_E : ReckE a0 w0 zA zB) : StepOk Tryd.prog Q (regionOf Tryd.f4 7) (reckSp zA zB) a0 w0 [5, 6, 7, 8] 15 := by
  intro a w _hb _hk hp
  have p0 : (Sp.bool true).ok w (a.tmps.getD 33 undef) := hp 7 rfl
  have p1 : (Sp.bool true).ok w (a.tmps.getD 40 undef) := hp 14 rfl
  exact st_want (wanted_none rfl) (st_pick p0 p1)
set_option maxRecDepth 100000 in
theorem reck_s16 {Q : Exit → Act → World → Prop} {a0 : Act} {w0 : World} {zA zB : Int} (_E : ReckE a0 w0 zA zB) : StepOk Tryd.prog Q (regionOf Tryd.f4 7) (reckSp zA zB) a0 w0 [5, 6, 7, 8] 16 := by
  intro a w _hb _hk hp
  have p0 : (Sp.bool true).ok w (a.tmps.getD 41 undef) := hp 15 rfl
  exact st_want (wanted_none rfl) (st_move p0)
set_option maxRecDepth 100000 in
theorem reck_s17 {Q : Exit → Act → World → Prop} {a0 : Act} {w0 : World} {zA zB : Int} (E : ReckE a0 w0 zA zB) : StepOk Tryd.prog Q (regionOf Tryd.f4 7) (reckSp zA zB) a0 w0 [5, 6, 7, 8] 17 := by
  intro a w hb hk hp
  have pg : slotOf (regionOf Tryd.f4 7).toArray a 16 = .bool true := hp 16 rfl
  exact st_want (wanted_slot rfl pg rfl) (st_load (hk 5 (by decide)) E.tA hb)
set_option maxRecDepth 100000 in
theorem reck_s18 {Q : Exit → Act → World → Prop} {a0 : Act} {w0 : World} {zA zB : Int} (E : ReckE a0 w0 zA zB) : StepOk Tryd.prog Q (regionOf Tryd.f4 7) (reckSp zA zB) a0 w0 [5, 6, 7, 8] 18 := by
  intro a w hb hk hp
  have pg : slotOf (regionOf Tryd.f4 7).toArray a 16 = .bool true := hp 16 rfl
  exact st_want (wanted_slot rfl pg rfl) (st_load (hk 7 (by decide)) E.tB hb)
set_option maxRecDepth 100000 in
theorem reck_s19 {Q : Exit → Act → World → Prop} {a0 : Act} {w0 : World} {zA zB : Int} (E : ReckE a0 w0 zA zB) : StepOk Tryd.prog Q (regionOf Tryd.f4 7) (reckSp zA zB) a0 w0 [5, 6, 7, 8] 19 := by
  intro a w _hb _hk hp
  have pg : slotOf (regionOf Tryd.f4 7).toArray a 16 = .bool true := hp 16 rfl
  have p0 : (Sp.num (zA)).ok w (a.tmps.getD 43 undef) := hp 17 rfl
  have p1 : (Sp.num (zB)).ok w (a.tmps.getD 44 undef) := hp 18 rfl
  exact st_want (wanted_slot rfl pg rfl) (st_Mul p0 p1 E.hA E.hB (by decide) (by decide))
set_option maxRecDepth 100000 in
theorem reck_s20 {Q : Exit → Act → World → Prop} {a0 : Act} {w0 : World} {zA zB : Int} (E : ReckE a0 w0 zA zB) : StepOk Tryd.prog Q (regionOf Tryd.f4 7) (reckSp zA zB) a0 w0 [5, 6, 7, 8] 20 := by
  intro a w hb hk hp
  have pg : slotOf (regionOf Tryd.f4 7).toArray a 16 = .bool true := hp 16 rfl
  exact st_want (wanted_slot rfl pg rfl) (st_loadN (hk 6 (by decide)) E.dA hb)
set_option maxRecDepth 100000 in
theorem reck_s21 {Q : Exit → Act → World → Prop} {a0 : Act} {w0 : World} {zA zB : Int} (E : ReckE a0 w0 zA zB) : StepOk Tryd.prog Q (regionOf Tryd.f4 7) (reckSp zA zB) a0 w0 [5, 6, 7, 8] 21 := by
  intro a w hb hk hp
  have pg : slotOf (regionOf Tryd.f4 7).toArray a 16 = .bool true := hp 16 rfl
  exact st_want (wanted_slot rfl pg rfl) (st_loadN (hk 8 (by decide)) E.dB hb)
set_option maxRecDepth 100000 in
theorem reck_s22 {Q : Exit → Act → World → Prop} {a0 : Act} {w0 : World} {zA zB : Int} (E : ReckE a0 w0 zA zB) : StepOk Tryd.prog Q (regionOf Tryd.f4 7) (reckSp zA zB) a0 w0 [5, 6, 7, 8] 22 := by
  intro a w _hb _hk hp
  have pg : slotOf (regionOf Tryd.f4 7).toArray a 16 = .bool true := hp 16 rfl
  have p0 : (Sp.doc (zA)).ok w (a.tmps.getD 46 undef) := hp 20 rfl
  have p1 : (Sp.doc (zB)).ok w (a.tmps.getD 47 undef) := hp 21 rfl
  exact st_want (wanted_slot rfl pg rfl) (st_MulN p0 p1 E.gA E.gB (by decide) (by decide))
set_option maxRecDepth 100000 in
theorem reck_s23 {Q : Exit → Act → World → Prop} {a0 : Act} {w0 : World} {zA zB : Int} (E : ReckE a0 w0 zA zB) : StepOk Tryd.prog Q (regionOf Tryd.f4 7) (reckSp zA zB) a0 w0 [5, 6, 7, 8] 23 := by
  intro a w hb _hk hp
  have pg : slotOf (regionOf Tryd.f4 7).toArray a 16 = .bool true := hp 16 rfl
  have p0 : (Sp.num (zA * zB)).ok w (a.tmps.getD 45 undef) := hp 19 rfl
  have p1 : (Sp.doc (zA * zB)).ok w (a.tmps.getD 48 undef) := hp 22 rfl
  exact st_want (wanted_slot rfl pg rfl) (st_same (E.tab.below hb) p0 p1 (mul_lt E.hA E.hB) (T4.mul_lt E.gA E.gB) (by decide) (by decide))
set_option maxRecDepth 100000 in
theorem reck_s24 {Q : Exit → Act → World → Prop} {a0 : Act} {w0 : World} {zA zB : Int} (_E : ReckE a0 w0 zA zB) : StepOk Tryd.prog Q (regionOf Tryd.f4 7) (reckSp zA zB) a0 w0 [5, 6, 7, 8] 24 := by
  intro a w _hb _hk hp
  have p0 : (Sp.bool true).ok w (a.tmps.getD 42 undef) := hp 16 rfl
  have p1 : (Sp.bool true).ok w (a.tmps.getD 49 undef) := hp 23 rfl
  exact st_want (wanted_none rfl) (st_pick p0 p1)
set_option maxRecDepth 100000 in
theorem reck_s25 {Q : Exit → Act → World → Prop} {a0 : Act} {w0 : World} {zA zB : Int} (_E : ReckE a0 w0 zA zB) : StepOk Tryd.prog Q (regionOf Tryd.f4 7) (reckSp zA zB) a0 w0 [5, 6, 7, 8] 25 := by
  intro a w _hb _hk hp
  have p0 : (Sp.bool true).ok w (a.tmps.getD 50 undef) := hp 24 rfl
  exact st_want (wanted_none rfl) (st_move p0)
set_option maxRecDepth 100000 in
theorem reck_s26 {Q : Exit → Act → World → Prop} {a0 : Act} {w0 : World} {zA zB : Int} (E : ReckE a0 w0 zA zB) : StepOk Tryd.prog Q (regionOf Tryd.f4 7) (reckSp zA zB) a0 w0 [5, 6, 7, 8] 26 := by
  intro a w hb hk hp
  have pg : slotOf (regionOf Tryd.f4 7).toArray a 25 = .bool true := hp 25 rfl
  exact st_want (wanted_slot rfl pg rfl) (st_load (hk 5 (by decide)) E.tA hb)
set_option maxRecDepth 100000 in
theorem reck_s27 {Q : Exit → Act → World → Prop} {a0 : Act} {w0 : World} {zA zB : Int} (E : ReckE a0 w0 zA zB) : StepOk Tryd.prog Q (regionOf Tryd.f4 7) (reckSp zA zB) a0 w0 [5, 6, 7, 8] 27 := by
  intro a w _hb _hk hp
  have pg : slotOf (regionOf Tryd.f4 7).toArray a 25 = .bool true := hp 25 rfl
  have p0 : (Sp.num (zA)).ok w (a.tmps.getD 52 undef) := hp 26 rfl
  exact st_want (wanted_slot rfl pg rfl) (st_Neg p0 E.hA (by decide))
set_option maxRecDepth 100000 in
theorem reck_s28 {Q : Exit → Act → World → Prop} {a0 : Act} {w0 : World} {zA zB : Int} (E : ReckE a0 w0 zA zB) : StepOk Tryd.prog Q (regionOf Tryd.f4 7) (reckSp zA zB) a0 w0 [5, 6, 7, 8] 28 := by
  intro a w hb hk hp
  have pg : slotOf (regionOf Tryd.f4 7).toArray a 25 = .bool true := hp 25 rfl
  exact st_want (wanted_slot rfl pg rfl) (st_loadN (hk 6 (by decide)) E.dA hb)
set_option maxRecDepth 100000 in
theorem reck_s29 {Q : Exit → Act → World → Prop} {a0 : Act} {w0 : World} {zA zB : Int} (_E : ReckE a0 w0 zA zB) : StepOk Tryd.prog Q (regionOf Tryd.f4 7) (reckSp zA zB) a0 w0 [5, 6, 7, 8] 29 := by
  intro a w _hb _hk hp
  have pg : slotOf (regionOf Tryd.f4 7).toArray a 25 = .bool true := hp 25 rfl
  have p0 : (Sp.doc (zA)).ok w (a.tmps.getD 54 undef) := hp 28 rfl
  exact st_want (wanted_slot rfl pg rfl) (st_NegN p0)
set_option maxRecDepth 100000 in
theorem reck_s30 {Q : Exit → Act → World → Prop} {a0 : Act} {w0 : World} {zA zB : Int} (E : ReckE a0 w0 zA zB) : StepOk Tryd.prog Q (regionOf Tryd.f4 7) (reckSp zA zB) a0 w0 [5, 6, 7, 8] 30 := by
  intro a w hb _hk hp
  have pg : slotOf (regionOf Tryd.f4 7).toArray a 25 = .bool true := hp 25 rfl
  have p0 : (Sp.num (-zA)).ok w (a.tmps.getD 53 undef) := hp 27 rfl
  have p1 : (Sp.doc (-zA)).ok w (a.tmps.getD 55 undef) := hp 29 rfl
  exact st_want (wanted_slot rfl pg rfl) (st_same (E.tab.below hb) p0 p1 (neg_pw E.hA) (T4.neg_lt E.gA) (by decide) (by decide))
set_option maxRecDepth 100000 in
theorem reck_s31 {Q : Exit → Act → World → Prop} {a0 : Act} {w0 : World} {zA zB : Int} (_E : ReckE a0 w0 zA zB) : StepOk Tryd.prog Q (regionOf Tryd.f4 7) (reckSp zA zB) a0 w0 [5, 6, 7, 8] 31 := by
  intro a w _hb _hk hp
  have p0 : (Sp.bool true).ok w (a.tmps.getD 51 undef) := hp 25 rfl
  have p1 : (Sp.bool true).ok w (a.tmps.getD 56 undef) := hp 30 rfl
  exact st_want (wanted_none rfl) (st_pick p0 p1)
set_option maxRecDepth 100000 in
theorem reck_s32 {Q : Exit → Act → World → Prop} {a0 : Act} {w0 : World} {zA zB : Int} (_E : ReckE a0 w0 zA zB) : StepOk Tryd.prog Q (regionOf Tryd.f4 7) (reckSp zA zB) a0 w0 [5, 6, 7, 8] 32 := by
  intro a w _hb _hk hp
  have p0 : (Sp.bool true).ok w (a.tmps.getD 57 undef) := hp 31 rfl
  exact st_want (wanted_none rfl) (st_move p0)
set_option maxRecDepth 100000 in
theorem reck_s33 {Q : Exit → Act → World → Prop} {a0 : Act} {w0 : World} {zA zB : Int} (E : ReckE a0 w0 zA zB) : StepOk Tryd.prog Q (regionOf Tryd.f4 7) (reckSp zA zB) a0 w0 [5, 6, 7, 8] 33 := by
  intro a w hb hk hp
  have pg : slotOf (regionOf Tryd.f4 7).toArray a 32 = .bool true := hp 32 rfl
  exact st_want (wanted_slot rfl pg rfl) (st_load (hk 5 (by decide)) E.tA hb)
set_option maxRecDepth 100000 in
theorem reck_s34 {Q : Exit → Act → World → Prop} {a0 : Act} {w0 : World} {zA zB : Int} (E : ReckE a0 w0 zA zB) : StepOk Tryd.prog Q (regionOf Tryd.f4 7) (reckSp zA zB) a0 w0 [5, 6, 7, 8] 34 := by
  intro a w hb hk hp
  have pg : slotOf (regionOf Tryd.f4 7).toArray a 32 = .bool true := hp 32 rfl
  exact st_want (wanted_slot rfl pg rfl) (st_load (hk 7 (by decide)) E.tB hb)
set_option maxRecDepth 100000 in
theorem reck_s35 {Q : Exit → Act → World → Prop} {a0 : Act} {w0 : World} {zA zB : Int} (E : ReckE a0 w0 zA zB) : StepOk Tryd.prog Q (regionOf Tryd.f4 7) (reckSp zA zB) a0 w0 [5, 6, 7, 8] 35 := by
  intro a w _hb _hk hp
  have pg : slotOf (regionOf Tryd.f4 7).toArray a 32 = .bool true := hp 32 rfl
  have p0 : (Sp.num (zA)).ok w (a.tmps.getD 59 undef) := hp 33 rfl
  have p1 : (Sp.num (zB)).ok w (a.tmps.getD 60 undef) := hp 34 rfl
  exact st_want (wanted_slot rfl pg rfl) (st_Cmp p0 p1 E.hA E.hB (by decide) (by decide) (rfl))
set_option maxRecDepth 100000 in
theorem reck_s36 {Q : Exit → Act → World → Prop} {a0 : Act} {w0 : World} {zA zB : Int} (E : ReckE a0 w0 zA zB) : StepOk Tryd.prog Q (regionOf Tryd.f4 7) (reckSp zA zB) a0 w0 [5, 6, 7, 8] 36 := by
  intro a w hb hk hp
  have pg : slotOf (regionOf Tryd.f4 7).toArray a 32 = .bool true := hp 32 rfl
  exact st_want (wanted_slot rfl pg rfl) (st_loadN (hk 6 (by decide)) E.dA hb)
set_option maxRecDepth 100000 in
theorem reck_s37 {Q : Exit → Act → World → Prop} {a0 : Act} {w0 : World} {zA zB : Int} (E : ReckE a0 w0 zA zB) : StepOk Tryd.prog Q (regionOf Tryd.f4 7) (reckSp zA zB) a0 w0 [5, 6, 7, 8] 37 := by
  intro a w hb hk hp
  have pg : slotOf (regionOf Tryd.f4 7).toArray a 32 = .bool true := hp 32 rfl
  exact st_want (wanted_slot rfl pg rfl) (st_loadN (hk 8 (by decide)) E.dB hb)
set_option maxRecDepth 100000 in
theorem reck_s38 {Q : Exit → Act → World → Prop} {a0 : Act} {w0 : World} {zA zB : Int} (E : ReckE a0 w0 zA zB) : StepOk Tryd.prog Q (regionOf Tryd.f4 7) (reckSp zA zB) a0 w0 [5, 6, 7, 8] 38 := by
  intro a w _hb _hk hp
  have pg : slotOf (regionOf Tryd.f4 7).toArray a 32 = .bool true := hp 32 rfl
  have p0 : (Sp.doc (zA)).ok w (a.tmps.getD 62 undef) := hp 36 rfl
  have p1 : (Sp.doc (zB)).ok w (a.tmps.getD 63 undef) := hp 37 rfl
  exact st_want (wanted_slot rfl pg rfl) (st_CmpN p0 p1 E.gA E.gB (by decide) (by decide) (sgn_cmp _ _))
set_option maxRecDepth 100000 in
theorem reck_s39 {Q : Exit → Act → World → Prop} {a0 : Act} {w0 : World} {zA zB : Int} (_E : ReckE a0 w0 zA zB) : StepOk Tryd.prog Q (regionOf Tryd.f4 7) (reckSp zA zB) a0 w0 [5, 6, 7, 8] 39 := by
  intro a w _hb _hk hp
  have pg : slotOf (regionOf Tryd.f4 7).toArray a 32 = .bool true := hp 32 rfl
  have p0 : (Sp.int (cmpI zA zB)).ok w (a.tmps.getD 61 undef) := hp 35 rfl
  have p1 : (Sp.int (cmpI zA zB)).ok w (a.tmps.getD 64 undef) := hp 38 rfl
  exact st_want (wanted_slot rfl pg rfl) (st_eql p0 p1 (by simp))
set_option maxRecDepth 100000 in
theorem reck_s40 {Q : Exit → Act → World → Prop} {a0 : Act} {w0 : World} {zA zB : Int} (_E : ReckE a0 w0 zA zB) : StepOk Tryd.prog Q (regionOf Tryd.f4 7) (reckSp zA zB) a0 w0 [5, 6, 7, 8] 40 := by
  intro a w _hb _hk hp
  have p0 : (Sp.bool true).ok w (a.tmps.getD 58 undef) := hp 32 rfl
  have p1 : (Sp.bool true).ok w (a.tmps.getD 65 undef) := hp 39 rfl
  exact st_want (wanted_none rfl) (st_pick p0 p1)
set_option maxRecDepth 100000 in
theorem reck_s41 {Q : Exit → Act → World → Prop} {a0 : Act} {w0 : World} {zA zB : Int} (_E : ReckE a0 w0 zA zB) : StepOk Tryd.prog Q (regionOf Tryd.f4 7) (reckSp zA zB) a0 w0 [5, 6, 7, 8] 41 := by
  intro a w _hb _hk hp
  have p0 : (Sp.bool true).ok w (a.tmps.getD 66 undef) := hp 40 rfl
  exact st_want (wanted_none rfl) (st_move p0)
set_option maxRecDepth 100000 in
theorem reck_s42 {Q : Exit → Act → World → Prop} {a0 : Act} {w0 : World} {zA zB : Int} (E : ReckE a0 w0 zA zB) : StepOk Tryd.prog Q (regionOf Tryd.f4 7) (reckSp zA zB) a0 w0 [5, 6, 7, 8] 42 := by
  intro a w hb hk hp
  have pg : slotOf (regionOf Tryd.f4 7).toArray a 41 = .bool true := hp 41 rfl
  exact st_want (wanted_slot rfl pg rfl) (st_load (hk 5 (by decide)) E.tA hb)
set_option maxRecDepth 100000 in
theorem reck_s43 {Q : Exit → Act → World → Prop} {a0 : Act} {w0 : World} {zA zB : Int} (_E : ReckE a0 w0 zA zB) : StepOk Tryd.prog Q (regionOf Tryd.f4 7) (reckSp zA zB) a0 w0 [5, 6, 7, 8] 43 := by
  intro a w _hb _hk hp
  have pg : slotOf (regionOf Tryd.f4 7).toArray a 41 = .bool true := hp 41 rfl
  have p0 : (Sp.num (zA)).ok w (a.tmps.getD 68 undef) := hp 42 rfl
  exact st_want (wanted_slot rfl pg rfl) (st_Sign p0 (rfl))
set_option maxRecDepth 100000 in
theorem reck_s44 {Q : Exit → Act → World → Prop} {a0 : Act} {w0 : World} {zA zB : Int} (E : ReckE a0 w0 zA zB) : StepOk Tryd.prog Q (regionOf Tryd.f4 7) (reckSp zA zB) a0 w0 [5, 6, 7, 8] 44 := by
  intro a w hb hk hp
  have pg : slotOf (regionOf Tryd.f4 7).toArray a 41 = .bool true := hp 41 rfl
  exact st_want (wanted_slot rfl pg rfl) (st_loadN (hk 6 (by decide)) E.dA hb)
set_option maxRecDepth 100000 in
theorem reck_s45 {Q : Exit → Act → World → Prop} {a0 : Act} {w0 : World} {zA zB : Int} (_E : ReckE a0 w0 zA zB) : StepOk Tryd.prog Q (regionOf Tryd.f4 7) (reckSp zA zB) a0 w0 [5, 6, 7, 8] 45 := by
  intro a w _hb _hk hp
  have pg : slotOf (regionOf Tryd.f4 7).toArray a 41 = .bool true := hp 41 rfl
  have p0 : (Sp.doc (zA)).ok w (a.tmps.getD 70 undef) := hp 44 rfl
  exact st_want (wanted_slot rfl pg rfl) (st_SignN p0 (rfl))
set_option maxRecDepth 100000 in
theorem reck_s46 {Q : Exit → Act → World → Prop} {a0 : Act} {w0 : World} {zA zB : Int} (_E : ReckE a0 w0 zA zB) : StepOk Tryd.prog Q (regionOf Tryd.f4 7) (reckSp zA zB) a0 w0 [5, 6, 7, 8] 46 := by
  intro a w _hb _hk hp
  have pg : slotOf (regionOf Tryd.f4 7).toArray a 41 = .bool true := hp 41 rfl
  have p0 : (Sp.int (sgn zA)).ok w (a.tmps.getD 69 undef) := hp 43 rfl
  have p1 : (Sp.int (sgn zA)).ok w (a.tmps.getD 71 undef) := hp 45 rfl
  exact st_want (wanted_slot rfl pg rfl) (st_eql p0 p1 (by simp))
set_option maxRecDepth 100000 in
theorem reck_s47 {Q : Exit → Act → World → Prop} {a0 : Act} {w0 : World} {zA zB : Int} (_E : ReckE a0 w0 zA zB) : StepOk Tryd.prog Q (regionOf Tryd.f4 7) (reckSp zA zB) a0 w0 [5, 6, 7, 8] 47 := by
  intro a w _hb _hk hp
  have p0 : (Sp.bool true).ok w (a.tmps.getD 67 undef) := hp 41 rfl
  have p1 : (Sp.bool true).ok w (a.tmps.getD 72 undef) := hp 46 rfl
  exact st_want (wanted_none rfl) (st_pick p0 p1)
set_option maxRecDepth 100000 in
theorem reck_s48 {Q : Exit → Act → World → Prop} {a0 : Act} {w0 : World} {zA zB : Int} (_E : ReckE a0 w0 zA zB) : StepOk Tryd.prog Q (regionOf Tryd.f4 7) (reckSp zA zB) a0 w0 [5, 6, 7, 8] 48 := by
  intro a w _hb _hk hp
  have p0 : (Sp.bool true).ok w (a.tmps.getD 73 undef) := hp 47 rfl
  exact st_want (wanted_none rfl) (st_move p0)
set_option maxRecDepth 100000 in
theorem reck_s49 {Q : Exit → Act → World → Prop} {a0 : Act} {w0 : World} {zA zB : Int} (E : ReckE a0 w0 zA zB) : StepOk Tryd.prog Q (regionOf Tryd.f4 7) (reckSp zA zB) a0 w0 [5, 6, 7, 8] 49 := by
  intro a w hb hk hp
  have pg : slotOf (regionOf Tryd.f4 7).toArray a 48 = .bool true := hp 48 rfl
  exact st_want (wanted_slot rfl pg rfl) (st_load (hk 5 (by decide)) E.tA hb)
set_option maxRecDepth 100000 in
theorem reck_s50 {Q : Exit → Act → World → Prop} {a0 : Act} {w0 : World} {zA zB : Int} (E : ReckE a0 w0 zA zB) : StepOk Tryd.prog Q (regionOf Tryd.f4 7) (reckSp zA zB) a0 w0 [5, 6, 7, 8] 50 := by
  intro a w hb hk hp
  have pg : slotOf (regionOf Tryd.f4 7).toArray a 48 = .bool true := hp 48 rfl
  exact st_want (wanted_slot rfl pg rfl) (st_load (hk 7 (by decide)) E.tB hb)
set_option maxRecDepth 100000 in
theorem reck_s51 {Q : Exit → Act → World → Prop} {a0 : Act} {w0 : World} {zA zB : Int} (E : ReckE a0 w0 zA zB) : StepOk Tryd.prog Q (regionOf Tryd.f4 7) (reckSp zA zB) a0 w0 [5, 6, 7, 8] 51 := by
  intro a w _hb _hk hp
  have pg : slotOf (regionOf Tryd.f4 7).toArray a 48 = .bool true := hp 48 rfl
  have p0 : (Sp.num (zA)).ok w (a.tmps.getD 75 undef) := hp 49 rfl
  have p1 : (Sp.num (zB)).ok w (a.tmps.getD 76 undef) := hp 50 rfl
  exact st_want (wanted_slot rfl pg rfl) (st_Cmp p0 p1 E.hA E.hB (by decide) (by decide) (rfl))
set_option maxRecDepth 100000 in
theorem reck_s52 {Q : Exit → Act → World → Prop} {a0 : Act} {w0 : World} {zA zB : Int} (E : ReckE a0 w0 zA zB) : StepOk Tryd.prog Q (regionOf Tryd.f4 7) (reckSp zA zB) a0 w0 [5, 6, 7, 8] 52 := by
  intro a w hb hk hp
  have pg : slotOf (regionOf Tryd.f4 7).toArray a 48 = .bool true := hp 48 rfl
  exact st_want (wanted_slot rfl pg rfl) (st_load (hk 7 (by decide)) E.tB hb)
set_option maxRecDepth 100000 in
theorem reck_s53 {Q : Exit → Act → World → Prop} {a0 : Act} {w0 : World} {zA zB : Int} (E : ReckE a0 w0 zA zB) : StepOk Tryd.prog Q (regionOf Tryd.f4 7) (reckSp zA zB) a0 w0 [5, 6, 7, 8] 53 := by
  intro a w hb hk hp
  have pg : slotOf (regionOf Tryd.f4 7).toArray a 48 = .bool true := hp 48 rfl
  exact st_want (wanted_slot rfl pg rfl) (st_load (hk 5 (by decide)) E.tA hb)
set_option maxRecDepth 100000 in
theorem reck_s54 {Q : Exit → Act → World → Prop} {a0 : Act} {w0 : World} {zA zB : Int} (E : ReckE a0 w0 zA zB) : StepOk Tryd.prog Q (regionOf Tryd.f4 7) (reckSp zA zB) a0 w0 [5, 6, 7, 8] 54 := by
  intro a w _hb _hk hp
  have pg : slotOf (regionOf Tryd.f4 7).toArray a 48 = .bool true := hp 48 rfl
  have p0 : (Sp.num (zB)).ok w (a.tmps.getD 78 undef) := hp 52 rfl
  have p1 : (Sp.num (zA)).ok w (a.tmps.getD 79 undef) := hp 53 rfl
  exact st_want (wanted_slot rfl pg rfl) (st_Cmp p0 p1 E.hB E.hA (by decide) (by decide) (rfl))
set_option maxRecDepth 100000 in
theorem reck_s55 {Q : Exit → Act → World → Prop} {a0 : Act} {w0 : World} {zA zB : Int} (_E : ReckE a0 w0 zA zB) : StepOk Tryd.prog Q (regionOf Tryd.f4 7) (reckSp zA zB) a0 w0 [5, 6, 7, 8] 55 := by
  intro a w _hb _hk hp
  have pg : slotOf (regionOf Tryd.f4 7).toArray a 48 = .bool true := hp 48 rfl
  have p0 : (Sp.int (cmpI zB zA)).ok w (a.tmps.getD 80 undef) := hp 54 rfl
  exact st_want (wanted_slot rfl pg rfl) (st_neg p0 (cmpI_bd _ _).1 (cmpI_bd _ _).2)
set_option maxRecDepth 100000 in
theorem reck_s56 {Q : Exit → Act → World → Prop} {a0 : Act} {w0 : World} {zA zB : Int} (_E : ReckE a0 w0 zA zB) : StepOk Tryd.prog Q (regionOf Tryd.f4 7) (reckSp zA zB) a0 w0 [5, 6, 7, 8] 56 := by
  intro a w _hb _hk hp
  have pg : slotOf (regionOf Tryd.f4 7).toArray a 48 = .bool true := hp 48 rfl
  have p0 : (Sp.int (cmpI zA zB)).ok w (a.tmps.getD 77 undef) := hp 51 rfl
  have p1 : (Sp.int (-(cmpI zB zA))).ok w (a.tmps.getD 81 undef) := hp 55 rfl
  exact st_want (wanted_slot rfl pg rfl) (st_eql p0 p1 (by rw [cmpI_anti]; simp))
set_option maxRecDepth 100000 in
theorem reck_s57 {Q : Exit → Act → World → Prop} {a0 : Act} {w0 : World} {zA zB : Int} (_E : ReckE a0 w0 zA zB) : StepOk Tryd.prog Q (regionOf Tryd.f4 7) (reckSp zA zB) a0 w0 [5, 6, 7, 8] 57 := by
  intro a w _hb _hk hp
  have p0 : (Sp.bool true).ok w (a.tmps.getD 74 undef) := hp 48 rfl
  have p1 : (Sp.bool true).ok w (a.tmps.getD 82 undef) := hp 56 rfl
  exact st_want (wanted_none rfl) (st_pick p0 p1)
set_option maxRecDepth 100000 in
theorem reck_s58 {Q : Exit → Act → World → Prop} {a0 : Act} {w0 : World} {zA zB : Int} (_E : ReckE a0 w0 zA zB) : StepOk Tryd.prog Q (regionOf Tryd.f4 7) (reckSp zA zB) a0 w0 [5, 6, 7, 8] 58 := by
  intro a w _hb _hk hp
  have p0 : (Sp.bool true).ok w (a.tmps.getD 83 undef) := hp 57 rfl
  exact st_want (wanted_none rfl) (st_assign p0)
set_option maxRecDepth 100000 in
theorem reck_all {Q : Exit → Act → World → Prop} {a0 : Act} {w0 : World} {zA zB : Int} (E : ReckE a0 w0 zA zB) : ∀ i, i < 59 → StepOk Tryd.prog Q (regionOf Tryd.f4 7) (reckSp zA zB) a0 w0 [5, 6, 7, 8] i :=
  flip lt_step (reck_s58 E) <| flip lt_step (reck_s57 E) <| flip lt_step (reck_s56 E) <| flip lt_step (reck_s55 E) <| flip lt_step (reck_s54 E) <| flip lt_step (reck_s53 E) <| flip lt_step (reck_s52 E) <| flip lt_step (reck_s51 E) <| flip lt_step (reck_s50 E) <| flip lt_step (reck_s49 E) <| flip lt_step (reck_s48 E) <| flip lt_step (reck_s47 E) <| flip lt_step (reck_s46 E) <| flip lt_step (reck_s45 E) <| flip lt_step (reck_s44 E) <| flip lt_step (reck_s43 E) <| flip lt_step (reck_s42 E) <| flip lt_step (reck_s41 E) <| flip lt_step (reck_s40 E) <| flip lt_step (reck_s39 E) <| flip lt_step (reck_s38 E) <| flip lt_step (reck_s37 E) <| flip lt_step (reck_s36 E) <| flip lt_step (reck_s35 E) <| flip lt_step (reck_s34 E) <| flip lt_step (reck_s33 E) <| flip lt_step (reck_s32 E) <| flip lt_step (reck_s31 E) <| flip lt_step (reck_s30 E) <| flip lt_step (reck_s29 E) <| flip lt_step (reck_s28 E) <| flip lt_step (reck_s27 E) <| flip lt_step (reck_s26 E) <| flip lt_step (reck_s25 E) <| flip lt_step (reck_s24 E) <| flip lt_step (reck_s23 E) <| flip lt_step (reck_s22 E) <| flip lt_step (reck_s21 E) <| flip lt_step (reck_s20 E) <| flip lt_step (reck_s19 E) <| flip lt_step (reck_s18 E) <| flip lt_step (reck_s17 E) <| flip lt_step (reck_s16 E) <| flip lt_step (reck_s15 E) <| flip lt_step (reck_s14 E) <| flip lt_step (reck_s13 E) <| flip lt_step (reck_s12 E) <| flip lt_step (reck_s11 E) <| flip lt_step (reck_s10 E) <| flip lt_step (reck_s9 E) <| flip lt_step (reck_s8 E) <| flip lt_step (reck_s7 E) <| flip lt_step (reck_s6 E) <| flip lt_step (reck_s5 E) <| flip lt_step (reck_s4 E) <| flip lt_step (reck_s3 E) <| flip lt_step (reck_s2 E) <| flip lt_step (reck_s1 E) <| flip lt_step (reck_s0 E) <| lt_zero

set_option maxRecDepth 100000 in
theorem reck_last {Q : Exit → Act → World → Prop} {a0 : Act} {w0 : World} {zA zB : Int} (E : ReckE a0 w0 zA zB) (hN : a0.tmps.size = 84)
    (hQ : ∀ (a : Act) (w : World), Below w0.heap.size w0 w → a.defers = a0.defers → a.tmps.getD 4 undef = .bool true → Q .normal a w) :
    (Code.region 7 (regionOf Tryd.f4 7).toArray true).wp Tryd.prog Q a0 w0 :=
  region_sp 84 [5, 6, 7, 8] (reckSp zA zB) (by kernel_rfl) (by kernel_rfl) hN 59 (by kernel_rfl) (reck_all E) (fun a w hb hd _ _ h => hQ a w hb hd (h 58 (by decide)))

end Go.Proofs.YtpkpkpjhpkndnaaDoor

/- The walk of NumReckons. -/
namespace Go.Proofs.YtpkpkpjhpkndnaaDoor
open Go.RowKit

set_option maxRecDepth 100000 in
set_option maxHeartbeats 8000000 in
theorem reck_walk (s t : ByteArray) (w : World) (hT : Tab w) (hs : s.size ≤ 9223372036854775807) (ht : t.size ≤ 9223372036854775807) :
    Calls Tryd.prog 4 #[.string s, .string t] w fun e w' => e = .returned (.bool true) ∧ Below w.heap.size w w' := by
  have HK := hide (known_yes w hT)
  have HT := hide hT
  clear hT
  go_enter Tryd.func4, Tryd.ntmps4
  go_wp2_with fail
  refine (unhide HK).mono ?_
  rintro e w1 ⟨rfl, hb1⟩
  go_wp2_with fail
  have hl3 : ∀ j (hj : j < [s, t].length), (w1.alloc (.cells #[.string s, .string t] 9)).cell? ⟨w1.heap.size, 0 + j, none⟩ = some (.string ([s, t][j]'hj)) := fun j hj => by
    rw [World.cell?_alloc_at _ _ _ _ rfl]
    match j, hj with
    | 0, _ => rfl
    | 1, _ => rfl
  refine (light_any w1.heap.size 0 2 2 [s, t] _ rfl (by decide) (fun x hx => by simp at hx; rcases hx with rfl | rfl <;> assumption) hl3).mono ?_
  rintro e w2 ⟨hlight, rfl⟩
  have hb2 : Below w.heap.size w (w1.alloc (.cells #[.string s, .string t] 9)) := hb1.alloc hb1.size _
  clear hl3 hs ht HK
  generalize (w1.alloc (.cells #[.string s, .string t] 9)) = w2 at *
  rcases hlight.symm with ⟨_, rfl⟩ | ⟨hsz, rfl⟩
  · go_wp2
    go_ret
    exact ⟨rfl, hb2⟩
  have hs : s.size ≤ 300 := hsz s (by simp)
  have ht : t.size ≤ 300 := hsz t (by simp)
  clear hsz hb1
  go_wp2_with fail
  refine (ofS_val s w2 hs).mono ?_
  rintro e wA ⟨vA, nA, zA, rfl, hbA, iA, jA, hzA, hyA⟩
  obtain ⟨cA1, cA2, cA3, cA4, rfl⟩ := iA.form
  obtain ⟨bA1, bA2, bA3, bA4, rfl⟩ := jA.form
  have HZA := hide (And.intro hzA hyA)
  clear hzA hyA
  have hBwA := hb2.trans (hbA.mono hb2.size)
  go_wp2_with fail
  have xA := (Bx.new wA cA1 cA2 cA3 cA4).alloc (.cells #[.bool bA1, .slice bA2 bA3 bA4] 31)
  have yA := NB.new (wA.alloc (.cells #[.int .i64 cA1, .slice cA2 cA3 cA4] 26)) bA1 bA2 bA3 bA4
  rw [World.size_alloc] at yA
  have hgA : Below wA.heap.size wA ((wA.alloc (.cells #[.int .i64 cA1, .slice cA2 cA3 cA4] 26)).alloc (.cells #[.bool bA1, .slice bA2 bA3 bA4] 31)) := ((Below.refl _ _).alloc (Nat.le_refl _) _).alloc (by simp) _
  replace iA := iA.below hgA
  replace jA := jA.below hgA
  have hBWA := hBwA.trans (hgA.mono hBwA.size)
  generalize ((wA.alloc (.cells #[.int .i64 cA1, .slice cA2 cA3 cA4] 26)).alloc (.cells #[.bool bA1, .slice bA2 bA3 bA4] 31)) = WA at *
  generalize wA.heap.size = rA at *
  refine (ofS_val t WA ht).mono ?_
  rintro e wB ⟨vB, nB, zB, rfl, hbB, iB, jB, hzB, hyB⟩
  obtain ⟨cB1, cB2, cB3, cB4, rfl⟩ := iB.form
  obtain ⟨bB1, bB2, bB3, bB4, rfl⟩ := jB.form
  have HZB := hide (And.intro hzB hyB)
  clear hzB hyB
  replace xA := xA.below hbB
  replace yA := yA.below hbB
  replace iA := iA.below hbB
  replace jA := jA.below hbB
  have hBwB := hBWA.trans (hbB.mono hBWA.size)
  go_wp2_with fail
  have xB := (Bx.new wB cB1 cB2 cB3 cB4).alloc (.cells #[.bool bB1, .slice bB2 bB3 bB4] 31)
  have yB := NB.new (wB.alloc (.cells #[.int .i64 cB1, .slice cB2 cB3 cB4] 26)) bB1 bB2 bB3 bB4
  rw [World.size_alloc] at yB
  have hgB : Below wB.heap.size wB ((wB.alloc (.cells #[.int .i64 cB1, .slice cB2 cB3 cB4] 26)).alloc (.cells #[.bool bB1, .slice bB2 bB3 bB4] 31)) := ((Below.refl _ _).alloc (Nat.le_refl _) _).alloc (by simp) _
  replace xA := xA.below hgB
  replace yA := yA.below hgB
  replace iA := iA.below hgB
  replace jA := jA.below hgB
  replace iB := iB.below hgB
  replace jB := jB.below hgB
  have hBWB := hBwB.trans (hgB.mono hBwB.size)
  generalize ((wB.alloc (.cells #[.int .i64 cB1, .slice cB2 cB3 cB4] 26)).alloc (.cells #[.bool bB1, .slice bB2 bB3 bB4] 31)) = WB at *
  generalize wB.heap.size = rB at *
  refine reck_last (zA := zA) (zB := zB) ⟨(unhide HT).below hBWB, (unhide HZA).1, (unhide HZB).1, (unhide HZA).2, (unhide HZB).2, ⟨rA, rfl, _, xA, iA⟩, ⟨rB, rfl, _, xB, iB⟩, ⟨rA + 1, rfl, _, yA, jA⟩, ⟨rB + 1, rfl, _, yB, jB⟩⟩ rfl ?_
  intro a w' hb hd h4
  have HB := hBWB.trans (hb.mono hBWB.size)
  clear hb
  go_wp2
  exact bodyPost_ret (results_tmp rfl _ _ _) hd ⟨by rw [h4], HB⟩

end Go.Proofs.YtpkpkpjhpkndnaaDoor
