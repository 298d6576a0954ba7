/- strconv.FormatUint of numbers of three digits and more. -/
import Derived.Test.YthgdmppmjnmiiaaGreatDoorZAC
import Derived.Test.YthgdmppmjnmiiaaGreatDoorZAE
import Derived.Lib.Walk
import Derived.Lib.ItoaMem
import Derived.Lib.AppendIntMem
import Derived.BigCall
import Derived.BigGuard
import Derived.CellFam
import Derived.Test.YthgdmppmjnmiiaaGreatDoorZAB
import Derived.Lib.ItoaNum
import Derived.Test.YthgdmppmjnmiiaaGreatDoorZAF
import Derived.RangeFuncBox
import Derived.Lib.AppendStr
set_option linter.unusedVariables false
set_option linter.unusedSimpArgs false

namespace Go.Proofs.YthgdmppmjnmiiaaGreatDoor.Nm
open Go.RowKit Go.Shelf Go.Sort Go.Lib

set_option maxRecDepth 100000 in
set_option maxHeartbeats 4000000 in
theorem fmtU_in (u : Nat) (hu : 100 ≤ u) (hu64 : u < 18446744073709551616) (w : World) (htab : Lib.TabIs Tryz.prog w "internal/strconv.uint64pow10" .u64 Lib.pow10Tab) :
    Calls Tryz.prog 92 #[.int .u64 u, .int .i64 10] w fun e w' => e = .returned (.string ⟨(Lib.decDigits u).toArray⟩) ∧ Below w.heap.size w w' := by
  have hu1 : 1 ≤ u := by omega
  have hnd20 : Lib.nDigits u ≤ 20 := by have := Lib.numDigits_eq u hu1 hu64; split at this <;> omega
  have hal : Tryz.prog.arrayLen 136 = 24 := by simp [Program.arrayLen, Tryz.underlying136]
  have hsl : ∀ W, (Instr.sliceAt 136 (.pointer (some ⟨w.heap.size, 0, none⟩)) none (some (.int .i64 (Lib.nDigits u : Int))) none).run Tryz.prog W = .ok (.slice (some ⟨w.heap.size, 0, none⟩) (Lib.nDigits u) 24) W := fun W => by
    rw [run_sliceAt_array_h W 136 ⟨w.heap.size, 0, none⟩ (by simp [Program.arrayLen, Program.elem, Tryz.underlying136]) .i64 (Lib.nDigits u : Int) (by omega) (by rw [hal]; omega)]
    go_simp
  have hH0 := Lib.holds_zero0 w 136 (Lib.nDigits u) (by omega)
  have hfmt := Tryz.internal_strconv_formatBase10 w.heap.size 0 24 u (Array.replicate (Lib.nDigits u) 0) (w.alloc (.cells Lib.zeros24 136)) hH0 (by rw [Array.size_replicate]; exact Lib.lt_pow_nDigits u) hu64 (by rw [Array.size_replicate]; omega)
  rw [Array.size_replicate] at hfmt
  have HH0 := hide hH0
  have HF := hide hfmt
  have HN := hide (Tryz.internal_strconv_numDigits u hu1 hu64 _ (Lib.tabIs_alloc htab (.cells Lib.zeros24 136)))
  have iu : (100 : Int) ≤ (u : Int) := by omega
  clear hH0 hal hfmt
  go_enter Tryz.func92, Tryz.ntmps92
  go_wp2_with fail
  refine (unhide HN).mono ?_
  rintro e w1 ⟨rfl, rfl⟩
  go_wp2_with fail
  refine (unhide HF).mono ?_
  rintro e w2 ⟨rfl, k, v', dk, hw2, hF⟩
  have hcv : (convert 90 9 (.slice (some ⟨w.heap.size, 0, none⟩) (Lib.nDigits u) 24)).run Tryz.prog w2 = .ok (.string ⟨(Lib.decDigits u).toArray⟩) w2 := by
    refine conv8 w2 w.heap.size 24 (Lib.nDigits u) (Lib.decDigits u) (Lib.decDigits_length u) fun j hj => ?_
    have h7 := Lib.row_is_numeral hF j hj
    rw [h7, hw2, World.cell?_drewN]
    have h8 := cell?_putRow (fun (b : UInt8) => Value.int .u8 (b.toNat : Int)) (w.alloc (.cells Lib.zeros24 136)) w.heap.size 0 (Array.replicate (Lib.nDigits u) 0) dk (unhide HH0) (by rw [hF.size, Array.size_replicate]) j (by rw [hF.size]; rw [Lib.decDigits_length] at hj; exact hj)
    rwa [Nat.zero_add] at h8
  obtain ⟨os, eo⟩ := Lib.fin_at w (.cells Lib.zeros24 136) dk k 0
  have hnx : Below w.heap.size w w2 := by rw [hw2, eo]; exact Lib.below_grow w.heap.size w (Nat.le_refl _) k os
  clear hw2 eo HH0 HF HN hF
  go_wp2
  go_ret
  exact ⟨rfl, hnx⟩

set_option maxRecDepth 100000 in
set_option maxHeartbeats 800000 in
theorem fmtU_any (u : Nat) (hu : 100 ≤ u) (hu64 : u < 18446744073709551616) (w : World) (htab : Lib.TabIs Tryz.prog w "internal/strconv.uint64pow10" .u64 Lib.pow10Tab) :
    Calls Tryz.prog 71 #[.int .u64 u, .int .i64 10] w fun e w' => e = .returned (.string ⟨(Lib.decDigits u).toArray⟩) ∧ Below w.heap.size w w' := by
  have H := hide (fmtU_in u hu hu64 w htab)
  clear htab
  go_enter Tryz.func71, Tryz.ntmps71
  go_wp2_with fail
  refine (unhide H).mono ?_
  rintro e w1 ⟨rfl, hb⟩
  go_wp2
  go_ret
  exact ⟨rfl, hb⟩

set_option maxRecDepth 100000 in
set_option maxHeartbeats 800000 in
/-- strconv.AppendUint onto a row of the call's own. -/
theorem appU_any (B n u : Nat) (hu64 : u < 18446744073709551616) (sv : Value) (xs : List Value) (w : World) (hown : w.ownsRow B 5 1 sv n xs) (hBw : B ≤ w.heap.size) (hlim : n + 20 ≤ 140737488355328)
    (htab : Lib.TabIs Tryz.prog w "internal/strconv.uint64pow10" .u64 Lib.pow10Tab) :
    Calls Tryz.prog 69 #[sv, .int .u64 u, .int .i64 10] w fun e w' => ∃ v', e = .returned v' ∧ w'.ownsRow B 5 1 v' (n + (Lib.decDigits u).length) (xs ++ Lib.byteCells (Lib.decDigits u)) ∧ Below B w w' ∧ Lib.OthersKept 5 none w w' := by
  have H : Hid (Calls Tryz.prog 90 #[sv, .int .u64 u, .int .i64 10] w fun e w' => ∃ v', e = .returned v' ∧ w'.ownsRow B 5 1 v' (n + (Lib.decDigits u).length) (xs ++ Lib.byteCells (Lib.decDigits u)) ∧ Below B w w' ∧ Lib.OthersKept 5 none w w') := by
    by_cases h : u < 100
    · exact (Tryz.internal_strconv_AppendUint_10_small B n u h sv xs w hown hBw hlim).mono fun e w' h => h
    · exact (Tryz.internal_strconv_AppendUint_10_big B n u (by omega) hu64 sv xs w hown hBw hlim htab).mono fun e w' h => h
  clear htab hown
  go_enter Tryz.func69, Tryz.ntmps69
  go_wp2_with fail
  refine (unhide H).mono ?_
  rintro e w1 ⟨v', rfl, ho, hb, hk⟩
  go_wp2
  go_ret
  exact ⟨_, rfl, ho, hb, hk⟩

end Go.Proofs.YthgdmppmjnmiiaaGreatDoor.Nm

/- The decimal text of a number out of its digits to the base of a thousand millions. -/
namespace Go.Proofs.YthgdmppmjnmiiaaGreatDoor.Nm
open Go.RowKit

/-- The last k decimal digits. -/
def pad : Nat → Nat → List UInt8
  | 0, _ => []
  | k + 1, d => pad k (d / 10) ++ [UInt8.ofNat (48 + d % 10)]
theorem pad_length (k d : Nat) : (pad k d).length = k := by
  induction k generalizing d with
  | zero => rfl
  | succ k ih => simp [pad, ih]
theorem dd_pad (n k d : Nat) (hn : 1 ≤ n) (hd : d < 10 ^ k) : Lib.decDigits (n * 10 ^ k + d) = Lib.decDigits n ++ pad k d := by
  induction k generalizing d with
  | zero => simp at hd; subst hd; simp [pad]
  | succ k ih =>
    have h1 : 1 ≤ 10 ^ k := Nat.pow_pos (by omega)
    have h2 : n * 10 ^ (k + 1) = 10 * (n * 10 ^ k) := by rw [Nat.pow_succ]; simp only [Nat.mul_comm, Nat.mul_left_comm]
    have h3 : 1 ≤ n * 10 ^ k := Nat.mul_le_mul hn h1
    rw [Lib.decDigits, dif_neg (by omega)]
    have e1 : (n * 10 ^ (k + 1) + d) / 10 = n * 10 ^ k + d / 10 := by omega
    have e2 : (n * 10 ^ (k + 1) + d) % 10 = d % 10 := by omega
    rw [e1, e2, ih (d / 10) (by rw [Nat.pow_succ] at hd; omega), List.append_assoc]
    rfl
theorem dd_one : Lib.decDigits 1 = [49] := by rw [Lib.decDigits, dif_pos (by omega)]; rfl
theorem dd_drop (d : Nat) (hd : d < 1000000000) : Lib.decDigits (1000000000 + d) = 49 :: pad 9 d := by
  have := dd_pad 1 9 d (by omega) (by simpa using hd)
  rw [dd_one] at this
  simpa using this

/-- The text when the digits at these places have come. -/
def amT (zs : List Int) (t : Nat) (pre : List (Fin zs.length)) : List UInt8 := Lib.decDigits t ++ pre.flatMap (fun i => pad 9 (dg zs i.1).toNat)
theorem amT_nil (zs : List Int) (t : Nat) : amT zs t [] = Lib.decDigits t := by simp [amT]
theorem amT_snoc (zs : List Int) (t : Nat) (pre : List (Fin zs.length)) (i : Fin zs.length) : amT zs t (pre ++ [i]) = amT zs t pre ++ pad 9 (dg zs i.1).toNat := by simp [amT]
theorem amT_length (zs : List Int) (t : Nat) (pre : List (Fin zs.length)) : (amT zs t pre).length = (Lib.decDigits t).length + 9 * pre.length := by
  induction pre with
  | nil => simp [amT]
  | cons x l ih => simp only [amT, List.flatMap_cons, List.length_append, pad_length, List.length_cons] at *; omega
theorem amT_take (zs : List Int) (t : Nat) (hd : Dig zs) (ht : 1 ≤ t) (k : Nat) (hk : k ≤ zs.length) :
    amT zs t ((dn zs.length).take k) = Lib.decDigits (val (zs.drop (zs.length - k) ++ [(t : Int)])).toNat ∧ 1 ≤ (val (zs.drop (zs.length - k) ++ [(t : Int)])).toNat := by
  induction k with
  | zero => simp [amT, val]; exact ht
  | succ k ih =>
    obtain ⟨ih1, ih2⟩ := ih (by omega)
    rw [dn_take_succ _ _ (by omega), amT_snoc, ih1]
    have e : zs.drop (zs.length - (k + 1)) = (dg zs (zs.length - 1 - k)) :: zs.drop (zs.length - k) := by
      have h1 : zs.length - (k + 1) < zs.length := by omega
      rw [List.drop_eq_getElem_cons h1]
      rw [show zs.length - 1 - k = zs.length - (k + 1) by omega, dg, List.getElem?_eq_getElem h1, show zs.length - (k + 1) + 1 = zs.length - k by omega]
      simp
    rw [e, List.cons_append]
    simp only [val]
    obtain ⟨d0, d1⟩ := hd.dg (zs.length - 1 - k)
    generalize val (zs.drop (zs.length - k) ++ [(t : Int)]) = V at *
    have e2 : (dg zs (zs.length - 1 - k) + 1000000000 * V).toNat = V.toNat * 10 ^ 9 + (dg zs (zs.length - 1 - k)).toNat := by simp only [Nat.reducePow]; omega
    rw [e2, dd_pad _ 9 _ ih2 (by simp only [Nat.reducePow]; omega)]
    exact ⟨rfl, by omega⟩
theorem amT_all (zs : List Int) (t : Nat) (hd : Dig zs) (ht : 1 ≤ t) : amT zs t (dn zs.length) = Lib.decDigits (val (zs ++ [(t : Int)])).toNat := by
  have := (amT_take zs t hd ht zs.length (Nat.le_refl _)).1
  rw [List.take_of_length_le (by rw [dn_length]; omega)] at this
  simpa using this

end Go.Proofs.YthgdmppmjnmiiaaGreatDoor.Nm

/- Operations one by one: addresses, conversions, sums, slices, stores. -/
namespace Go.Proofs.YthgdmppmjnmiiaaGreatDoor.Nm
open Go Go.RowKit

section
variable {P : Program} {Q : Exit → Act → World → Prop} {K : Act → World → Prop} {a : Act} {w w' : World} {dst : Option Tmp} {ty : TypeId} {pos : String} {af : Array Edge} {gd : Option (Nat × Bool)} {x y : Operand} {vx vy v : Value}
theorem op_indexAddr {t : TypeId} (hx : a.eval x = vx) (hy : a.eval y = vy) (hr : (Instr.indexAt t vx vy).run P w = .ok v w) (h : K (a.put dst v) w) : Oper.wp P ⟨dst, .indexAddr t x y, ty, pos, af, gd⟩ a w K Q := by
  unfold Oper.wp
  simp [execOp, hx, hy, hr, Oper.upon, h]
theorem op_convert {s t : TypeId} (hx : a.eval x = vx) (hr : (convert s t vx).run P w = .ok v w) (h : K (a.put dst v) w) : Oper.wp P ⟨dst, .convert s t x, ty, pos, af, gd⟩ a w K Q := by
  unfold Oper.wp
  simp [execOp, hx, hr, Oper.upon, h]
theorem op_sliceLo {t : TypeId} {z : Operand} {vz : Value} (hx : a.eval x = vx) (hz : a.eval z = vz) (hr : (Instr.sliceAt t vx (some vz) none none).run P w = .ok v w) (h : K (a.put dst v) w) : Oper.wp P ⟨dst, .slice t x (some z) none none, ty, pos, af, gd⟩ a w K Q := by
  unfold Oper.wp
  simp [execOp, hx, hz, hr, Oper.upon, h]
theorem op_store {t : TypeId} (hx : a.eval x = vx) (hy : a.eval y = vy) (hr : (Instr.storeAt t vx vy).run P w = .ok () w') (h : K a w') : Oper.wp P ⟨none, .store t x y, ty, pos, af, gd⟩ a w K Q := by
  unfold Oper.wp
  simp [execOp, hx, hy, hr, Oper.upon, Act.put, h]
theorem op_bin {o : BinOp} {t u : TypeId} (hx : a.eval x = vx) (hy : a.eval y = vy) (hg : (eqGuard o t x y vx vy).run P w = .ok () w) (hr : (binOp o t vx vy).run P w = .ok v w) (h : K (a.put dst v) w) : Oper.wp P ⟨dst, .binOp o t x y u, ty, pos, af, gd⟩ a w K Q := by
  unfold Oper.wp
  simp [execOp, hx, hy, hg, hr, Oper.upon, h]
theorem op_append {s t : TypeId} (hx : a.eval x = vx) (hy : a.eval y = vy) (hr : (Builtin.append_ #[s, t] ty #[vx, vy]).run P w = .ok v w') (h : K (a.put dst v) w') : Oper.wp P ⟨dst, .call ⟨.builtin .append, #[x, y], #[s, t]⟩, ty, pos, af, gd⟩ a w K Q := by
  unfold Oper.wp
  simp [execOp, resolve, hx, hy, invoke, builtin, hr, Oper.upon, h]
end
theorem tmp_get {a : Act} {d : Nat} {v : Value} (hd : d < a.tmps.size) (h : a.tmps.getD d undef = v) : a.tmps[d]? = some v := by
  rw [Array.getD_eq_getD_getElem?] at h
  rw [Array.getElem?_eq_getElem hd] at h ⊢
  simpa using h
theorem eval_kept {a a0 : Act} {t : Nat} {v : Value} (h : a.tmps[t]? = a0.tmps[t]?) (h0 : a0.tmps[t]? = some v) : a.eval (.tmp t) = v := by simp [Act.eval, h, h0]
theorem load_bytes {w : World} {r : Nat} {v : Value} (h : w.cell? ⟨r, 0, none⟩ = some v) : (Instr.loadAt 90 (.pointer (some ⟨r, 0, none⟩))).run Tryz.prog w = .ok v w := by go_simp
theorem load_u32 {w : World} {r o : Nat} {v : Value} (h : w.cell? ⟨r, o, none⟩ = some v) : (Instr.loadAt 118 (.pointer (some ⟨r, o, none⟩))).run Tryz.prog w = .ok v w := by go_simp
theorem conv_u32u64 {w : World} {n : Nat} (h : n < 4294967296) : (convert 118 86 (.int .u32 (n : Int))).run Tryz.prog w = .ok (.int .u64 (n : Int)) w := by
  go_simp
  simp only [IntKind.wrap_u64]
  omega
theorem index_u32 {w : World} {b off n c k : Nat} (h : k < n) : (Instr.indexAt 47 (.slice (some ⟨b, off, none⟩) n c) (.int .i64 (k : Int))).run Tryz.prog w = .ok (.pointer (some ⟨b, off + k, none⟩)) w := by
  have h0 : (0 : Int) ≤ (k : Int) := by omega
  have h1 : (k : Int) < (n : Int) := by omega
  go_simp
theorem store_bytes {w : World} {r : Nat} {u : Value} {g n c : Nat} (h : w.cell? ⟨r, 0, none⟩ = some u) (hf : w.frozen? ⟨r, 0, none⟩ = false) : (Instr.storeAt 90 (.pointer (some ⟨r, 0, none⟩)) (.slice (some ⟨g, 0, none⟩) n c)).run Tryz.prog w = .ok () (w.setCell ⟨r, 0, none⟩ (.slice (some ⟨g, 0, none⟩) n c)) := by go_simp

end Go.Proofs.YthgdmppmjnmiiaaGreatDoor.Nm

/- appendMag: the decimal digits of a magnitude behind a row of bytes. -/
namespace Go.Proofs.YthgdmppmjnmiiaaGreatDoor.Nm
open Go.RowKit Go.Shelf

theorem ownsRow_slice {w : World} {base : Nat} {e : TypeId} {size : Nat} {v : Value} {n : Nat} {xs : List Value} (h : w.ownsRow base e size v n xs) : ∃ a c, v = .slice a n c := by
  rcases h.2 with ⟨rfl, h0⟩ | ⟨g, cap, _, rfl, _⟩
  · exact ⟨none, 0, by rw [h0]⟩
  · exact ⟨_, _, rfl⟩
theorem dd_pos (u : Nat) : 1 ≤ (Lib.decDigits u).length := by
  rw [Lib.decDigits]
  split <;> simp
theorem act_lit {a : Act} (vs : List Value) (hs : a.tmps.size = vs.length) (hd : a.defers = []) (h : ∀ k, k < vs.length → a.tmps[k]? = vs[k]?) : a = { tmps := vs.toArray, defers := [] } := by
  obtain ⟨ts, ds⟩ := a
  obtain rfl : ds = [] := hd
  congr 1
  apply Array.ext_getElem?
  intro k
  by_cases hk : k < vs.length
  · rw [h k hk]; simp
  · rw [Array.getElem?_eq_none (by have : ts.size = vs.length := hs; omega)]; simp; omega
theorem enter_AppU : Enters Tryz.prog 69 := ⟨fun xs w => by go_simp⟩
theorem enter_FmtU : Enters Tryz.prog 71 := ⟨fun xs w => by go_simp⟩

/-- What the slots of the first line hold. -/
def amP (ao : Option Addr) (n co b off cap L t m : Nat) : Nat → Value → Prop
  | 0, v => v = .slice ao n co
  | 1, v => v = .slice (some ⟨b, off, none⟩) (L + 1) cap
  | 2, v => v = .int .i64 (L : Int)
  | 3, v => v = .pointer (some ⟨b, off + L, none⟩)
  | 4, v => v = .int .u32 (t : Int)
  | 5, v => v = .int .u64 (t : Int)
  | 6, v => ∃ g c, v = .slice (some ⟨g, 0, none⟩) (m + 1) c
  | _, _ => True

set_option maxRecDepth 100000 in
theorem am_first (Bc n : Nat) (ao : Option Addr) (co : Nat) (bs : List Value) (b off cap : Nat) (zs : List Int) (t m r : Nat) (w0 : World) (a0 : Act) (hN : a0.tmps.size = 32) (hD : a0.defers = [])
    (h1 : a0.tmps[1]? = some (.slice (some ⟨b, off, none⟩) (zs.length + 1) cap)) (h2 : a0.tmps[2]? = some (.pointer (some ⟨r, 0, none⟩))) (h5 : a0.tmps[5]? = some (.int .i64 (zs.length : Int)))
    (hm : n + (Lib.decDigits t).length = m + 1) (hn : n ≤ 1000) (ht2 : t < 1000000000) (hbox : Boxed w0 r 90 (.slice ao n co)) (hown : w0.ownsRow Bc 5 1 (.slice ao n co) n bs) (hBc : Bc ≤ w0.heap.size) (hr : Bc ≤ r) (hct : w0.cell? ⟨b, off + zs.length, none⟩ = some (.int .u32 (t : Int))) (hT : Tab w0) :
    (Code.region 2 (regionOf Tryz.f48 2).toArray true).wp Tryz.prog (nrm (fun a W => a.defers = [] ∧ a.tmps.size = 32 ∧ (∀ k, k ∈ [0, 1, 2, 3, 4, 5, 6, 7, 8, 9, 10, 18, 19, 20, 21, 22, 23, 24, 25, 26, 27, 28, 29, 30, 31] → a.tmps[k]? = a0.tmps[k]?) ∧ (∀ i, i < 7 → amP ao n co b off cap zs.length t m i (slotOf (regionOf Tryz.f48 2).toArray a i)) ∧
      Boxed W r 90 (a.tmps.getD 17 undef) ∧ W.ownsRow Bc 5 1 (a.tmps.getD 17 undef) (m + 1) (bs ++ Lib.byteCells (Lib.decDigits t)) ∧ Below Bc w0 W ∧ Lib.OthersKept 5 (some r) w0 W)) a0 w0 := by
  refine wp_region_any (by kernel_rfl) ?_
  refine coll_any 6 32 [0, 1, 2, 3, 4, 5, 6, 7, 8, 9, 10, 18, 19, 20, 21, 22, 23, 24, 25, 26, 27, 28, 29, 30, 31] (amP ao n co b off cap zs.length t m)
    (fun W => W = w0.drew)
    (fun v W => Boxed W r 90 (.slice ao n co) ∧ W.ownsRow Bc 5 1 v (m + 1) (bs ++ Lib.byteCells (Lib.decDigits t)) ∧ Below Bc w0 W ∧ Lib.OthersKept 5 none w0 W)
    (fun v W => Boxed W r 90 v ∧ W.ownsRow Bc 5 1 v (m + 1) (bs ++ Lib.byteCells (Lib.decDigits t)) ∧ Below Bc w0 W ∧ Lib.OthersKept 5 (some r) w0 W)
    (by kernel_rfl) (by kernel_rfl) hN rfl ?_ ?_ ?_ ?_
  · intro i hi a w hk hp hA
    subst hA
    match i, hi with
    | 0, _ => exact op_load (eval_kept (hk 2 (by decide)) h2) (load_bytes hbox.cell) ⟨_, rfl, rfl, rfl⟩
    | 1, _ => exact op_move ⟨_, rfl, eval_kept (hk 1 (by decide)) h1, rfl⟩
    | 2, _ => exact op_move ⟨_, rfl, eval_kept (hk 5 (by decide)) h5, rfl⟩
    | 3, _ =>
      have p1 : a.tmps.getD 12 undef = .slice (some ⟨b, off, none⟩) (zs.length + 1) cap := hp 1 rfl
      have p2 : a.tmps.getD 13 undef = .int .i64 (zs.length : Int) := hp 2 rfl
      exact op_indexAddr (a := a) p1 p2 (index_u32 (by omega)) ⟨_, rfl, rfl, rfl⟩
    | 4, _ =>
      have p3 : a.tmps.getD 14 undef = .pointer (some ⟨b, off + zs.length, none⟩) := hp 3 rfl
      exact op_load (a := a) p3 (load_u32 hct) ⟨_, rfl, rfl, rfl⟩
    | 5, _ =>
      have p4 : a.tmps.getD 15 undef = .int .u32 (t : Int) := hp 4 rfl
      exact op_convert (a := a) p4 (conv_u32u64 (by omega)) ⟨_, rfl, rfl, rfl⟩
  · intro a w hk hp hA
    subst hA
    have p0 : a.tmps.getD 11 undef = .slice ao n co := hp 0 rfl
    have p5 : a.tmps.getD 16 undef = .int .u64 (t : Int) := hp 5 rfl
    refine op_call enter_AppU ?_
    have e : (#[Operand.tmp 11, .tmp 16, .const (.int .i64 10)]).map a.eval = #[.slice ao n co, .int .u64 (t : Int), .int .i64 10] := by
      simp only [List.map_toArray, List.map_cons, List.map_nil, Act.eval, p0, p5]
    rw [e]
    refine Calls.mono (appU_any Bc n t (by omega) _ bs _ hown.drew hBc (by omega) hT.drew) ?_
    rintro e w' ⟨v, rfl, ho, hb, hk'⟩
    rw [hm] at ho
    obtain ⟨g, c, rfl⟩ := ownsRow_succ ho
    exact ⟨_, rfl, _, rfl, ⟨g, c, rfl⟩, hk' r _ hbox (by simp) (by intro c fz h; cases h), ho, ((Below.refl _ w0).drew).trans hb, hk'⟩
  · intro a w hk hv hB
    obtain ⟨g, c, e6⟩ := hv
    obtain ⟨hbx, ho, hb, hk'⟩ := hB
    have e6' : a.tmps.getD 17 undef = .slice (some ⟨g, 0, none⟩) (m + 1) c := e6
    rw [e6] at ho
    refine op_store (a := a) (eval_kept (hk 2 (by decide)) h2) e6' (store_bytes hbx.cell hbx.frozen) ⟨rfl, ?_⟩
    rw [e6]
    have hne := hbx.not_row (by decide) ho
    refine ⟨hbx.set _, ho.kept (grownBy_setCell' w r _) (.inr (fun e => hne e.symm)), ?_, ?_⟩
    · exact hb.setCell (p := ⟨r, 0, none⟩) hr _
    · exact Lib.OthersKept.setCell (fun k o h _ ho' => hk' k o h (by simp) ho') ⟨r, 0, none⟩ rfl _
  · intro a w hd hn' hk hΦ hC
    exact nrm_mk ⟨hd.trans hD, hn', hk, hΦ, hC⟩

end Go.Proofs.YthgdmppmjnmiiaaGreatDoor.Nm

/- appendMag: one round. -/
namespace Go.Proofs.YthgdmppmjnmiiaaGreatDoor.Nm
open Go.RowKit Go.Shelf

theorem grownBy_of_below {W w : World} (h : Below W.heap.size W w) : W.grownBy w none := ⟨h.os, h.tape, h.output, h.size, fun k hk _ => h.block k hk⟩
theorem ownsRow_below {W w : World} {base : Nat} {e : TypeId} {size : Nat} {v : Value} {n : Nat} {xs : List Value} (h : W.ownsRow base e size v n xs) (hb : Below W.heap.size W w) : w.ownsRow base e size v n xs :=
  h.kept (grownBy_of_below hb) (by cases v.ownBlock <;> simp)
theorem boxed_below {W w : World} {B : Nat} {t : TypeId} {v : Value} (h : Boxed W B t v) (hb : Below W.heap.size W w) : Boxed w B t v := (hb.block B h.lt).trans h
theorem keepsOthers_below {W w : World} (hb : Below W.heap.size W w) : KeepsOthers W w := KeepsOthers.of_grownBy (grownBy_of_below hb) (fun _ _ h => by cases h)
theorem othersKept_below {W w : World} (e : TypeId) (b : Option Nat) (hb : Below W.heap.size W w) : Lib.OthersKept e b W w := fun k _ hk _ _ => (hb.block k (Array.getElem?_eq_some_iff.1 hk).1).trans hk
theorem row_cells {W : World} {base : Nat} {e : TypeId} {size : Nat} {v : Value} {n : Nat} {xs : List Value} (h : W.ownsRow base e size v n xs) (g : Nat) (hg : v.ownBlock = some g) : ∃ c fz, W.heap[g]? = some (.cells c e fz) := by
  rcases h.2 with ⟨rfl, _⟩ | ⟨g', cap, cur, rfl, _, hgb, _⟩
  · simp [Value.ownBlock] at hg
  · obtain rfl : g' = g := by simpa [Value.ownBlock] using hg
    exact ⟨_, _, hgb⟩
theorem strCells_of (l : List UInt8) : Lib.strCells ⟨l.toArray⟩ = Lib.byteCells l := by simp [Lib.strCells, Lib.byteCells]
theorem conv_i32u64 {w : World} {d : Int} (h0 : 0 ≤ d) (h : d < 1000000000) : (convert 118 86 (.int .u32 d)).run Tryz.prog w = .ok (.int .u64 d) w := by
  go_simp
  simp only [IntKind.wrap_u64]
  omega
theorem add_u64 {w : World} {d : Int} (h0 : 0 ≤ d) (h : d < 1000000000) : (binOp .add 86 (.int .u64 1000000000) (.int .u64 d)).run Tryz.prog w = .ok (.int .u64 (1000000000 + d)) w := by
  go_simp
  try (simp only [IntKind.wrap_u64]; omega)
theorem slice1 {w : World} {c : UInt8} {l : List UInt8} : (Instr.sliceAt 9 (.string ⟨(c :: l).toArray⟩) (some (.int .i64 1)) none none).run Tryz.prog w = .ok (.string ⟨l.toArray⟩) w := by
  go_simp
  rw [if_pos (by omega)]
  congr 2
  apply ByteArray.ext
  simp [ByteArray.data_extract]

/-- What the slots of a round hold. -/
def arP (g k c : Nat) (d : Int) : Nat → Value → Prop
  | 0, v => v = .slice (some ⟨g, 0, none⟩) k c
  | 1, v => v = .int .u32 d
  | 2, v => v = .int .u64 d
  | 3, v => v = .int .u64 (1000000000 + d)
  | 4, v => v = .string ⟨(49 :: pad 9 d.toNat).toArray⟩
  | 5, v => v = .string ⟨(pad 9 d.toNat).toArray⟩
  | 6, v => ∃ g' c', v = .slice (some ⟨g', 0, none⟩) (k + 9) c'
  | _, _ => True

set_option maxRecDepth 100000 in
theorem am_round {Q : Exit → Act → World → Prop} (lp fu Bc k g c r : Nat) (xs : List Value) (d : Int) (W : World) (a0 : Act) (hN : a0.tmps.size = 32)
    (h2 : a0.tmps[2]? = some (.pointer (some ⟨r, 0, none⟩))) (h7 : a0.tmps[7]? = some (.int .u32 d)) (hd0 : 0 ≤ d) (hd1 : d < 1000000000) (hk9 : k ≤ 1000000)
    (hbox : Boxed W r 90 (.slice (some ⟨g, 0, none⟩) k c)) (hown : W.ownsRow Bc 5 1 (.slice (some ⟨g, 0, none⟩) k c) k xs) (hBc : Bc ≤ W.heap.size) (hr : Bc ≤ r) (hT : Tab W)
    (hQ : ∀ a W', (∃ v, Boxed W' r 90 v ∧ W'.ownsRow Bc 5 1 v (k + 9) (xs ++ Lib.byteCells (pad 9 d.toNat)) ∧ ∃ g' c', v = .slice (some ⟨g', 0, none⟩) (k + 9) c') → KeepsOthers W W' → Below Bc W W' → Lib.OthersKept 5 (some r) W W' → Q .normal a W') :
    (Code.region 5 (regionOf Tryz.f48 5).toArray true).wpIn (Fence.wide.inRound lp) fu Tryz.prog Q a0 W := by
  refine region_round (R := fun a W' => ∃ v, (Boxed W' r 90 v ∧ W'.ownsRow Bc 5 1 v (k + 9) (xs ++ Lib.byteCells (pad 9 d.toNat)) ∧ ∃ g' c', v = .slice (some ⟨g', 0, none⟩) (k + 9) c') ∧ KeepsOthers W W' ∧ Below Bc W W' ∧ Lib.OthersKept 5 (some r) W W')
    (by kernel_rfl) (by kernel_rfl) (fun a W' ⟨v, h1, h2, h3, h4⟩ => hQ a W' ⟨v, h1⟩ h2 h3 h4) ?_
  refine coll_any 6 32 [0, 1, 2, 3, 4, 5, 6, 7, 8, 9, 10, 11, 12, 13, 14, 15, 16, 17, 18, 19, 20, 21, 22, 23, 31] (arP g k c d)
    (fun w => Below W.heap.size W w)
    (fun v w => Boxed w r 90 (.slice (some ⟨g, 0, none⟩) k c) ∧ w.ownsRow Bc 5 1 v (k + 9) (xs ++ Lib.byteCells (pad 9 d.toNat)) ∧ KeepsOthers W w ∧ Below Bc W w ∧ Lib.OthersKept 5 none W w)
    (fun v w => Boxed w r 90 v ∧ w.ownsRow Bc 5 1 v (k + 9) (xs ++ Lib.byteCells (pad 9 d.toNat)) ∧ KeepsOthers W w ∧ Below Bc W w ∧ Lib.OthersKept 5 (some r) W w)
    (by kernel_rfl) (by kernel_rfl) hN (Below.refl _ W).drew ?_ ?_ ?_ ?_
  · intro i hi a w hk hp hA
    match i, hi with
    | 0, _ => exact op_load (eval_kept (hk 2 (by decide)) h2) (load_bytes (boxed_below hbox hA).cell) ⟨_, rfl, rfl, hA⟩
    | 1, _ => exact op_move ⟨_, rfl, eval_kept (hk 7 (by decide)) h7, hA⟩
    | 2, _ =>
      have p : a.tmps.getD 25 undef = .int .u32 d := hp 1 rfl
      exact op_convert (a := a) p (conv_i32u64 hd0 hd1) ⟨_, rfl, rfl, hA⟩
    | 3, _ =>
      have p : a.tmps.getD 26 undef = .int .u64 d := hp 2 rfl
      exact op_bin (a := a) rfl p (by go_simp) (add_u64 hd0 hd1) ⟨_, rfl, rfl, hA⟩
    | 4, _ =>
      have p : a.tmps.getD 27 undef = .int .u64 (1000000000 + d) := hp 3 rfl
      refine op_call enter_FmtU ?_
      have e : (#[Operand.tmp 27, .const (.int .i64 10)]).map a.eval = #[.int .u64 ((1000000000 + d.toNat : Nat) : Int), .int .i64 10] := by
        have e0 : ((1000000000 + d.toNat : Nat) : Int) = 1000000000 + d := by omega
        rw [e0]
        simp only [List.map_toArray, List.map_cons, List.map_nil, Act.eval, p]
      rw [e]
      refine Calls.mono (fmtU_any (1000000000 + d.toNat) (by omega) (by omega) w (hT.below hA)) ?_
      rintro e w' ⟨rfl, hb⟩
      rw [dd_drop _ (by omega)]
      exact ⟨_, rfl, _, rfl, rfl, hA.trans (hb.mono hA.size)⟩
    | 5, _ =>
      have p : a.tmps.getD 28 undef = .string ⟨(49 :: pad 9 d.toNat).toArray⟩ := hp 4 rfl
      exact op_sliceLo (a := a) p rfl slice1 ⟨_, rfl, rfl, hA⟩
  · intro a w hk hp hA
    have p0 : a.tmps.getD 24 undef = .slice (some ⟨g, 0, none⟩) k c := hp 0 rfl
    have p5 : a.tmps.getD 29 undef = .string ⟨(pad 9 d.toNat).toArray⟩ := hp 5 rfl
    obtain ⟨i0, hi, hz0, hz1, hz2⟩ := info_parts info8
    have hsz : (⟨(pad 9 d.toNat).toArray⟩ : ByteArray).size = 9 := by show (pad 9 d.toNat).toArray.size = 9; rw [List.size_toArray, pad_length]
    have ho := ownsRow_below hown hA
    obtain ⟨v, w', hrun, hown', hgr, _⟩ := Lib.run_append_own_string (P := Tryz.prog) (w := w) Bc 90 9 90 5 i0 Tryz.underlying90 Tryz.underlying9 hi hz0 hz1 hz2 _ _ _ ho ⟨(pad 9 d.toNat).toArray⟩ (by rw [hsz]; unfold maxLen; omega) (by rw [hsz]; omega) (Nat.le_trans hBc hA.size)
    rw [hsz, strCells_of] at hown'
    obtain ⟨g', c', rfl⟩ := ownsRow_succ hown'
    have hbx := boxed_below hbox hA
    refine op_append (a := a) p0 p5 hrun ⟨_, rfl, ⟨g', c', rfl⟩, hbx.kept hgr (hbx.not_row (by decide) ho), hown', ?_, ?_, ?_⟩
    · exact (keepsOthers_below hA).trans (KeepsOthers.of_grownBy hgr fun j _ ej hj => by
        obtain ⟨cc, fz, hc⟩ := row_cells ho j ej
        rw [hc] at hj; cases hj; rfl)
    · exact (hA.mono hBc).grown hgr (Nat.le_trans hBc hA.size) (fun j ej => (ho.lt j ej).1)
    · exact (othersKept_below _ _ hA).grown hgr (fun j ej => row_cells ho j ej)
  · intro a w hk hv hB
    obtain ⟨g', c', e6⟩ := hv
    obtain ⟨hbx, ho, hko, hb, hk'⟩ := hB
    have e6' : a.tmps.getD 30 undef = .slice (some ⟨g', 0, none⟩) (k + 9) c' := e6
    rw [e6] at ho
    refine op_store (a := a) (eval_kept (hk 2 (by decide)) h2) e6' (store_bytes hbx.cell hbx.frozen) ⟨rfl, ?_⟩
    rw [e6]
    have hne := hbx.not_row (by decide) ho
    exact ⟨hbx.set _, ho.kept (grownBy_setCell' w r _) (.inr (fun e => hne e.symm)), hko.trans (KeepsOthers.setCell _ _ _), hb.setCell (p := ⟨r, 0, none⟩) hr _, Lib.OthersKept.setCell (fun k o h _ ho' => hk' k o h (by simp) ho') ⟨r, 0, none⟩ rfl _⟩
  · intro a w hd hn' hk hΦ hC
    obtain ⟨hbx, ho, hko, hb, hk'⟩ := hC
    exact ⟨_, ⟨hbx, ho, hΦ 6 (by decide)⟩, hko, hb, hk'⟩

end Go.Proofs.YthgdmppmjnmiiaaGreatDoor.Nm

/- appendMag, whole; String of any number. -/
namespace Go.Proofs.YthgdmppmjnmiiaaGreatDoor.Nm
open Go.RowKit Go.Shelf
attribute [local go_sem] Oper.semAt_some

theorem boxed_own {β : Type} (B : Nat) (t : TypeId) (v : Value) : Own (fun (_ : β) W => Boxed W B t v) := by
  rintro s X Y row hv hg hrow
  refine hv.kept hg (fun e' => ?_)
  obtain ⟨o, ho, hc⟩ := hrow B e'.symm
  rw [show X.heap[B]? = _ from hv] at ho
  cases ho
  cases hc

set_option maxRecDepth 100000 in
set_option maxHeartbeats 2000000 in
theorem appendMag_any (Bc n : Nat) (sv : Value) (bs : List Value) (b off cap : Nat) (zs : List Int) (t : Nat) (w : World) (hown : w.ownsRow Bc 5 1 sv n bs) (hBc : Bc ≤ w.heap.size) (hn : n ≤ 1000) (hb : b < Bc)
    (hat : At w b off (zs ++ [(t : Int)])) (hd : Dig zs) (ht : 1 ≤ t) (ht2 : t < 1000000000) (hl : zs.length ≤ 10000) (hcap : zs.length + 1 ≤ cap) (hT : ∀ w', Below Bc w w' → Tab w') :
    Calls Tryz.prog 48 #[sv, .slice (some ⟨b, off, none⟩) (zs.length + 1) cap] w fun e w' => ∃ v', e = .returned v' ∧
      w'.ownsRow Bc 5 1 v' (n + (Lib.decDigits (val (zs ++ [(t : Int)])).toNat).length) (bs ++ Lib.byteCells (Lib.decDigits (val (zs ++ [(t : Int)])).toNat)) ∧ Below Bc w w' := by
  obtain ⟨ao, co, rfl⟩ := ownsRow_slice hown
  have hct := hat.at (k := zs.length) rfl
  have bO := Boxed.new w 90 (.slice ao n co)
  have hB0 : Below w.heap.size w (w.alloc (.cells #[.slice ao n co] 90)) := (Below.refl _ w).alloc (Nat.le_refl _) _
  have hown0 := hown.alloc (Obj.cells #[.slice ao n co] 90)
  have hl1 : ((zs.length : Int) + 1) - 1 = zs.length := by omega
  have hT0 : Tab (w.alloc (.cells #[.slice ao n co] 90)) := hT _ (hB0.mono hBc)
  have hct0 : (w.alloc (.cells #[.slice ao n co] 90)).cell? ⟨b, off + zs.length, none⟩ = some (.int .u32 (t : Int)) := (hB0.cell (p := ⟨b, off + zs.length, none⟩) (by simp; omega)).trans hct
  obtain ⟨m, hm⟩ : ∃ m, n + (Lib.decDigits t).length = m + 1 := ⟨n + (Lib.decDigits t).length - 1, by have := dd_pos t; omega⟩
  have hdl : (Lib.decDigits t).length ≤ 20 := by
    have h1 := Lib.decDigits_length t
    have h2 := Lib.numDigits_eq t ht (by omega)
    split at h2 <;> omega
  have HR := hide (fun a0 h1 h2 h3 h4 h5 => am_first Bc n ao co bs b off cap zs t m w.heap.size (w.alloc (.cells #[.slice ao n co] 90)) a0 h1 h2 h3 h4 h5 hm hn ht2 bO hown0 (by simp; omega) hBc hct0 hT0)
  have HM := hide hm
  have HL := hide hdl
  clear hm hT0 hct0 hown0 bO hct hdl
  refine (callsIn_wide (n := 10)).1 ?_
  refine callsIn_of_wp_marks Tryz.func48 rfl trivial ?_ rfl
  simp only [Tryz.ntmps48, List.size_toArray, List.length_cons, List.length_nil, Nat.reduceAdd, Nat.reduceSub, Array.replicate_succ, Array.replicate_zero, List.push_toArray, List.append_toArray, List.nil_append, List.cons_append]
  gi_wp2_with fail
  refine wpIn_mono (wpIn_wide.2 (unhide HR _ rfl rfl rfl rfl rfl)) ?_
  intro e a' W2 h9
  obtain ⟨rfl, hd2, hn2, hk2, hΦ, hbx, ho, hb2, hko⟩ := nrm_out h9
  clear HR h9
  obtain ⟨g, c, e6⟩ := hΦ 6 (by decide)
  have e17 : a'.tmps.getD 17 undef = .slice (some ⟨g, 0, none⟩) (m + 1) c := e6
  rw [e17] at hbx ho
  obtain rfl := act_lit [.slice ao n co, .slice (some ⟨b, off, none⟩) (zs.length + 1) cap, .pointer (some ⟨w.heap.size, 0, none⟩), undef, .slice none 0 0, .int .i64 (zs.length : Int), undef, undef, .slice (some ⟨b, off, none⟩) (zs.length + 1) cap, .int .i64 ((zs.length : Int) + 1), .int .i64 (zs.length : Int), .slice ao n co, .slice (some ⟨b, off, none⟩) (zs.length + 1) cap, .int .i64 (zs.length : Int), .pointer (some ⟨b, off + zs.length, none⟩), .int .u32 (t : Int), .int .u64 (t : Int), .slice (some ⟨g, 0, none⟩) (m + 1) c, undef, undef, undef, undef, undef, undef, undef, undef, undef, undef, undef, undef, undef, undef] hn2 hd2 (fun k hk => by
    match k, hk with
    | 0, _ => exact (hk2 0 (by decide)).trans rfl
    | 1, _ => exact (hk2 1 (by decide)).trans rfl
    | 2, _ => exact (hk2 2 (by decide)).trans rfl
    | 3, _ => exact (hk2 3 (by decide)).trans rfl
    | 4, _ => exact (hk2 4 (by decide)).trans rfl
    | 5, _ => exact (hk2 5 (by decide)).trans rfl
    | 6, _ => exact (hk2 6 (by decide)).trans rfl
    | 7, _ => exact (hk2 7 (by decide)).trans rfl
    | 8, _ => exact (hk2 8 (by decide)).trans rfl
    | 9, _ => exact (hk2 9 (by decide)).trans rfl
    | 10, _ => exact (hk2 10 (by decide)).trans rfl
    | 11, _ => exact tmp_get (by omega) (hΦ 0 (by decide))
    | 12, _ => exact tmp_get (by omega) (hΦ 1 (by decide))
    | 13, _ => exact tmp_get (by omega) (hΦ 2 (by decide))
    | 14, _ => exact tmp_get (by omega) (hΦ 3 (by decide))
    | 15, _ => exact tmp_get (by omega) (hΦ 4 (by decide))
    | 16, _ => exact tmp_get (by omega) (hΦ 5 (by decide))
    | 17, _ => exact tmp_get (by omega) e17
    | 18, _ => exact (hk2 18 (by decide)).trans rfl
    | 19, _ => exact (hk2 19 (by decide)).trans rfl
    | 20, _ => exact (hk2 20 (by decide)).trans rfl
    | 21, _ => exact (hk2 21 (by decide)).trans rfl
    | 22, _ => exact (hk2 22 (by decide)).trans rfl
    | 23, _ => exact (hk2 23 (by decide)).trans rfl
    | 24, _ => exact (hk2 24 (by decide)).trans rfl
    | 25, _ => exact (hk2 25 (by decide)).trans rfl
    | 26, _ => exact (hk2 26 (by decide)).trans rfl
    | 27, _ => exact (hk2 27 (by decide)).trans rfl
    | 28, _ => exact (hk2 28 (by decide)).trans rfl
    | 29, _ => exact (hk2 29 (by decide)).trans rfl
    | 30, _ => exact (hk2 30 (by decide)).trans rfl
    | 31, _ => exact (hk2 31 (by decide)).trans rfl
    | k + 32, hk => exact absurd hk (by simp))
  clear hk2 hΦ e6 e17 hn2 hd2
  have hB2 : Below Bc w W2 := (hB0.mono hBc).trans hb2
  have hTW : Tab W2 := hT _ hB2
  have hi0 : (0 : Int) ≤ (zs.length : Int) := by omega
  have hi1 : (zs.length : Int) ≤ (cap : Int) := by omega
  gi_wp2_with fail
  refine ⟨trivial, (callsIn_wide.2 (back_any _ _ _ _)).mono ?_⟩
  rintro e w' ⟨rfl, rfl⟩
  gi_wp2
  have bN := Boxed.new W2 47 (.slice (some ⟨b, off, none⟩) zs.length cap)
  have hB3 : Below W2.heap.size W2 (W2.alloc (.cells #[.slice (some ⟨b, off, none⟩) zs.length cap] 47)) := (Below.refl _ W2).alloc (Nat.le_refl _) _
  have hbW : b < W2.heap.size := by have := hB2.size; omega
  have hBcW : Bc ≤ W2.heap.size := by have := hB2.size; omega
  have hrW : w.heap.size < W2.heap.size := hbx.lt
  have hI : zs ≠ [] → ∃ off', some (⟨b, off, none⟩ : Addr) = some ⟨b, off', none⟩ ∧ At (W2.alloc (.cells #[.slice (some ⟨b, off, none⟩) zs.length cap] 47)) b off' zs := fun _ =>
    ⟨off, rfl, fun j hj => by
      rw [hB3.cell (p := ⟨b, off + j, none⟩) hbW, hB2.cell (p := ⟨b, off + j, none⟩) hb, hat j (by simp; omega), List.getElem?_append_left hj]⟩
  refine wpIn_rangeFunc_ownG rfl (by decide) (gf := 91) (lb := #[.pointer (some ⟨W2.heap.size, 0, none⟩)]) rfl trivial (enters_of Tryz.func91 (by kernel_rfl) rfl)
    (back_stops W2.heap.size b (some ⟨b, off, none⟩) cap zs (by omega) _ (by simp) (by simp; omega) bN.cell hI) kp2_t (kp2_b (by simp) (by simp; omega)) (Below.refl _ _) (fun _ => rfl)
    (fun pre W => (∃ v, Boxed W w.heap.size 90 v ∧ W.ownsRow Bc 5 1 v (m + 1 + 9 * pre.length) (bs ++ Lib.byteCells (amT zs t pre)) ∧ ∃ g c, v = .slice (some ⟨g, 0, none⟩) (m + 1 + 9 * pre.length) c) ∧ Boxed W W2.heap.size 47 (.slice (some ⟨b, off, none⟩) zs.length cap) ∧ Below Bc w W)
    (fun _ _ _ => False)
    (OwnFrom.and (Own.from (holdsRow_own Bc w.heap.size 90 5 1 (fun pre : List (Fin zs.length) => m + 1 + 9 * pre.length) (fun pre => bs ++ Lib.byteCells (amT zs t pre)) (fun pre v => ∃ g c, v = .slice (some ⟨g, 0, none⟩) (m + 1 + 9 * pre.length) c)) _) (OwnFrom.and (Own.from (boxed_own _ _ _) _) (ownFrom_below hBc (by simp; omega))))
    (fun _ _ _ _ _ hs _ _ => hs)
    ⟨⟨_, hbx.alloc _, by simpa [amT_nil] using ho.alloc _, g, c, by simp⟩, bN, hB2.trans (hB3.mono hBcW)⟩
    (fun x => { tmps := #[.slice ao n co, .slice (some ⟨b, off, none⟩) (zs.length + 1) cap, .pointer (some ⟨w.heap.size, 0, none⟩), undef, .slice none 0 0, .int .i64 (zs.length : Int), undef, .int .u32 (dg zs x.1), .slice (some ⟨b, off, none⟩) (zs.length + 1) cap, .int .i64 ((zs.length : Int) + 1), .int .i64 (zs.length : Int), .slice ao n co, .slice (some ⟨b, off, none⟩) (zs.length + 1) cap, .int .i64 (zs.length : Int), .pointer (some ⟨b, off + zs.length, none⟩), .int .u32 (t : Int), .int .u64 (t : Int), .slice (some ⟨g, 0, none⟩) (m + 1) c, .slice (some ⟨b, off, none⟩) (zs.length + 1) cap, .int .i64 (zs.length : Int), .slice (some ⟨b, off, none⟩) zs.length cap, .func (.func 91) #[] #[.pointer (some ⟨W2.heap.size, 0, none⟩)], .int .i64 (x.1 : Int), .int .u32 (dg zs x.1), undef, undef, undef, undef, undef, undef, undef, undef], defers := [] }) ?assign ?body ?done ?stop
  case assign =>
    intro l x W K hK
    gi_wp2
    exact hK
  case body =>
    rintro l pre x W ⟨⟨v, hb1, ho1, g1, c1, rfl⟩, hb3, hBW⟩ hpl
    obtain ⟨hd0, hd1⟩ := hd.dg x.1
    gi_wp2_with fail
    refine am_round l _ Bc (m + 1 + 9 * pre.length) g1 c1 w.heap.size _ (dg zs x.1) W _ rfl rfl rfl hd0 hd1 (by have := unhide HM; have := unhide HL; omega) hb1 ho1 (by have := hBW.size; omega) hBc (hT W hBW) ?_
    intro a' W' ⟨v, hv, hov, g', c', e⟩ hko' hb' hk'
    subst e
    have e1 : m + 1 + 9 * (pre ++ [x]).length = m + 1 + 9 * pre.length + 9 := by simp; omega
    have e2 : bs ++ Lib.byteCells (amT zs t (pre ++ [x])) = (bs ++ Lib.byteCells (amT zs t pre)) ++ Lib.byteCells (pad 9 (dg zs x.1).toNat) := by rw [amT_snoc]; simp [Lib.byteCells]
    have hb3' : Boxed W' W2.heap.size 47 (.slice (some ⟨b, off, none⟩) zs.length cap) := hk' _ _ hb3 (by simp; omega) (by intro c fz h; cases h)
    refine ⟨hko'.from _, ⟨hb3'.trans hb3.symm, hb'.block b hb⟩, ⟨_, hv, ?_, g', c', ?_⟩, hb3', hBW.trans hb'⟩
    · rw [e1, e2]; exact hov
    · rw [e1]
  case done =>
    rintro D ys W hD rfl ⟨⟨v, hb1, ho1, g1, c1, rfl⟩, _, hBW⟩ hK
    have kO := hb1.cell
    clear hb1
    gi_wp2
    refine ⟨by simp, .inl ⟨_, _, rfl, run_takeDeferred hK, ?_⟩⟩
    have hal := amT_all zs t hd ht
    have hle := amT_length zs t (dn zs.length)
    rw [hal] at ho1 hle
    have e1 : n + (Lib.decDigits (val (zs ++ [(t : Int)])).toNat).length = m + 1 + 9 * (dn zs.length).length := by have := unhide HM; omega
    rw [e1]
    exact ⟨_, results_tmp rfl _ _ _, _, rfl, ownsRow_putObj ho1 _ hK rfl, hBW.trans ((belowK_b (w := w) (Nat.le_refl _) W D _ _ (by simp at hD; omega) hK rfl rfl).mono hBc)⟩
  case stop =>
    rintro D c pre W _ _ h _
    exact h.elim

end Go.Proofs.YthgdmppmjnmiiaaGreatDoor.Nm

/- String of any number. -/
namespace Go.Proofs.YthgdmppmjnmiiaaGreatDoor.Nm
open Go.RowKit Go.Shelf
attribute [local go_sem] eqnil_some eqnil_none nenil_some nenil_none

theorem conv_row {W : World} {Bc : Nat} {v : Value} {l : List UInt8} {n : Nat} (hn : n = l.length) (hp : 0 < n) (h : W.ownsRow Bc 5 1 v n (Lib.byteCells l)) :
    ∃ g c, v = .slice (some ⟨g, 0, none⟩) n c ∧ (convert 90 9 v).run Tryz.prog W = .ok (.string ⟨l.toArray⟩) W := by
  obtain ⟨k, rfl⟩ : ∃ k, n = k + 1 := ⟨n - 1, by omega⟩
  obtain ⟨g, c, rfl⟩ := ownsRow_succ h
  refine ⟨g, c, rfl, conv8 W g c (k + 1) l hn.symm fun j hj => ?_⟩
  rw [h.cellAt j (by omega)]
  simp [Lib.byteCells, hj]

/-- The digits of a great number: the top one is at least 1. -/
theorem great_form {xs : List Int} (hd : Dig xs) (hn : Norm xs) (hne : xs ≠ []) : ∃ zs t, xs = zs ++ [((t : Nat) : Int)] ∧ Dig zs ∧ 1 ≤ t ∧ t < 1000000000 := by
  refine ⟨xs.dropLast, (xs.getLast hne).toNat, ?_, fun x hx => hd x ((List.dropLast_subset xs) hx), ?_, ?_⟩
  · have h := hd _ (List.getLast_mem hne)
    rw [Int.toNat_of_nonneg h.1]
    exact (List.dropLast_concat_getLast hne).symm
  · have h := hd _ (List.getLast_mem hne)
    have := hn hne
    omega
  · have h := hd _ (List.getLast_mem hne)
    omega

set_option maxRecDepth 100000 in
set_option maxHeartbeats 2000000 in
theorem str_great (s : Int) (b off cap : Nat) (zs : List Int) (t : Nat) (w : World) (hs : s = -1 ∨ s = 1) (hb : b < w.heap.size) (hat : At w b off (zs ++ [(t : Int)])) (hd : Dig zs) (ht : 1 ≤ t) (ht2 : t < 1000000000) (hl : zs.length ≤ 10000) (hcap : zs.length + 1 ≤ cap) (hT : Tab w) :
    Calls Tryz.prog 30 #[.agg #[.int .i64 s, .slice (some ⟨b, off, none⟩) (zs.length + 1) cap]] w fun e w' => e = .returned (.string ⟨((if s < 0 then [45] else []) ++ Lib.decDigits (val (zs ++ [(t : Int)])).toNat).toArray⟩) ∧ Below w.heap.size w w' := by
  obtain ⟨i0, hi, hz0, hz1, hz2⟩ := info_parts info8
  have hTB := Lib.tabBelow_of_tabIs hT
  have bX := Bx.new w s (some ⟨b, off, none⟩) (zs.length + 1) cap
  have hbw : Below w.heap.size w (w.alloc (.cells #[.int .i64 s, .slice (some ⟨b, off, none⟩) (zs.length + 1) cap] 49)) := (Below.refl _ w).alloc (Nat.le_refl _) _
  obtain ⟨k0, k1, f0, f1⟩ := bX.facts
  rcases hs with rfl | rfl
  · have HC := hide (fun (W : World) (hB : Below w.heap.size w W) (v : Value) (ho : W.ownsRow w.heap.size 5 1 v 1 (Lib.byteCells [45])) => appendMag_any w.heap.size 1 v (Lib.byteCells [45]) b off cap zs t W ho hB.size (by omega) hb (fun j hj => (hB.cell (p := ⟨b, off + j, none⟩) hb).trans (hat j hj)) hd ht ht2 hl hcap (fun w' h => hTB w' (hB.trans h)))
    clear hT hat hTB
    go_enter Tryz.func30, Tryz.ntmps30
    go_wp2_with (at_builtin; refine wpList_append_own _ rfl _ _ 90 rfl w.heap.size 5 i0 (.int .u8 0) 1 1 Tryz.underlying90 hi hz0 hz1 hz2 rfl (by decide) _ _ _ rfl (World.ownsRow_nil _ _ _ _) ⟨w.heap.size + 1, 0, none⟩ 1 1 [.int .u8 45] rfl rfl ?c1 ?c2 ?c3 ?c4 ?c5 ?_)
    case c1 =>
      intro j u hj
      have hj0 : j = 0 := by
        have := (List.getElem?_eq_some_iff.1 hj).1
        simpa using this
      subst hj0
      obtain rfl : Value.int .u8 45 = u := by simpa using hj
      have e := (Boxed.new (w.alloc (.cells #[.int .i64 (-1), .slice (some ⟨b, off, none⟩) (zs.length + 1) cap] 49)) 5 (.int .u8 45)).cell
      rw [World.size_alloc] at e
      exact e
    case c2 => exact one8 _
    case c3 => unfold maxLen; omega
    case c4 => omega
    case c5 => simp; omega
    intro v' w2 hown' hgrow _
    have hB2 : Below w.heap.size w w2 := (hbw.alloc hbw.size (.cells #[.int .u8 45] 5)).grown hgrow (by simp; omega) (fun k hk => by simp [Value.ownBlock] at hk)
    have bX2 : Bx w2 w.heap.size (.agg #[.int .i64 (-1), .slice (some ⟨b, off, none⟩) (zs.length + 1) cap]) := by
      obtain ⟨n', a', l', c', e1, e2⟩ := bX.alloc (.cells #[.int .u8 45] 5)
      exact ⟨n', a', l', c', e1, (hgrow.block _ (by simp; omega) (by simp [Value.ownBlock])).trans e2⟩
    have ho2 : w2.ownsRow w.heap.size 5 1 v' 1 (Lib.byteCells [45]) := hown'
    obtain ⟨g, c, rfl⟩ := ownsRow_succ ho2
    have HC2 := hide (unhide HC w2 hB2 _ ho2)
    obtain ⟨k0, k1, f0, f1⟩ := bX2.facts
    clear HC hown' hgrow bX2 bX ho2
    go_wp2_with fail
    refine (unhide HC2).mono ?_
    rintro e w3 ⟨v3, rfl, ho3, hb3⟩
    have hbc : Lib.byteCells [45] ++ Lib.byteCells (Lib.decDigits (val (zs ++ [(t : Int)])).toNat) = Lib.byteCells ([45] ++ Lib.decDigits (val (zs ++ [(t : Int)])).toNat) := by simp [Lib.byteCells]
    rw [hbc] at ho3
    obtain ⟨g3, c3, rfl, hcv⟩ := conv_row (by simp; omega) (by omega) ho3
    have hB3 := hB2.trans hb3
    clear ho3 hb3 HC2 hbc
    go_wp2
    go_ret
    exact ⟨rfl, hB3⟩
  · have HC := hide (fun (W : World) (hB : Below w.heap.size w W) => appendMag_any w.heap.size 0 (.slice none 0 0) [] b off cap zs t W (World.ownsRow_nil _ _ _ _) hB.size (by omega) hb (fun j hj => (hB.cell (p := ⟨b, off + j, none⟩) hb).trans (hat j hj)) hd ht ht2 hl hcap (fun w' h => hTB w' (hB.trans h)))
    clear hT hat hTB
    go_enter Tryz.func30, Tryz.ntmps30
    go_wp2_with fail
    refine (unhide HC _ hbw).mono ?_
    rintro e w3 ⟨v3, rfl, ho3, hb3⟩
    rw [List.nil_append, Nat.zero_add] at ho3
    obtain ⟨g3, c3, rfl, hcv⟩ := conv_row (by simp) (by have := dd_pos (val (zs ++ [(t : Int)])).toNat; omega) ho3
    have hB3 := hbw.trans hb3
    clear ho3 hb3 HC
    go_wp2
    go_ret
    exact ⟨rfl, hB3⟩

/-- String of any number. -/
theorem str_any (v : Value) (z : Int) (w : World) (hT : Tab w) (h : IsI w v z) (hz : (z.natAbs : Int) < pw 4000) :
    Calls Tryz.prog 30 #[v] w fun e w' => e = .returned (.string ⟨(Lib.itoa z).toArray⟩) ∧ Below w.heap.size w w' := by
  rcases h with ⟨rfl, h0, h1⟩ | ⟨b, off, cap, xs, rfl, h1, h2, h3, h4, h5, h6, h7⟩
  · exact str_small z w hT h0 h1
  · have hne : xs ≠ [] := IsI.ne_nil h6 h7
    have hln := len_le h4 h5 (k := 4000) (by omega)
    obtain ⟨zs, t, rfl, hd, ht, ht2⟩ := great_form h4 h5 hne
    have hl' : zs.length + 1 ≤ 4000 := by simpa using hln
    have := str_great (if z < 0 then -1 else 1) b off cap zs t w (by split <;> simp) h2 h3 hd ht ht2 (by omega) (by simpa using h1) hT
    have e1 : (zs ++ [(t : Int)]).length = zs.length + 1 := by simp
    rw [e1]
    refine Calls.mono this ?_
    rintro e w' ⟨rfl, hb⟩
    refine ⟨?_, hb⟩
    congr 3
    rw [h6]
    unfold Lib.itoa
    by_cases hn : z < 0
    · simp [hn]
    · simp [hn]; congr 1; omega

end Go.Proofs.YthgdmppmjnmiiaaGreatDoor.Nm
