/- Arguments: a slice of slices of ints, a slice of ints, as the rows read them. -/
import Derived.Test.YtmkkhpoedlbafaaRows
import Derived.Test.YtmkkhpoedlbafaaQU
import Derived.ProofKit
import Derived.OpenShut
import Derived.SizedLaws
import Derived.Carry
import Derived.Deep.Matrix
set_option linter.unusedVariables false
set_option linter.unusedSimpArgs false

namespace Go.Proofs.Ytmkkhpoedlbafaa
open Go.ChangeShapes Go.WideShapes Go.ChangeAt Go.RowKit Go.Deep
theorem own_knob : ownKnob Try.prog.godebug = none := by kernel_rfl
theorem laid_out : laidOutB Try.prog = true := by kernel_rfl
theorem cells_sl : Try.prog.cellsOf 23 = 1 := by kernel_rfl
theorem cells_int : Try.prog.cellsOf 3 = 1 := by kernel_rfl
theorem bytes_int : Try.prog.bytesOf 3 = 8 := by kernel_rfl
theorem us_rows : Try.prog.underlying 22 = some (.slice 23) := by kernel_rfl
section
variable {H : Type} {enc : TypeId × Value → H} {W : World}
theorem wf_rng {n : Int} (h : (Lit.int .i64 n).wf = true) : -9223372036854775808 ≤ n ∧ n ≤ 9223372036854775807 := by
  simp only [Lit.wf, Bool.and_eq_true, decide_eq_true_eq] at h
  have h1 : IntKind.i64.min = -9223372036854775808 := by kernel_rfl
  have h2 : IntKind.i64.max = 9223372036854775807 := by kernel_rfl
  omega
/-- A slice of ints. -/
theorem sl_of {B : Nat} {A : Option Addr} {L C : Nat} {Z : List Int} (hLC : L ≤ C) (hC : C ≤ maxLen) (hZ : Z.length = C) (hw : ∀ n ∈ Z, (Lit.int .i64 n).wf = true) (hn : A = none → C = 0) (hc : ∀ a', A = some a' → ∀ c, c < C → W.cell? (a'.add c) = some (.int .i64 (Z.getD c 0))) (hB : ∀ a' : Addr, A = some a' → 0 < C → a'.block < B) : Sl W B (.slice A L C) (Z.take L) := by
  have hl : (Z.take L).length = L := by rw [List.length_take]; omega
  unfold maxLen at hC
  have hA : L ≠ 0 → ∃ b off, A = some ⟨b, off, none⟩ ∧ b < B := fun h0 => by
    cases A with
    | none => have := hn rfl; omega
    | some a' =>
      obtain ⟨b, off, spot⟩ := a'
      have hs : spot = none := by simpa [Addr.add] using World.cell?_spot (hc _ rfl 0 (by omega))
      subst hs
      exact ⟨b, off, rfl, hB _ rfl (by omega)⟩
  refine ⟨⟨A, C, by rw [hl], by omega, by omega, fun h => hA (by omega)⟩, fun j hj => ?_⟩
  obtain ⟨b, off, rfl, _⟩ := hA (by omega)
  have h1 := hc _ rfl j (by omega)
  have e : (⟨b, off, none⟩ : Addr).add j = ⟨b, off + j, none⟩ := by simp [Addr.add]
  rw [e] at h1
  have h2 : Z.getD j 0 = (Z.take L)[j] := by
    rw [List.getElem_take]
    simp [List.getD_eq_getElem?_getD, List.getElem?_eq_getElem (show j < Z.length by omega)]
  refine ⟨by simp only [cv, adr]; rw [h1, h2]; rfl, wf_rng (hw _ (List.mem_of_mem_take (List.getElem_mem hj)))⟩
theorem all_of {P : Program} {e : TypeId} {d : DataW H} {n : Nat} : ∀ {l : List (DataW H)}, d ∈ l → n ∈ d.weights P e → n ∈ DataW.weightsAll P e l
  | x :: l, h, hn => by
    simp only [DataW.weightsAll, List.mem_append]
    rcases List.mem_cons.1 h with rfl | h
    · exact .inl hn
    · exact .inr (all_of h hn)
theorem open_c {fuel : Nat} {v : Value} {d : DataW H} {ps : List MemPlace} (h : DataW.trod enc Try.prog W 0 (fun _ => true) true fuel 23 [v] = some (d, ps)) (hz : ∀ n ∈ d.weights Try.prog 23, n ≤ reachBytes) : ∃ xs, Sl W W.heap.size v xs ∧ xs.length ≤ 17592186044416 := by
  rcases open_ints us_int us_i cells_int h with ⟨hcs, _⟩ | ⟨a, len, cap, zs, hcs, _, hl, hm, hzl, hx, hc, hw⟩
  · simp only [List.cons.injEq, and_true] at hcs
    subst hcs
    exact ⟨[], Sl.nil _ _, by simp⟩
  · simp only [List.cons.injEq, and_true] at hcs
    subst hcs
    simp only [if_true] at hzl
    simp only [Prod.mk.injEq] at hx
    obtain ⟨rfl, _⟩ := hx
    have hr := hz (((lits (H := H) .i64 (zs.take len)).length + (lits (H := H) .i64 (zs.drop len)).length) * Try.prog.bytesOf 3) (by simp [DataW.weights, us_int])
    rw [bytes_int] at hr
    simp only [lits, List.length_map, List.length_take, List.length_drop, reachBytes] at hr
    refine ⟨zs.take len, sl_of hl hm hzl hw (fun e => by cases e) (fun a' e c hcc => by cases e; exact hc c (by omega)) (fun a' e h0 => by cases e; exact World.block_lt_of_cell? _ _ (hc 0 (by omega))), ?_⟩
    rw [List.length_take]
    omega
theorem open_l {fuel : Nat} {v : Value} {d : DataW H} {ps : List MemPlace} (h : DataW.trod enc Try.prog W 0 (fun _ => true) true fuel 22 [v] = some (d, ps)) (hz : ∀ n ∈ d.weights Try.prog 22, n ≤ reachBytes) : ∃ ls, Sl2 W W.heap.size v ls ∧ ∀ c ∈ ls, c.length ≤ 17592186044416 := by
  rcases open_int_rows us_rows us_int us_i cells_sl cells_int h with ⟨hcs, _⟩ | ⟨a, len, cap, A, L, C, Z, hcs, _, hl, hm, hx, hrow⟩
  · simp only [List.cons.injEq, and_true] at hcs
    subst hcs
    exact ⟨[], ⟨⟨none, 0, rfl, Nat.le_refl _, by omega, fun h => absurd rfl h⟩, fun j hj => absurd hj (Nat.not_lt_zero _)⟩, fun c hc => by cases hc⟩
  · simp only [List.cons.injEq, and_true] at hcs
    subst hcs
    simp only [Prod.mk.injEq] at hx
    obtain ⟨rfl, _⟩ := hx
    unfold maxLen at hm
    have hlen : ((List.range len).map fun r => (Z r).take (L r)).length = len := by simp
    have hA : len ≠ 0 → ∃ b off, a = ⟨b, off, none⟩ ∧ b < W.heap.size := fun h0 => by
      obtain ⟨b, off, spot⟩ := a
      have h1 := (hrow 0 (by omega)).1
      have hs : spot = none := by simpa [Addr.add] using World.cell?_spot h1
      subst hs
      exact ⟨b, off, rfl, World.block_lt_of_cell? _ _ h1⟩
    refine ⟨(List.range len).map fun r => (Z r).take (L r), ⟨⟨some a, cap, by rw [hlen], by omega, by omega, fun h => ?_⟩, fun j hj => ?_⟩, fun c hc => ?_⟩
    · obtain ⟨b, off, rfl, hb⟩ := hA (by omega)
      exact ⟨b, off, rfl, hb⟩
    · have hj' : j < len := by omega
      obtain ⟨b, off, rfl, hb⟩ := hA (by omega)
      obtain ⟨r1, r2, r3, r4, r5, r6, r7⟩ := hrow j (by omega)
      have e : (⟨b, off, none⟩ : Addr).add j = ⟨b, off + j, none⟩ := by simp [Addr.add]
      rw [e] at r1
      refine ⟨by simp only [adr]; rw [r1]; rfl, ?_⟩
      simp only [cv, adr, List.getElem_map, List.getElem_range]
      rw [r1]
      exact sl_of r2 r3 r4 r5 r6 (fun a' ha c hcc => (r7 a' ha).2 c hcc) (fun a' ha h0 => World.block_lt_of_cell? _ _ ((r7 a' ha).2 0 h0))
    · obtain ⟨r, hr, rfl⟩ := List.mem_map.1 hc
      have hr' := List.mem_range.1 hr
      obtain ⟨r1, r2, r3, r4, r5, r6, r7⟩ := hrow r (by omega)
      rw [List.length_take]
      cases hA' : A r with
      | none => have := r6 hA'; omega
      | some a' =>
        have hd : (intRow .i64 (A r) (L r) (Z r) : DataW H) ∈ (List.range len).map fun r => (intRow .i64 (A r) (L r) (Z r) : DataW H) := List.mem_map.2 ⟨r, hr, rfl⟩
        have hw := hz (((lits (H := H) .i64 ((Z r).take (L r))).length + (lits (H := H) .i64 ((Z r).drop (L r))).length) * Try.prog.bytesOf 3) (by
          simp only [DataW.weights, us_rows, List.mem_cons, List.mem_append]
          refine .inr (.inl (all_of hd ?_))
          rw [hA']
          simp [intRow, DataW.weights, us_int])
        rw [bytes_int] at hw
        simp only [lits, List.length_map, List.length_take, List.length_drop, reachBytes] at hw
        omega
end
end Go.Proofs.Ytmkkhpoedlbafaa
