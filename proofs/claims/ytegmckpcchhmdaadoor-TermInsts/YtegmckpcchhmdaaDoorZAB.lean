/- Terms: what a Go value of api.Term reads as. -/
import Derived.Test.YtegmckpcchhmdaaDoorZAA
import Derived.Deep.RegionWith
import Derived.Orders
import Derived.Below
import Derived.Tactics
import Derived.OrdersIn
import Derived.RangeFuncCalls
import Derived.Lib.Walk
import Derived.Lib.ItoaMem
import Derived.Lib.AppendIntMem
import Derived.BigCall
import Derived.BigGuard
import Derived.CellFam
import Derived.Lib.ItoaNum
import Derived.RangeFuncBox
import Derived.Lib.AppendStr
import Derived.Deep.QuietTactic
import Derived.BigQuiet
import Derived.Test.YtegmckpcchhmdaaDoorProg
import Derived.WalkKit
import Derived.ProofKit
import Derived.MapKept
import Derived.Deep.MidRow
set_option linter.unusedVariables false
set_option linter.unusedSimpArgs false

/- The number of a magnitude and a sign, and back: ofMag, magnitude, clone, Of. -/
namespace Go.Proofs.YtegmckpcchhmdaaDoor.Nm
open Go.RowKit
attribute [local go_sem] eqnil_some eqnil_none nenil_some nenil_none

theorem bcell {W w1 : World} (hb : Below W.heap.size W w1) : (∀ b o, b < W.heap.size → w1.cell? ⟨b, o, none⟩ = W.cell? ⟨b, o, none⟩) ∧ (∀ b o, b < W.heap.size → w1.frozen? ⟨b, o, none⟩ = W.frozen? ⟨b, o, none⟩) :=
  ⟨fun b o h => hb.cell (p := ⟨b, o, none⟩) h, fun b o h => hb.frozen (p := ⟨b, o, none⟩) h⟩

/-- The Go value v of type num.Int is the number z. -/
def IsI (w : World) (v : Value) (z : Int) : Prop :=
  (v = .agg #[.int .i64 z, .slice none 0 0] ∧ -9223372036854775808 ≤ z ∧ z ≤ 9223372036854775807) ∨
  (∃ b off cap xs, v = .agg #[.int .i64 (if z < 0 then -1 else 1), .slice (some ⟨b, off, none⟩) xs.length cap] ∧ xs.length ≤ cap ∧ b < w.heap.size ∧ At w b off xs ∧ Dig xs ∧ Norm xs ∧ val xs = z.natAbs ∧ (z < -9223372036854775808 ∨ 9223372036854775807 < z))
theorem IsI.below {w w' : World} {v : Value} {z : Int} (h : IsI w v z) (hb : Below w.heap.size w w') : IsI w' v z := by
  rcases h with h | ⟨b, off, cap, xs, e, h1, h2, h3, h4, h5, h6, h7⟩
  · exact .inl h
  · exact .inr ⟨b, off, cap, xs, e, h1, Nat.lt_of_lt_of_le h2 hb.size, fun j hj => (hb.cell (p := ⟨b, off + j, none⟩) h2).trans (h3 j hj), h4, h5, h6, h7⟩

set_option maxRecDepth 100000 in
set_option maxHeartbeats 400000 in
theorem smallMag_no (a : Option Addr) (cap : Nat) (xs : List Int) (w : World) (hat : xs ≠ [] → ∃ b off, a = some ⟨b, off, none⟩ ∧ b < w.heap.size ∧ At w b off xs) (hd : Dig xs) (hl : xs.length ≤ 100000) (h : 3 < xs.length ∨ xs.length = 3 ∧ (9 : Int) < xs[2]?.getD 0) :
    Calls Tryd.prog 85 #[.slice a xs.length cap] w fun e w' => e = .returned (.tuple #[.int .u64 0, .bool false]) ∧ Below w.heap.size w w' := by
  rcases h with h | ⟨h3, h9⟩
  · have h3i : (3 : Int) < (xs.length : Int) := by omega
    go_enter Tryd.func85, Tryd.ntmps85
    go_wp2
    go_ret2
    exact ⟨rfl, Below.refl _ _⟩
  · obtain ⟨b0, off0, rfl, hb0, hc0⟩ := hat (by intro e; subst e; simp at h3)
    have h3' : ((xs.length : Int) == 3) = true := by simp; omega
    have hc2 := hc0 2 (by omega)
    obtain ⟨d2, hd2, hd20, hd21⟩ := hd.get 2
    rw [hd2] at hc2 h9
    have H3 := hide h3
    clear h3 hd2
    have h3i : (2 : Int) < (xs.length : Int) := by have := unhide H3; omega
    have h3j : ¬ (3 : Int) < (xs.length : Int) := by have := unhide H3; omega
    have hq : decide ((9 : Int) < d2) = true := by simp; omega
    go_enter Tryd.func85, Tryd.ntmps85
    go_wp2
    go_ret2
    exact ⟨rfl, Below.refl _ _⟩

/-- What smallMag tells of a magnitude. -/
theorem smallMag_any (a : Option Addr) (cap : Nat) (xs : List Int) (w : World) (hat : xs ≠ [] → ∃ b off, a = some ⟨b, off, none⟩ ∧ b < w.heap.size ∧ At w b off xs) (hd : Dig xs) (hn : Norm xs) (hl : xs.length ≤ 100000) :
    (val xs < 10000000000000000000 ∧ Calls Tryd.prog 85 #[.slice a xs.length cap] w fun e w' => e = .returned (.tuple #[.int .u64 (val xs), .bool true]) ∧ Below w.heap.size w w') ∨
    (10000000000000000000 ≤ val xs ∧ Calls Tryd.prog 85 #[.slice a xs.length cap] w fun e w' => e = .returned (.tuple #[.int .u64 0, .bool false]) ∧ Below w.heap.size w w') := by
  by_cases h : 3 < xs.length ∨ xs.length = 3 ∧ (9 : Int) < xs[2]?.getD 0
  · refine .inr ⟨?_, smallMag_no a cap xs w hat hd hl h⟩
    rcases h with h | ⟨h3, h9⟩
    · have h1 := le_val hd hn (by intro e; subst e; simp at h)
      have h2 : pw 3 ≤ pw (xs.length - 1) := pw_mono (by omega)
      have h3 : (10000000000000000000 : Int) ≤ pw 3 := by decide
      omega
    · have h1 := val_take_succ xs 2 (by omega)
      rw [List.take_of_length_le (by omega)] at h1
      have h2 := val_nonneg (hd.take 2)
      have h4 : pw 2 = 1000000000000000000 := by decide
      rw [h4] at h1
      omega
  · have h9 : xs.length = 3 → xs[2]?.getD 0 ≤ 9 := fun e => by
      apply Int.not_lt.1
      intro h9
      exact h (.inr ⟨e, h9⟩)
    have hl3 : xs.length ≤ 3 := by omega
    have hv : val xs < 10000000000000000000 := by
      by_cases e : xs.length = 3
      · have h1 := val_take_succ xs 2 (by omega)
        rw [List.take_of_length_le (by omega)] at h1
        have h2 := val_lt (hd.take 2)
        have h4 : pw 2 = 1000000000000000000 := by decide
        rw [List.length_take, Nat.min_eq_left (by omega)] at h2
        rw [h4] at h1 h2
        have := h9 e
        omega
      · have h1 := val_lt hd
        have h2 : pw xs.length ≤ pw 2 := pw_mono (by omega)
        have h4 : pw 2 = 1000000000000000000 := by decide
        omega
    exact .inl ⟨hv, smallMag_yes a cap xs w hat hd hl3 h9 (by omega)⟩

set_option maxRecDepth 100000 in
set_option maxHeartbeats 800000 in
theorem ofMag_any (below : Bool) (v : Value) (xs : List Int) (w : World) (hm : Mg w v xs) (hd : Dig xs) (hn : Norm xs) (hl : xs.length ≤ 100000) :
    Calls Tryd.prog 81 #[.bool below, v] w fun e w' => ∃ r, e = .returned r ∧ Below w.heap.size w w' ∧ IsI w' r (if below then - val xs else val xs) := by
  obtain ⟨a, cap, rfl, hcap, hat⟩ := hm
  have hv0 := val_nonneg hd
  have hat1 : xs ≠ [] → ∃ b off, a = some ⟨b, off, none⟩ ∧ b < (w.alloc (.cells #[.int .i64 0, .slice none 0 0] 170)).heap.size ∧ At (w.alloc (.cells #[.int .i64 0, .slice none 0 0] 170)) b off xs := fun h => by
    obtain ⟨b, off, e, hb, hc⟩ := hat h
    exact ⟨b, off, e, by simp; omega, fun j hj => by rw [World.cell?_alloc_past _ _ _ hb]; exact hc j hj⟩
  have hb0 : Below w.heap.size w (w.alloc (.cells #[.int .i64 0, .slice none 0 0] 170)) := (Below.refl _ _).alloc (Nat.le_refl _) _
  rcases smallMag_any a cap xs _ hat1 hd hn hl with ⟨hv, hs⟩ | ⟨hv, hs⟩
  · have HS := hide hs
    clear hs
    cases below with
    | true =>
      by_cases hsm : val xs ≤ 9223372036854775808
      · go_enter Tryd.func81, Tryd.ntmps81
        go_wp2_with fail
        refine (unhide HS).mono ?_
        rintro e w1 ⟨rfl, hb1⟩
        obtain ⟨hc, hf⟩ := bcell hb1
        go_wp2_with fail
        refine (signed_yes true (val xs) w1 hv0 (by simp; omega)).mono ?_
        rintro e w2 ⟨rfl, hw2⟩
        subst hw2
        go_wp2_with fail
        refine (of_any _ _).mono ?_
        rintro e w3 ⟨rfl, hb3⟩
        have hz3 : w.heap.size < w2.heap.size := by have := hb1.size; simp at this; omega
        obtain ⟨hc3, hf3⟩ := bcell hb3
        clear hat hat1
        go_wp2
        refine bodyPost_ret (v := .agg #[.int .i64 (- val xs), .slice none 0 0]) ?_ rfl ?_
        · simp [results, Tryd.results81, go_sem, hc, hc3, hz3]
        · exact ⟨_, rfl, (((hb0.trans (hb1.mono (by simp))).trans (hb3.mono (by omega))).setCell (by simp) _).setCell (by simp) _, .inl ⟨rfl, by omega, by omega⟩⟩

      · obtain ⟨b0, off0, rfl, hbl, hc0⟩ := hat (by intro e; subst e; simp [val] at hsm)
        go_enter Tryd.func81, Tryd.ntmps81
        go_wp2_with fail
        refine (unhide HS).mono ?_
        rintro e w1 ⟨rfl, hb1⟩
        obtain ⟨hc, hf⟩ := bcell hb1
        go_wp2_with fail
        refine (signed_no true (val xs) w1 hv0 (by omega) (by simp; omega)).mono ?_
        rintro e w2 ⟨rfl, hw2⟩
        subst hw2
        have hz3 : w.heap.size < w2.heap.size := by have := hb1.size; simp at this; omega
        have hbb := hb0.trans (hb1.mono (B' := w.heap.size) (by simp))
        have hatf : At w2 b0 off0 xs := fun j hj => (hbb.cell (p := ⟨b0, off0 + j, none⟩) hbl).trans (hc0 j hj)
        clear hat hat1
        go_wp2
        refine bodyPost_ret (v := .agg #[.int .i64 (-1), .slice (some ⟨b0, off0, none⟩) xs.length cap]) ?_ rfl ?_
        · simp [results, Tryd.results81, go_sem, hc]
        · have hb9 := ((Below.refl w2.heap.size w2).mono (B' := w.heap.size) (by omega))
          have hbz := ((hbb.setCell (p := ⟨w.heap.size, 0, none⟩) (by simp) (.int .i64 (-1))).setCell (p := ⟨w.heap.size, 1, none⟩) (by simp) (.slice (some ⟨b0, off0, none⟩) xs.length cap))
          refine ⟨_, rfl, hbz, .inr ⟨b0, off0, cap, xs, ?_, hcap, Nat.lt_of_lt_of_le hbl hbz.size, fun j hj => (hbz.cell (p := ⟨b0, off0 + j, none⟩) hbl).trans (hc0 j hj), hd, hn, by omega, by omega⟩⟩
          rw [if_pos (by omega)]

    | false =>
      by_cases hsm : val xs < 9223372036854775808
      · go_enter Tryd.func81, Tryd.ntmps81
        go_wp2_with fail
        refine (unhide HS).mono ?_
        rintro e w1 ⟨rfl, hb1⟩
        obtain ⟨hc, hf⟩ := bcell hb1
        go_wp2_with fail
        refine (signed_yes false (val xs) w1 hv0 (by simp; omega)).mono ?_
        rintro e w2 ⟨rfl, hw2⟩
        subst hw2
        go_wp2_with fail
        refine (of_any _ _).mono ?_
        rintro e w3 ⟨rfl, hb3⟩
        have hz3 : w.heap.size < w2.heap.size := by have := hb1.size; simp at this; omega
        obtain ⟨hc3, hf3⟩ := bcell hb3
        clear hat hat1
        go_wp2
        refine bodyPost_ret (v := .agg #[.int .i64 (val xs), .slice none 0 0]) ?_ rfl ?_
        · simp [results, Tryd.results81, go_sem, hc, hc3, hz3]
        · exact ⟨_, rfl, (((hb0.trans (hb1.mono (by simp))).trans (hb3.mono (by omega))).setCell (by simp) _).setCell (by simp) _, .inl ⟨rfl, by omega, by omega⟩⟩

      · obtain ⟨b0, off0, rfl, hbl, hc0⟩ := hat (by intro e; subst e; simp [val] at hsm)
        go_enter Tryd.func81, Tryd.ntmps81
        go_wp2_with fail
        refine (unhide HS).mono ?_
        rintro e w1 ⟨rfl, hb1⟩
        obtain ⟨hc, hf⟩ := bcell hb1
        go_wp2_with fail
        refine (signed_no false (val xs) w1 hv0 (by omega) (by simp; omega)).mono ?_
        rintro e w2 ⟨rfl, hw2⟩
        subst hw2
        have hz3 : w.heap.size < w2.heap.size := by have := hb1.size; simp at this; omega
        have hbb := hb0.trans (hb1.mono (B' := w.heap.size) (by simp))
        have hatf : At w2 b0 off0 xs := fun j hj => (hbb.cell (p := ⟨b0, off0 + j, none⟩) hbl).trans (hc0 j hj)
        clear hat hat1
        go_wp2
        refine bodyPost_ret (v := .agg #[.int .i64 1, .slice (some ⟨b0, off0, none⟩) xs.length cap]) ?_ rfl ?_
        · simp [results, Tryd.results81, go_sem, hc]
        · have hb9 := ((Below.refl w2.heap.size w2).mono (B' := w.heap.size) (by omega))
          have hbz := ((hbb.setCell (p := ⟨w.heap.size, 0, none⟩) (by simp) (.int .i64 1)).setCell (p := ⟨w.heap.size, 1, none⟩) (by simp) (.slice (some ⟨b0, off0, none⟩) xs.length cap))
          refine ⟨_, rfl, hbz, .inr ⟨b0, off0, cap, xs, ?_, hcap, Nat.lt_of_lt_of_le hbl hbz.size, fun j hj => (hbz.cell (p := ⟨b0, off0 + j, none⟩) hbl).trans (hc0 j hj), hd, hn, by omega, by omega⟩⟩
          rw [if_neg (by omega)]

  · have HS := hide hs
    clear hs
    obtain ⟨b0, off0, rfl, hbl, hc0⟩ := hat (by intro e; subst e; simp [val] at hv)
    cases below with
    | true =>
      go_enter Tryd.func81, Tryd.ntmps81
      go_wp2_with fail
      refine (unhide HS).mono ?_
      rintro e w1 ⟨rfl, hb1⟩
      obtain ⟨hc, hf⟩ := bcell hb1
      have hz3 : w.heap.size < w1.heap.size := by have := hb1.size; simp at this; omega
      have hbb := hb0.trans (hb1.mono (B' := w.heap.size) (by simp))
      have hatf : At w1 b0 off0 xs := fun j hj => (hbb.cell (p := ⟨b0, off0 + j, none⟩) hbl).trans (hc0 j hj)
      clear hat hat1
      go_wp2
      refine bodyPost_ret (v := .agg #[.int .i64 (-1), .slice (some ⟨b0, off0, none⟩) xs.length cap]) ?_ rfl ?_
      · simp [results, Tryd.results81, go_sem, hc]
      · have hb9 := ((Below.refl w1.heap.size w1).mono (B' := w.heap.size) (by omega))
        have hbz := ((hbb.setCell (p := ⟨w.heap.size, 0, none⟩) (by simp) (.int .i64 (-1))).setCell (p := ⟨w.heap.size, 1, none⟩) (by simp) (.slice (some ⟨b0, off0, none⟩) xs.length cap))
        refine ⟨_, rfl, hbz, .inr ⟨b0, off0, cap, xs, ?_, hcap, Nat.lt_of_lt_of_le hbl hbz.size, fun j hj => (hbz.cell (p := ⟨b0, off0 + j, none⟩) hbl).trans (hc0 j hj), hd, hn, by omega, by omega⟩⟩
        rw [if_pos (by omega)]

    | false =>
      go_enter Tryd.func81, Tryd.ntmps81
      go_wp2_with fail
      refine (unhide HS).mono ?_
      rintro e w1 ⟨rfl, hb1⟩
      obtain ⟨hc, hf⟩ := bcell hb1
      have hz3 : w.heap.size < w1.heap.size := by have := hb1.size; simp at this; omega
      have hbb := hb0.trans (hb1.mono (B' := w.heap.size) (by simp))
      have hatf : At w1 b0 off0 xs := fun j hj => (hbb.cell (p := ⟨b0, off0 + j, none⟩) hbl).trans (hc0 j hj)
      clear hat hat1
      go_wp2
      refine bodyPost_ret (v := .agg #[.int .i64 1, .slice (some ⟨b0, off0, none⟩) xs.length cap]) ?_ rfl ?_
      · simp [results, Tryd.results81, go_sem, hc]
      · have hb9 := ((Below.refl w1.heap.size w1).mono (B' := w.heap.size) (by omega))
        have hbz := ((hbb.setCell (p := ⟨w.heap.size, 0, none⟩) (by simp) (.int .i64 1)).setCell (p := ⟨w.heap.size, 1, none⟩) (by simp) (.slice (some ⟨b0, off0, none⟩) xs.length cap))
        refine ⟨_, rfl, hbz, .inr ⟨b0, off0, cap, xs, ?_, hcap, Nat.lt_of_lt_of_le hbl hbz.size, fun j hj => (hbz.cell (p := ⟨b0, off0 + j, none⟩) hbl).trans (hc0 j hj), hd, hn, by omega, by omega⟩⟩
        rw [if_neg (by omega)]

end Go.Proofs.YtegmckpcchhmdaaDoor.Nm

/- Sign, Small, magnitude, clone, Neg, abs of a number. -/
namespace Go.Proofs.YtegmckpcchhmdaaDoor.Nm
open Go.RowKit
attribute [local go_sem] eqnil_some eqnil_none nenil_some nenil_none

theorem IsI.form {w : World} {v : Value} {z : Int} (h : IsI w v z) : ∃ n a l c, v = .agg #[.int .i64 n, .slice a l c] := by
  rcases h with ⟨rfl, _⟩ | ⟨b, off, cap, xs, rfl, _⟩
  · exact ⟨_, _, _, _, rfl⟩
  · exact ⟨_, _, _, _, rfl⟩
/-- A magnitude's cells lie in no block that holds a number's two cells. -/
theorem At.ne {w : World} {b off R : Nat} {xs : List Int} (h : At w b off xs) (hne : xs ≠ []) {n : Int} {v : Value} {T : TypeId} (hv : ∀ q, v ≠ .int .u32 q) {fz : Nat × Nat} (hR : w.heap[R]? = some (.cells #[.int .i64 n, v] T fz)) : b ≠ R := by
  rintro rfl
  have h0 := h 0 (List.length_pos_iff.2 hne)
  simp only [World.cell?, hR, Nat.add_zero, Option.isSome_none, Bool.false_eq_true, if_false] at h0
  match off, h0 with
  | 0, h0 => simp at h0
  | 1, h0 => simp at h0; exact hv _ h0
  | k + 2, h0 => simp at h0
theorem IsI.ne_nil {xs : List Int} {z : Int} (hv : val xs = z.natAbs) (h : z < -9223372036854775808 ∨ 9223372036854775807 < z) : xs ≠ [] := by
  rintro rfl
  simp only [val] at hv
  omega
/-- A number is kept while the cells of a result are written. -/
theorem IsI.store {w : World} {v : Value} {z : Int} (h : IsI w v z) {R : Nat} {T : TypeId} {fz : Nat × Nat} (hR : w.heap[R]? = some (.cells #[.int .i64 0, .slice none 0 0] T fz)) (c0 c1 : Value) : IsI ((w.setCell ⟨R, 0, none⟩ c0).setCell ⟨R, 1, none⟩ c1) v z := by
  rcases h with h | ⟨b, off, cap, xs, e, h1, h2, h3, h4, h5, h6, h7⟩
  · exact .inl h
  · have hbR := h3.ne (IsI.ne_nil h6 h7) (by intro q; simp) hR
    refine .inr ⟨b, off, cap, xs, e, h1, by simpa using h2, fun j hj => ?_, h4, h5, h6, h7⟩
    rw [World.cell?_setCell_other _ _ _ _ (by intro e; injection e with e1; exact hbR e1.symm), World.cell?_setCell_other _ _ _ _ (by intro e; injection e with e1; exact hbR e1.symm)]
    exact h3 j hj
end Go.Proofs.YtegmckpcchhmdaaDoor.Nm

/- Neg and abs of a number; the boxes of one and of two numbers. -/
namespace Go.Proofs.YtegmckpcchhmdaaDoor.Nm
open Go.RowKit
attribute [local go_sem] eqnil_some eqnil_none nenil_some nenil_none

end Go.Proofs.YtegmckpcchhmdaaDoor.Nm

/- Numbers in boxes: a block that holds a number's two cells, while other blocks are made and written. -/
namespace Go.Proofs.YtegmckpcchhmdaaDoor.Nm
open Go.RowKit

/-- The block R holds the number value v. -/
def Bx (W : World) (R : Nat) (v : Value) : Prop := ∃ n a l c, v = .agg #[.int .i64 n, .slice a l c] ∧ W.heap[R]? = some (.cells #[.int .i64 n, .slice a l c] 170)
theorem Bx.lt {W : World} {R : Nat} {v : Value} (h : Bx W R v) : R < W.heap.size := by
  obtain ⟨_, _, _, _, _, h⟩ := h
  exact (Array.getElem?_eq_some_iff.1 h).1
/-- .. so its cells. -/
theorem Bx.facts {W : World} {R : Nat} {n : Int} {a : Option Addr} {l c : Nat} (h : Bx W R (.agg #[.int .i64 n, .slice a l c])) : W.cell? ⟨R, 0, none⟩ = some (.int .i64 n) ∧ W.cell? ⟨R, 1, none⟩ = some (.slice a l c) ∧ W.frozen? ⟨R, 0, none⟩ = false ∧ W.frozen? ⟨R, 1, none⟩ = false := by
  obtain ⟨n', a', l', c', e, h⟩ := h
  simp only [Value.agg.injEq, Array.mk.injEq, List.cons.injEq, Value.int.injEq, Value.slice.injEq, true_and, and_true] at e
  obtain ⟨rfl, rfl, rfl, rfl⟩ := e
  refine ⟨?_, ?_, ?_, ?_⟩
  · simp [World.cell?, h]
  · simp [World.cell?, h]
  · simp [World.frozen?, h]
  · simp [World.frozen?, h]
theorem Bx.below {W W' : World} {R : Nat} {v : Value} (h : Bx W R v) (hb : Below W.heap.size W W') : Bx W' R v := by
  have hl := h.lt
  obtain ⟨n, a, l, c, e, h⟩ := h
  exact ⟨n, a, l, c, e, (hb.block R hl).trans h⟩
theorem Bx.drew {W : World} {R : Nat} {v : Value} (h : Bx W R v) : Bx W.drew R v := h
theorem Bx.new (W : World) (n : Int) (a : Option Addr) (l c : Nat) : Bx (W.alloc (.cells #[.int .i64 n, .slice a l c] 170)) W.heap.size (.agg #[.int .i64 n, .slice a l c]) := ⟨n, a, l, c, rfl, heap_alloc_new W _⟩
theorem Bx.alloc {W : World} {R : Nat} {v : Value} (h : Bx W R v) (o : Obj) : Bx (W.alloc o) R v := h.below ((Below.refl _ W).alloc (Nat.le_refl _) _)
theorem heap_set {W : World} {R : Nat} {c0 c1 v0 v1 : Value} {T : TypeId} (h : W.heap[R]? = some (.cells #[c0, c1] T)) : ((W.setCell ⟨R, 0, none⟩ v0).setCell ⟨R, 1, none⟩ v1).heap[R]? = some (.cells #[v0, v1] T) := by
  simp [World.setCell, Array.getElem?_modify, h]
theorem Bx.set {W : World} {R : Nat} {v : Value} (h : Bx W R v) (n : Int) (a : Option Addr) (l c : Nat) : Bx ((W.setCell ⟨R, 0, none⟩ (.int .i64 n)).setCell ⟨R, 1, none⟩ (.slice a l c)) R (.agg #[.int .i64 n, .slice a l c]) := by
  obtain ⟨_, _, _, _, _, h⟩ := h
  exact ⟨n, a, l, c, rfl, heap_set h⟩
/-- A number is kept while a box is written. -/
theorem IsI.put {W : World} {v u : Value} {z : Int} (h : IsI W v z) {R : Nat} (hR : Bx W R u) (c0 c1 : Value) : IsI ((W.setCell ⟨R, 0, none⟩ c0).setCell ⟨R, 1, none⟩ c1) v z := by
  obtain ⟨n, a, l, c, _, hR⟩ := hR
  rcases h with h | ⟨b, off, cap, xs, e, h1, h2, h3, h4, h5, h6, h7⟩
  · exact .inl h
  · have hbR := h3.ne (IsI.ne_nil h6 h7) (by intro q; simp) hR
    refine .inr ⟨b, off, cap, xs, e, h1, by simpa using h2, fun j hj => ?_, h4, h5, h6, h7⟩
    rw [World.cell?_setCell_other _ _ _ _ (by intro e; injection e with e1; exact hbR e1.symm), World.cell?_setCell_other _ _ _ _ (by intro e; injection e with e1; exact hbR e1.symm)]
    exact h3 j hj
theorem below_put {B : Nat} {w W : World} (h : Below B w W) {R : Nat} (hR : B ≤ R) (c0 c1 : Value) : Below B w ((W.setCell ⟨R, 0, none⟩ c0).setCell ⟨R, 1, none⟩ c1) := (h.setCell (p := ⟨R, 0, none⟩) hR _).setCell (p := ⟨R, 1, none⟩) hR _
/-- A value is one number alone. -/
theorem IsI.inj {W : World} {v : Value} {y z : Int} (h : IsI W v y) (k : IsI W v z) : y = z := by
  rcases h with ⟨rfl, h1, h2⟩ | ⟨b, off, cap, xs, rfl, h1, h2, h3, h4, h5, h6, h7⟩
  · rcases k with ⟨e, _⟩ | ⟨b, off, cap, xs, e, _⟩
    · simpa using e
    · simp at e
  · rcases k with ⟨e, _⟩ | ⟨b', off', cap', xs', e, k1, k2, k3, k4, k5, k6, k7⟩
    · simp at e
    · simp only [Value.agg.injEq, Array.mk.injEq, List.cons.injEq, Value.int.injEq, Value.slice.injEq, Option.some.injEq, Addr.mk.injEq, true_and, and_true] at e
      obtain ⟨e1, ⟨rfl, rfl⟩, e2, rfl⟩ := e
      have hx : xs = xs' := by
        apply List.ext_getElem e2
        intro i a b
        have p := h3 i a
        rw [k3 i b] at p
        simp only [Option.some.injEq, Value.int.injEq, true_and] at p
        rw [List.getElem?_eq_getElem a, List.getElem?_eq_getElem b] at p
        exact p.symm
      subst hx
      rw [h6] at k6
      by_cases hy : y < 0
      · by_cases hz : z < 0
        · omega
        · rw [if_pos hy, if_neg hz] at e1; omega
      · by_cases hz : z < 0
        · rw [if_neg hy, if_pos hz] at e1; omega
        · omega
theorem Bx.inj {W : World} {R : Nat} {v u : Value} (h : Bx W R v) (k : Bx W R u) : v = u := by
  obtain ⟨n, a, l, c, rfl, h⟩ := h
  obtain ⟨n', a', l', c', rfl, k⟩ := k
  rw [h] at k
  simpa using k
end Go.Proofs.YtegmckpcchhmdaaDoor.Nm

/- The laws of regions (walked by a spec an operation), and the steps of straight code: what hangs on no program. -/
namespace Go.Proofs.YtegmckpcchhmdaaDoor
open Go Go.RowKit

section
variable {P : Program} {ops : Array Oper} {Q : Exit → Act → World → Prop} {md : Region.Mode}

theorem filter_lt (p q : Nat → Bool) (hqp : ∀ j, q j = true → p j = true) (i : Nat) (hp : p i = true) (hq : q i = false) :
    ∀ l : List Nat, i ∈ l → (l.filter q).length < (l.filter p).length := by
  have hle : ∀ l : List Nat, (l.filter q).length ≤ (l.filter p).length := by
    intro l
    induction l with
    | nil => simp
    | cons x l ih =>
      simp only [List.filter_cons]
      cases hx : q x with
      | true => simp [hqp x hx, ih]
      | false =>
        cases p x with
        | true => simp; omega
        | false => simpa using ih
  intro l
  induction l with
  | nil => intro h; cases h
  | cons x l ih =>
    intro h
    rcases List.mem_cons.1 h with rfl | h
    · simp only [List.filter_cons, hp, hq]
      have := hle l
      simp
      omega
    · have := ih h
      simp only [List.filter_cons]
      cases hx : q x with
      | true => simp [hqp x hx, this]
      | false =>
        cases p x with
        | true => simp; omega
        | false => simpa using this

/-- How many have not come up. -/
def toCome (ops : Array Oper) (listed : Array Bool) : Nat := ((List.range ops.size).filter fun i => !listed.getD i true).length

theorem toCome_lt {listed : Array Bool} {i : Nat} (h : i ∈ Region.ready md ops listed) : toCome ops (listed.setIfInBounds i true) < toCome ops listed := by
  obtain ⟨h0, o, ho, _⟩ := mem_ready.1 h
  have hi : i < ops.size := (Array.getElem?_eq_some_iff.1 ho).1
  refine filter_lt _ _ ?_ i ?_ ?_ _ (List.mem_range.2 hi)
  · intro j hj
    by_cases e : i = j
    · subst e; simp [h0]
    · rw [getD_set_ne true e] at hj; exact hj
  · simp [h0]
  · by_cases hs : i < listed.size
    · simp [hs]
    · simp [Array.getElem?_eq_none (Nat.le_of_not_lt hs)] at h0

theorem ready_nil_of_toCome {listed : Array Bool} (h : toCome ops listed = 0) : Region.ready md ops listed = [] := by
  apply List.eq_nil_iff_forall_not_mem.2
  intro i hi
  have := toCome_lt hi
  omega

/-- An invariant that each operation hands on, in whatever order. -/
theorem wpAny_inv (I : Array Bool → Act → World → Prop)
    (hstep : ∀ listed a w i, I listed a w → i ∈ Region.ready md ops listed → wpOp P ops Q i (fun a' w' => I (listed.setIfInBounds i true) a' w') a w)
    (hend : ∀ listed a w, I listed a w → Region.ready md ops listed = [] → Q .normal a w) :
    ∀ fuel listed a w, toCome ops listed ≤ fuel → I listed a w → wpAny P md ops Q fuel listed a w := by
  intro fuel
  induction fuel with
  | zero => intro listed a w h hI; exact ⟨ready_nil_of_toCome (by omega), hend _ _ _ hI (ready_nil_of_toCome (by omega))⟩
  | succ fuel ih =>
    intro listed a w h hI
    refine ⟨fun hr => hend _ _ _ hI hr, fun i hi => wpOp_mono (fun a' w' h' => ih _ a' w' ?_ h') (hstep _ _ _ _ hI hi)⟩
    have := toCome_lt hi
    omega

/-- The slot that operation i writes. -/
def slotOf (ops : Array Oper) (a : Act) (i : Nat) : Value := a.tmps.getD (((ops[i]?).bind (·.dst)).getD 0) undef

theorem slot_put_same {a : Act} {i : Nat} {o : Oper} {d : Nat} {v : Value} (ho : ops[i]? = some o) (hd : o.dst = some d) (hlt : d < a.tmps.size) :
    slotOf ops (a.put o.dst v) i = v := by
  simp [slotOf, ho, hd, Act.put, hlt]

theorem slot_put_other {a : Act} {i : Nat} {o' : Oper} {d d' : Nat} {v : Value} (ho' : ops[i]? = some o') (hd' : o'.dst = some d') (hne : d ≠ d') :
    slotOf ops (a.put (some d) v) i = slotOf ops a i := by
  simp [slotOf, ho', hd', Act.put, Array.getElem?_setIfInBounds_ne hne]

/-- Those that an operation waits for, whatever the order. -/
def preds (o : Oper) : List Nat := (o.after.toList.filter (Region.binds .any)).map (·.on)
theorem preds_spec {o : Oper} {j : Nat} (h : (preds o).contains j = true) : ∃ e, (e ∈ o.after ∧ Region.binds .any e = true) ∧ e.on = j := by
  have h1 : j ∈ preds o := by simpa using h
  obtain ⟨e, he, rfl⟩ := List.mem_map.1 h1
  obtain ⟨h2, h3⟩ := List.mem_filter.1 he
  exact ⟨e, ⟨by simpa using h2, h3⟩, rfl⟩

section
variable {o : Oper} {a : Act} {w : World} {K : Act → World → Prop} {dst : Option Tmp} {ty : TypeId} {pos : String} {af : Array Edge} {gd : Option (Nat × Bool)}

theorem op_move {x : Operand} (h : K (a.put dst (a.eval x)) w) : Oper.wp P ⟨dst, .move x, ty, pos, af, gd⟩ a w K Q := h
theorem op_assign {x : Operand} (h : K (a.put dst (a.eval x)) w) : Oper.wp P ⟨dst, .assign x, ty, pos, af, gd⟩ a w K Q := h
theorem op_load {t : TypeId} {x : Operand} {p v : Value} (hx : a.eval x = p) (hr : (Instr.loadAt t p).run P w = .ok v w) (h : K (a.put dst v) w) : Oper.wp P ⟨dst, .load t x, ty, pos, af, gd⟩ a w K Q := by
  unfold Oper.wp
  simp [execOp, hx, hr, Oper.upon, h]
end

end
end Go.Proofs.YtegmckpcchhmdaaDoor

namespace Go.Proofs.YtegmckpcchhmdaaDoor
open Go Go.RowKit

section
variable {Q : Exit → Act → World → Prop} {a a0 : Act} {w w0 : World} {dst : Option Tmp} {ty : TypeId} {pos : String} {af : Array Edge} {gd : Option (Nat × Bool)}

/-- A call of this function enters it. -/
structure Enters (P : Program) (f : FuncId) : Prop where
  run : ∀ (xs : Array Value) (w : World), (callFunc f xs).run P w = .ok (.enter f xs) w
theorem op_call {P : Program} {K : Act → World → Prop} {f : FuncId} {args : Array Operand} {tys : Array TypeId}
    (hf : Enters P f)
    (hc : Calls P f (args.map a.eval) w fun e w' => ∃ v, e = .returned v ∧ K (a.put dst v) w') :
    Oper.wp P ⟨dst, .call ⟨.value (.func f), args, tys⟩, ty, pos, af, gd⟩ a w K Q := by
  unfold Oper.wp
  simp [go_sem]
  rw [hf.run]
  refine Calls.mono hc ?_
  rintro e w' ⟨v, rfl, h⟩
  exact h
theorem args2 {s t : Nat} : (#[Operand.tmp s, .tmp t]).map a.eval = #[a.tmps.getD s undef, a.tmps.getD t undef] := by simp only [List.map_toArray, List.map_cons, List.map_nil, Act.eval]
variable {tys : Array TypeId} {s t : Nat} {y z : Int} {j k : Nat}
/-- An operation that is wanted. -/
theorem st_want {P : Program} {ops : Array Oper} {o : Oper} {X : Act → World → Prop} {Y : Prop} (hw : Region.wanted o (yielded ops a.tmps) = true) (h : o.wp P a w X Q) : if Region.wanted o (yielded ops a.tmps) then o.wp P a w X Q else Y := by
  rw [if_pos hw]; exact h
end

end Go.Proofs.YtegmckpcchhmdaaDoor

namespace Go.Proofs.YtegmckpcchhmdaaDoor
open Go Go.RowKit

section
variable {P : Program} {Q : Exit → Act → World → Prop}

end
end Go.Proofs.YtegmckpcchhmdaaDoor

namespace Go.Proofs.YtegmckpcchhmdaaDoor
open Go Go.RowKit

end Go.Proofs.YtegmckpcchhmdaaDoor

namespace Go.Proofs.YtegmckpcchhmdaaDoor
open Go Go.RowKit

theorem op_fieldAddr {P : Program} {Q : Exit → Act → World → Prop} {K : Act → World → Prop} {a : Act} {w : World} {dst : Option Tmp} {ty : TypeId} {pos : String} {af : Array Edge} {gd : Option (Nat × Bool)} {x : Operand} {vx v : Value} {t : TypeId} {f : Nat}
    (hx : a.eval x = vx) (hr : (Instr.fieldAt t vx f).run P w = .ok v w) (h : K (a.put dst v) w) : Oper.wp P ⟨dst, .fieldAddr t x f, ty, pos, af, gd⟩ a w K Q := by
  unfold Oper.wp
  simp [execOp, hx, hr, Oper.upon, h]

end Go.Proofs.YtegmckpcchhmdaaDoor

namespace Go.Proofs.YtegmckpcchhmdaaDoor.T4

end Go.Proofs.YtegmckpcchhmdaaDoor.T4

namespace Go.Proofs.YtegmckpcchhmdaaDoor.T4
open Go.RowKit
end Go.Proofs.YtegmckpcchhmdaaDoor.T4

namespace Go.Proofs.YtegmckpcchhmdaaDoor
open Go Go.RowKit

section
variable {P : Program} {Q : Exit → Act → World → Prop}
/-- Each operation waits only for such as stand ahead of it, and writes, if any, a slot of its own, below N. -/
def fitF (N : Nat) : Nat → List Nat → List Oper → Bool
  | _, _, [] => true
  | i, ds, o :: l => (o.after.toList.all fun e => !Region.binds .any e || decide (e.on < i)) && (match o.dst with | some d => !ds.contains d && decide (d < N) && fitF N (i + 1) (d :: ds) l | none => fitF N (i + 1) ds l)

theorem fitF_spec {N : Nat} : ∀ (l : List Oper) (i : Nat) (ds : List Nat), fitF N i ds l = true →
    ∀ j o, l[j]? = some o → (∀ e ∈ o.after, Region.binds .any e = true → e.on < i + j) ∧ ∀ d : Nat, o.dst = some d → d ∉ ds ∧ d < N ∧ ∀ k o', k < j → l[k]? = some o' → o'.dst ≠ some d
  | [], _, _, _, j, o, h => by simp at h
  | x :: l, i, ds, hg, j, o, h => by
    simp only [fitF, Bool.and_eq_true] at hg
    obtain ⟨hon, hd⟩ := hg
    cases hx : x.dst with
    | none =>
      simp only [hx] at hd
      cases j with
      | zero =>
        simp at h
        subst h
        refine ⟨fun e he hb => ?_, fun d hd' => by rw [hx] at hd'; cases hd'⟩
        have := List.all_eq_true.1 hon e (by simpa using he)
        simpa [hb] using this
      | succ j =>
        have h' : l[j]? = some o := by simpa using h
        obtain ⟨h1, h2⟩ := fitF_spec l (i + 1) ds hd j o h'
        refine ⟨fun e he hb => by have := h1 e he hb; omega, fun d hd' => ?_⟩
        obtain ⟨h3, h4, h5⟩ := h2 d hd'
        refine ⟨h3, h4, fun k o' hk ho' => ?_⟩
        cases k with
        | zero => simp at ho'; subst ho'; rw [hx]; simp
        | succ k => exact h5 k o' (by omega) (by simpa using ho')
    | some d0 =>
      simp only [hx, Bool.and_eq_true, decide_eq_true_eq] at hd
      obtain ⟨⟨hB, hN⟩, hr⟩ := hd
      have hB' : d0 ∉ ds := by simpa using hB
      cases j with
      | zero =>
        simp at h
        subst h
        refine ⟨fun e he hb => ?_, fun d hd' => ?_⟩
        · have := List.all_eq_true.1 hon e (by simpa using he)
          simpa [hb] using this
        · rw [hx] at hd'
          have e0 : d0 = d := Option.some.inj hd'
          subst e0
          exact ⟨hB', hN, fun k _ hk => absurd hk (by omega)⟩
      | succ j =>
        have h' : l[j]? = some o := by simpa using h
        obtain ⟨h1, h2⟩ := fitF_spec l (i + 1) (d0 :: ds) hr j o h'
        refine ⟨fun e he hb => by have := h1 e he hb; omega, fun d hd' => ?_⟩
        obtain ⟨h3, h4, h5⟩ := h2 d hd'
        refine ⟨fun hm => h3 (List.mem_cons_of_mem _ hm), h4, fun k o' hk ho' => ?_⟩
        cases k with
        | zero =>
          simp at ho'; subst ho'; rw [hx]
          intro e
          have e0 : d0 = d := Option.some.inj e
          exact h3 (e0 ▸ List.mem_cons_self)
        | succ k => exact h5 k o' (by omega) (by simpa using ho')

/-- Whatever order is picked: specs of the slots, and an invariant of what has come up, the frame and the world. -/
theorem stepsF {l : List Oper} {a0 : Act} {w0 : World} (N : Nat) (kept : List Nat) (Φ : Nat → Value → Prop) (J : Array Bool → Act → World → Prop)
    (hg : fitF N 0 kept l = true) (hN : a0.tmps.size = N) (h0 : J (Array.replicate l.length false) a0 w0)
    (hstep : ∀ i o, l[i]? = some o → ∀ (listed : Array Bool) (a : Act) (w : World), listed.size = l.length → listed.getD i true = false →
      (∀ j o', l[j]? = some o' → listed.getD j false = true → ∀ k, (preds o').contains k = true → listed.getD k false = true) →
      a.defers = a0.defers → a.tmps.size = N → (∀ k, k ∈ kept → a.tmps[k]? = a0.tmps[k]?) →
      (∀ j, (preds o).contains j = true → listed.getD j false = true ∧ Φ j (slotOf l.toArray a j)) → J listed a w →
      if Region.wanted o (yielded l.toArray a.tmps) then o.wp P a w (fun a' w' => ∃ v, a' = a.put o.dst v ∧ (o.dst.isSome = true → Φ i v) ∧ J (listed.setIfInBounds i true) a' w') Q
      else (o.dst.isSome = true → Φ i undef) ∧ J (listed.setIfInBounds i true) (a.put o.dst undef) w)
    (hsome : ∀ i o, l[i]? = some o → o.dst = none → ∀ v, Φ i v)
    (hend : ∀ (listed : Array Bool) (a : Act) (w : World), listed.size = l.length → (∀ i, i < l.length → listed.getD i false = true) → a.defers = a0.defers → a.tmps.size = N → (∀ k, k ∈ kept → a.tmps[k]? = a0.tmps[k]?) → (∀ i, i < l.length → Φ i (slotOf l.toArray a i)) → J listed a w → Q .normal a w) :
    wpAny P .any l.toArray Q l.toArray.size (Array.replicate l.toArray.size false) a0 w0 := by
  let I : Array Bool → Act → World → Prop := fun listed a w => listed.size = l.length ∧ (∀ j o', l[j]? = some o' → listed.getD j false = true → ∀ k, (preds o').contains k = true → listed.getD k false = true) ∧
    a.defers = a0.defers ∧ a.tmps.size = N ∧ (∀ k, k ∈ kept → a.tmps[k]? = a0.tmps[k]?) ∧ (∀ i, listed.getD i false = true → Φ i (slotOf l.toArray a i)) ∧ J listed a w
  have hspec := fitF_spec l 0 kept hg
  refine wpAny_inv (md := .any) I ?_ ?_ _ _ _ _ ?_ ?_
  · rintro listed a w i ⟨hsz, hdown, hdf, hn, hbase, hΦ, hJ⟩ hr
    obtain ⟨hun, o, ho, hpre⟩ := mem_ready.1 hr
    have hol : l[i]? = some o := by simpa using ho
    have hilt : i < l.length := (List.getElem?_eq_some_iff.1 hol).1
    have hpre' : ∀ j, (preds o).contains j = true → listed.getD j false = true := fun j hj => by
      obtain ⟨e, he, rfl⟩ := preds_spec hj
      exact hpre e he.1 he.2
    have hs := hstep i o hol listed a w hsz hun hdown hdf hn hbase (fun j hj => ⟨hpre' j hj, hΦ j (hpre' j hj)⟩) hJ
    have hdown' : ∀ j o', l[j]? = some o' → (listed.setIfInBounds i true).getD j false = true → ∀ k, (preds o').contains k = true → (listed.setIfInBounds i true).getD k false = true := by
      intro j o' ho' hj k hk
      by_cases e : i = j
      · subst e
        rw [hol] at ho'
        cases ho'
        exact getD_set_true (hpre' k hk)
      · rw [getD_set_ne false e] at hj
        exact getD_set_true (hdown j o' ho' hj k hk)
    have keep : ∀ w' v, (o.dst.isSome = true → Φ i v) → J (listed.setIfInBounds i true) (a.put o.dst v) w' → I (listed.setIfInBounds i true) (a.put o.dst v) w' := by
      intro w' v hv hJ'
      refine ⟨by simpa using hsz, hdown', ?_, ?_, ?_, ?_, hJ'⟩
      · cases hd : o.dst <;> simpa [Act.put] using hdf
      · cases hd : o.dst <;> simpa [Act.put] using hn
      · intro k hk
        cases hd : o.dst with
        | none => exact hbase k hk
        | some d =>
          simp only [Act.put]
          rw [Array.getElem?_setIfInBounds_ne (fun (e : d = k) => ((hspec i o hol).2 d hd).1 (e.symm ▸ hk))]
          exact hbase k hk
      · intro j hj
        by_cases e : i = j
        · subst e
          cases hd : o.dst with
          | none => exact hsome i o hol hd _
          | some d =>
            rw [← hd, slot_put_same ho hd (by have := ((hspec i o hol).2 d hd).2.1; omega)]
            exact hv (by simp [hd])
        · rw [getD_set_ne false e] at hj
          have hj' := hΦ j hj
          have hjlt : j < l.length := by
            rcases Nat.lt_or_ge j listed.size with h | h
            · omega
            · simp [Array.getElem?_eq_none h] at hj
          have hoj : l[j]? = some l[j] := List.getElem?_eq_getElem hjlt
          have hoj' : l.toArray[j]? = some l[j] := by simp [hjlt]
          cases hd : o.dst with
          | none => exact hj'
          | some d =>
            cases hd' : (l[j]).dst with
            | none => exact hsome j _ hoj hd' _
            | some d' =>
              have hne : d ≠ d' := by
                intro ee
                subst ee
                rcases Nat.lt_or_gt_of_ne e with h | h
                · exact ((hspec j _ hoj).2 d hd').2.2 i o h hol hd
                · exact ((hspec i _ hol).2 d hd).2.2 j _ h hoj hd'
              rw [slot_put_other hoj' hd' hne]
              exact hj'
    unfold wpOp
    simp only [ho]
    split
    · rename_i hw
      simp only [hw, if_true] at hs
      refine .inl (Oper.wp_mono ?_ hs)
      rintro a' w' ⟨v, rfl, hv, hJ'⟩
      exact keep w' v hv hJ'
    · rename_i hw
      simp only [hw] at hs
      exact keep w undef hs.1 hs.2
  · rintro listed a w ⟨hsz, hdown, hdf, hn, hbase, hΦ, hJ⟩ hr
    have hall : ∀ i, i < l.length → listed.getD i false = true := by
      intro i
      induction i using Nat.strongRecOn with
      | ind i ih =>
        intro hi
        cases hl : listed.getD i true with
        | true =>
          have : i < listed.size := by omega
          simpa [this] using hl
        | false =>
          exfalso
          have hoi : l[i]? = some l[i] := List.getElem?_eq_getElem hi
          have : i ∈ Region.ready .any l.toArray listed := by
            refine mem_ready.2 ⟨hl, l[i], by simp [hi], fun e he hb => ?_⟩
            have := (hspec i _ hoi).1 e he hb
            exact ih e.on (by omega) (by omega)
          rw [hr] at this
          cases this
    exact hend listed a w hsz hall hdf hn hbase (fun i hi => hΦ i (hall i hi)) hJ
  · unfold toCome
    exact Nat.le_trans (List.length_filter_le _ _) (by simp)
  · have hf : ∀ i, (Array.replicate l.toArray.size false).getD i false = true → False := by
      intro i hi
      rcases Nat.lt_or_ge i l.length with h | h
      · simp [h] at hi
      · simp [h] at hi
    exact ⟨by simp, fun j _ _ hj => (hf j hj).elim, rfl, hN, fun _ _ => rfl, fun i hi => (hf i hi).elim, by simpa using h0⟩
end

end Go.Proofs.YtegmckpcchhmdaaDoor

namespace Go.Proofs.YtegmckpcchhmdaaDoor
open Go Go.RowKit

/-- w' is w but for one block. -/
structure PutAt (r : Nat) (w w' : World) : Prop where
  os : w'.os = w.os
  tape : w'.tape = w.tape
  output : w'.output = w.output
  size : w'.heap.size = w.heap.size
  block : ∀ k, k ≠ r → w'.heap[k]? = w.heap[k]?
theorem PutAt.below {r B : Nat} {w0 w w' : World} (h : PutAt r w w') (hb : Below B w0 w) (hr : B ≤ r) : Below B w0 w' :=
  ⟨h.os.trans hb.os, h.tape.trans hb.tape, h.output.trans hb.output, by rw [h.size]; exact hb.size, fun k hk => (h.block k (by omega)).trans (hb.block k hk)⟩

/-- The kinds of boxes, by types. -/
structure Kinds where
  K : TypeId → World → Nat → Prop
  loc : ∀ t w w' r, w'.heap[r]? = w.heap[r]? → K t w r → K t w' r
  lt : ∀ t w r, K t w r → r < w.heap.size
  inj : ∀ t t' w r, K t w r → K t' w r → t = t'
  Z : World → Nat → Prop
/-- What is said of a slot: it stands when memory grows, and when a box is filled. -/
structure Sx (κ : Kinds) where
  ok : World → Value → Prop
  mono : ∀ w w' v, ok w v → Below w.heap.size w w' → ok w' v
  put : ∀ t w w' v r, ok w v → κ.K t w r → κ.Z w r → PutAt r w w' → κ.K t w' r → ok w' v
def Sx.any (κ : Kinds) : Sx κ := ⟨fun _ _ => True, fun _ _ _ h _ => h, fun _ _ _ _ _ h _ _ _ _ => h⟩
/-- A store: its number, the slot of its pointer, what the box then holds. -/
structure St (κ : Kinds) where
  op : Nat
  pt : Nat
  H : World → Nat → Value → Prop
  S : Sx κ
  loc : ∀ w w' r v, w'.heap[r]? = w.heap[r]? → H w r v → H w' r v
  lt : ∀ w r v, H w r v → r < w.heap.size
  ob : Nat := 0
  O : World → Prop := fun _ => True
  om : ∀ w w', O w → Below w.heap.size w w' → O w' := by exact fun _ _ h _ => h
  oput : ∀ t w w' r, O w → κ.K t w r → κ.Z w r → PutAt r w w' → κ.K t w' r → r ≠ ob → O w' := by exact fun _ _ _ _ h _ _ _ _ _ => h
  F : World → Nat → Prop := fun _ _ => True
  floc : ∀ w w' r, w'.heap[r]? = w.heap[r]? → F w r → F w' r := by exact fun _ _ _ _ _ => trivial

end Go.Proofs.YtegmckpcchhmdaaDoor

namespace Go.Proofs.YtegmckpcchhmdaaDoor
open Go Go.RowKit

end Go.Proofs.YtegmckpcchhmdaaDoor

namespace Go.Proofs.YtegmckpcchhmdaaDoor
open Go Go.RowKit

theorem getD_of {a : Act} {k : Nat} {v : Value} (h : a.tmps[k]? = some v) : a.tmps.getD k undef = v := by simp [Array.getD_eq_getD_getElem?, h]
section
variable {Q : Exit → Act → World → Prop} {a : Act} {w : World} {ty : TypeId} {pos : String} {af : Array Edge} {gd : Option (Nat × Bool)} {dst : Option Tmp} {K : Act → World → Prop}
theorem op_extractA {s i : Nat} {p q v : Value} (hs : a.tmps.getD s undef = .tuple #[p, q]) (hi : (#[p, q] : Array Value)[i]? = some v) (h : K (a.put dst v) w) : Oper.wp Tryd.prog ⟨dst, .extract (.tmp s) i, ty, pos, af, gd⟩ a w K Q := by
  have hs' : a.eval (.tmp s) = .tuple #[p, q] := hs
  unfold Oper.wp
  simp only [execOp, hs']
  simp [go_sem, hi, Oper.upon]
  exact h
end

end Go.Proofs.YtegmckpcchhmdaaDoor

namespace Go.Proofs.YtegmckpcchhmdaaDoor
open Go Go.RowKit

theorem nq {n m : Nat} (h : Nat.beq n m = false) : n ≠ m := Nat.ne_of_beq_eq_false h
/-- What is said besides of an operation that makes a box. -/
def Fin {κ : Kinds} (ptrs : List (Nat × Option Nat)) (sts : List (St κ)) (i : Nat) (w w' : World) (v : Value) : Prop := (∃ x ∈ ptrs, x.2 = some i) → v = .pointer (some ⟨w.heap.size, 0, none⟩) ∧ ∀ s ∈ sts, s.F w' w.heap.size
theorem fin0 {κ : Kinds} {ptrs : List (Nat × Option Nat)} {sts : List (St κ)} {i : Nat} {w w' : World} {v : Value} (h : (ptrs.all fun x => x.2 != some i) = true) : Fin ptrs sts i w w' v := fun ⟨x, hx, e⟩ => by
  have := List.all_eq_true.1 h x hx
  simp [e] at this
theorem gf {κ : Kinds} {ptrs : List (Nat × Option Nat)} {sts : List (St κ)} {i : Nat} {w : World} (h : (ptrs.all fun x => x.2 != some i) = true) : ∀ w' v, Fin ptrs sts i w w' v := fun _ _ => fin0 h
section
variable {κ : Kinds} {Q : Exit → Act → World → Prop} {a : Act} {w : World} {ty : TypeId} {pos : String} {af : Array Edge} {gd : Option (Nat × Bool)} {dst : Option Tmp} {Y : Prop} {ops : Array Oper} {S : Sx κ} {G : World → Value → Prop}
end
end Go.Proofs.YtegmckpcchhmdaaDoor

namespace Go.Proofs.YtegmckpcchhmdaaDoor
open Go Go.RowKit

/-- What the walk is not to look at. -/
def Hid (p : Prop) : Prop := p
theorem hide {p : Prop} (h : p) : Hid p := h
theorem unhide {p : Prop} (h : Hid p) : p := h
/-- A term, as a tree. -/
structure Tm where
  op : Int
  name : ByteArray
  sort : Int
  num : ByteArray
  l : List Tm
  vars : List (ByteArray × Int)
  pat : List Tm
def fits (x : Int) : Prop := -9223372036854775808 ≤ x ∧ x ≤ 9223372036854775807
/-- The cells of a term whose lists are these. -/
def tcells (t : Tm) (aL aV aP : Option Addr) (cL cV cP : Nat) : List Value := [.int .i64 t.op, .string t.name, .int .i64 t.sort, .string t.num, .slice aL t.l.length cL, .slice aV t.vars.length cV, .slice aP t.pat.length cP]
/-- So many elements of k cells each, where a slice says, in memory below B: each bears what is asked of it. -/
def Row (B : Nat) (a : Option Addr) (n cap k : Nat) (p : Nat → Nat → Nat → Prop) : Prop := n ≤ cap ∧ n ≤ 281474976710656 ∧ (n ≠ 0 → ∃ b off, a = some ⟨b, off, none⟩ ∧ b < B ∧ ∀ j, j < n → p b (off + j * k) j)
/-- A block of cells that bears no mark. -/
def Clear (w : World) (b : Nat) : Prop := ∃ cs ty, w.heap[b]? = some (.cells cs ty)
theorem Clear.below {w w' : World} {b B : Nat} (h : Clear w b) (hb : b < B) (hw : Below B w w') : Clear w' b := by
  obtain ⟨cs, ty, h⟩ := h
  exact ⟨cs, ty, by rw [hw.block b hb]; exact h⟩
/-- A term lies in memory below B at block b from cell o on, no deeper than d. -/
def TmAt (w : World) (B : Nat) : Nat → Nat → Nat → Tm → Prop
  | 0, _, _, _ => False
  | d + 1, b, o, t => b < B ∧ fits t.op ∧ fits t.sort ∧ ∃ aL aV aP cL cV cP, w.rangeAt b o (tcells t aL aV aP cL cV cP)
      ∧ Row B aL t.l.length cL 7 (fun b o j => ∀ u, t.l[j]? = some u → TmAt w B d b o u)
      ∧ Row B aV t.vars.length cV 2 (fun b o j => ∀ u, t.vars[j]? = some u → w.rangeAt b o [.string u.1, .int .i64 u.2] ∧ fits u.2)
      ∧ Row B aP t.pat.length cP 7 (fun b o j => ∀ u, t.pat[j]? = some u → TmAt w B d b o u)
      ∧ True
/-- A term as a value. -/
def IsT (w : World) (B d : Nat) (v : Value) (t : Tm) : Prop := fits t.op ∧ fits t.sort ∧ ∃ aL aV aP cL cV cP, v = .agg (tcells t aL aV aP cL cV cP).toArray
      ∧ Row B aL t.l.length cL 7 (fun b o j => ∀ u, t.l[j]? = some u → TmAt w B d b o u)
      ∧ Row B aV t.vars.length cV 2 (fun b o j => ∀ u, t.vars[j]? = some u → w.rangeAt b o [.string u.1, .int .i64 u.2] ∧ fits u.2)
      ∧ Row B aP t.pat.length cP 7 (fun b o j => ∀ u, t.pat[j]? = some u → TmAt w B d b o u)
theorem Row.mono {B B' n cap k : Nat} {a : Option Addr} {p q : Nat → Nat → Nat → Prop} (h : Row B a n cap k p) (hB : B ≤ B') (hp : ∀ b o j, b < B → p b o j → q b o j) : Row B' a n cap k q := by
  refine ⟨h.1, h.2.1, fun hn => ?_⟩
  obtain ⟨b, off, e, hb, hj⟩ := h.2.2 hn
  exact ⟨b, off, e, by omega, fun j h => hp _ _ _ hb (hj j h)⟩
theorem rangeAt_below {B : Nat} {w w' : World} {b o : Nat} {cs : List Value} (h : w.rangeAt b o cs) (hb : b < B) (hw : Below B w w') : w'.rangeAt b o cs := by
  intro j v hv
  rw [hw.cell (p := ⟨b, o + j, none⟩) hb]
  exact h j v hv
/-- Memory that grows leaves terms alone; and a term lies below more, and is no deeper than more. -/
theorem TmAt.more {B B' d' : Nat} {w w' : World} (hw : Below B w w') (hB : B ≤ B') : ∀ {d b o : Nat} {t : Tm}, d ≤ d' → TmAt w B d b o t → TmAt w' B' d' b o t := by
  induction d' with
  | zero =>
    intro d b o t hd h
    obtain rfl : d = 0 := by omega
    exact h.elim
  | succ d' ih =>
    intro d b o t hd h
    cases d with
    | zero => exact h.elim
    | succ d =>
      obtain ⟨hb, h1, h2, aL, aV, aP, cL, cV, cP, hr, hL, hV, hP, hPl⟩ := h
      refine ⟨by omega, h1, h2, aL, aV, aP, cL, cV, cP, rangeAt_below hr hb hw, ?_, ?_, ?_, hPl⟩
      · exact hL.mono hB fun b o j hb h u hu => ih (by omega) (h u hu)
      · exact hV.mono hB fun b o j hb h u hu => ⟨rangeAt_below (h u hu).1 hb hw, (h u hu).2⟩
      · exact hP.mono hB fun b o j hb h u hu => ih (by omega) (h u hu)
theorem IsT.more {B B' d d' : Nat} {w w' : World} {v : Value} {t : Tm} (h : IsT w B d v t) (hw : Below B w w') (hB : B ≤ B') (hd : d ≤ d') : IsT w' B' d' v t := by
  obtain ⟨h1, h2, aL, aV, aP, cL, cV, cP, hr, hL, hV, hP⟩ := h
  refine ⟨h1, h2, aL, aV, aP, cL, cV, cP, hr, ?_, ?_, ?_⟩
  · exact hL.mono hB fun b o j hb h u hu => (h u hu).more hw hB hd
  · exact hV.mono hB fun b o j hb h u hu => ⟨rangeAt_below (h u hu).1 hb hw, (h u hu).2⟩
  · exact hP.mono hB fun b o j hb h u hu => (h u hu).more hw hB hd
set_option maxRecDepth 100000 in
theorem TmAt.load {w : World} {B d b o : Nat} {t : Tm} (h : TmAt w B (d + 1) b o t) : ∃ v, (Instr.loadAt 25 (.pointer (some ⟨b, o, none⟩))).run Tryd.prog w = .ok v w ∧ IsT w B d v t := by
  obtain ⟨hb, h1, h2, aL, aV, aP, cL, cV, cP, hr, hL, hV, hP, _⟩ := h
  exact ⟨_, run_loadAt_mid (P := Tryd.prog) w b o 25 _ _ hr rfl rfl rfl, h1, h2, aL, aV, aP, cL, cV, cP, rfl, hL, hV, hP⟩
/-- A result that lies in memory, handed back by value. -/
theorem res_row {P : Program} {W : World} {fn : Func} {tmps : Array Value} {t b o : Nat} {ty : TypeId} {cs : List Value} {d : TypeDesc} (hf : fn.results = #[.cell t ty]) (ht : tmps[t]? = some (.pointer (some ⟨b, o, none⟩))) (hr : W.rangeAt b o cs)
    (hu : P.underlying ty = some d) (hd : d.isRow = true) (hi : (P.info? ty).map (·.size) = some cs.length) : (results fn tmps).run P W = .ok (.agg cs.toArray) W := by
  have h := run_loadVar_mid (P := P) W b o ty cs d hr hu hd hi
  simp [go_sem] at h
  simp [results, hf, ht, go_sem, h]
/-- A new block. -/
theorem box_new (w : World) (cs : Array Value) (ty : TypeId) : ∃ w0, w.alloc (.cells cs ty) = w0 ∧ Below w.heap.size w w0 ∧ w0.heap.size = w.heap.size + 1 ∧ (∀ (j : Nat) v, cs[j]? = some v → w0.cell? ⟨w.heap.size, j, none⟩ = some v) ∧ w0.heap[w.heap.size]? = some (.cells cs ty) := by
  have h := (MapKept.heap_alloc w (.cells cs ty)).1
  refine ⟨_, rfl, (Below.refl _ w).alloc (Nat.le_refl _) _, by simp, fun j v hv => ?_, h⟩
  simp only [World.cell?, h, hv]
  rfl
theorem clear_new (w : World) (cs : Array Value) (ty : TypeId) : Clear (w.alloc (.cells cs ty)) w.heap.size := by
  obtain ⟨w0, e, _, _, _, h⟩ := box_new w cs ty
  rw [e]
  exact ⟨cs, ty, h⟩
theorem range_new (w : World) (cs : List Value) (ty : TypeId) : (w.alloc (.cells cs.toArray ty)).rangeAt w.heap.size 0 cs := by
  intro j v hv
  have h := (MapKept.heap_alloc w (.cells cs.toArray ty)).1
  have hv' : cs.toArray[0 + j]? = some v := by simpa using hv
  simp only [World.cell?, h, hv']
  rfl
/-- All that was there stands, one block aside. -/
structure But (r : Nat) (w w' : World) : Prop where
  os : w'.os = w.os
  tape : w'.tape = w.tape
  output : w'.output = w.output
  size : w.heap.size ≤ w'.heap.size
  block : ∀ k, k < w.heap.size → k ≠ r → w'.heap[k]? = w.heap[k]?
theorem But.refl (r : Nat) (w : World) : But r w w := ⟨rfl, rfl, rfl, Nat.le_refl _, fun _ _ _ => rfl⟩
theorem But.trans {r : Nat} {a b c : World} (h : But r a b) (k : But r b c) : But r a c :=
  ⟨k.os.trans h.os, k.tape.trans h.tape, k.output.trans h.output, Nat.le_trans h.size k.size, fun j hj hr => (k.block j (Nat.lt_of_lt_of_le hj h.size) hr).trans (h.block j hj hr)⟩
theorem But.of {r B : Nat} {w w' : World} (h : Below B w w') (hB : w.heap.size ≤ B) : But r w w' := ⟨h.os, h.tape, h.output, h.size, fun k hk _ => h.block k (Nat.lt_of_lt_of_le hk hB)⟩
theorem But.below {r B : Nat} {w w' : World} (h : But r w w') (hB : B ≤ r) (hs : B ≤ w.heap.size) : Below B w w' := ⟨h.os, h.tape, h.output, h.size, fun k hk => h.block k (by omega) (by omega)⟩
theorem But.cell {r : Nat} {w w' : World} (h : But r w w') {p : Addr} (hp : p.block < w.heap.size) (hr : p.block ≠ r) : w'.cell? p = w.cell? p := World.cell?_of_block (w := w) (h.block p.block hp hr)
theorem But.frozen {r : Nat} {w w' : World} (h : But r w w') {p : Addr} (hp : p.block < w.heap.size) (hr : p.block ≠ r) : w'.frozen? p = w.frozen? p := World.frozen?_of_block (w := w) (h.block p.block hp hr)
theorem But.alloc {r : Nat} {a w : World} (h : But r a w) (o : Obj) : But r a (w.alloc o) :=
  h.trans (But.of ((Below.refl w.heap.size w).alloc (Nat.le_refl _) o) (Nat.le_refl _))
theorem But.setCell {r : Nat} {a w : World} (h : But r a w) {p : Addr} (hp : p.block = r ∨ a.heap.size ≤ p.block) (u : Value) : But r a (w.setCell p u) := by
  refine ⟨h.os, h.tape, h.output, by simpa using h.size, fun k hk hr => ?_⟩
  rw [Below.heap_setCell w p u k (by rcases hp with rfl | hp <;> omega)]
  exact h.block k hk hr
theorem Row.below {w w' : World} {B d n cap : Nat} {a : Option Addr} {l : List Tm} (h : Row B a n cap 7 (fun b o j => ∀ u, l[j]? = some u → TmAt w B d b o u)) (hw : Below B w w') : Row B a n cap 7 (fun b o j => ∀ u, l[j]? = some u → TmAt w' B d b o u) :=
  h.mono (Nat.le_refl _) fun b o j hb h u hu => (h u hu).more hw (Nat.le_refl _) (Nat.le_refl _)
end Go.Proofs.YtegmckpcchhmdaaDoor
