/- The number of a magnitude and a sign, and back: ofMag, magnitude, clone, Of. -/
import Derived.Test.YtlcfldkmojpkpaaGreatDoorG
namespace Go.Proofs.YtlcfldkmojpkpaaGreatDoor
open Go.RowKit
attribute [local go_sem] eqnil_some eqnil_none nenil_some nenil_none

theorem bcell {W w1 : World} (hb : Below W.heap.size W w1) : (∀ b o, b < W.heap.size → w1.cell? ⟨b, o, none⟩ = W.cell? ⟨b, o, none⟩) ∧ (∀ b o, b < W.heap.size → w1.frozen? ⟨b, o, none⟩ = W.frozen? ⟨b, o, none⟩) :=
  ⟨fun b o h => hb.cell (p := ⟨b, o, none⟩) h, fun b o h => hb.frozen (p := ⟨b, o, none⟩) h⟩

/-- The Go value v of type num.Int is the number z. -/
def IsI (w : World) (v : Value) (z : Int) : Prop :=
  (v = .agg #[.int .i64 z, .slice none 0 0] ∧ -9223372036854775808 ≤ z ∧ z ≤ 9223372036854775807) ∨
  (∃ b off cap xs, v = .agg #[.int .i64 (if z < 0 then -1 else 1), .slice (some ⟨b, off, none⟩) xs.length cap] ∧ xs.length ≤ cap ∧ b < w.heap.size ∧ At w b off xs ∧ Dig xs ∧ Norm xs ∧ val xs = z.natAbs ∧ (z < -9223372036854775808 ∨ 9223372036854775807 < z))
theorem IsI.below {w w' : World} {v : Value} {z : Int} (h : IsI w v z) (hb : Below w.heap.size w w') : IsI w' v z := by
  rcases h with h | ⟨b, off, cap, xs, e, h1, h2, h3, h4, h5, h6, h7⟩
  · exact .inl h
  · exact .inr ⟨b, off, cap, xs, e, h1, Nat.lt_of_lt_of_le h2 hb.size, fun j hj => (hb.cell (p := ⟨b, off + j, none⟩) h2).trans (h3 j hj), h4, h5, h6, h7⟩

set_option maxRecDepth 100000 in
set_option maxHeartbeats 400000 in
theorem smallMag_no (a : Option Addr) (cap : Nat) (xs : List Int) (w : World) (hat : xs ≠ [] → ∃ b off, a = some ⟨b, off, none⟩ ∧ b < w.heap.size ∧ At w b off xs) (hd : Dig xs) (hl : xs.length ≤ 100000) (h : 3 < xs.length ∨ xs.length = 3 ∧ (9 : Int) < xs[2]?.getD 0) :
    Calls Tryz.prog 83 #[.slice a xs.length cap] w fun e w' => e = .returned (.tuple #[.int .u64 0, .bool false]) ∧ Below w.heap.size w w' := by
  rcases h with h | ⟨h3, h9⟩
  · have h3i : (3 : Int) < (xs.length : Int) := by omega
    go_enter Tryz.func83, Tryz.ntmps83
    go_wp2
    go_ret2
    exact ⟨rfl, Below.refl _ _⟩
  · obtain ⟨b0, off0, rfl, hb0, hc0⟩ := hat (by intro e; subst e; simp at h3)
    have h3' : ((xs.length : Int) == 3) = true := by simp; omega
    have hc2 := hc0 2 (by omega)
    obtain ⟨d2, hd2, hd20, hd21⟩ := hd.get 2
    rw [hd2] at hc2 h9
    have H3 := hide h3
    clear h3 hd2
    have h3i : (2 : Int) < (xs.length : Int) := by have := unhide H3; omega
    have h3j : ¬ (3 : Int) < (xs.length : Int) := by have := unhide H3; omega
    have hq : decide ((9 : Int) < d2) = true := by simp; omega
    go_enter Tryz.func83, Tryz.ntmps83
    go_wp2
    go_ret2
    exact ⟨rfl, Below.refl _ _⟩

/-- What smallMag tells of a magnitude. -/
theorem smallMag_any (a : Option Addr) (cap : Nat) (xs : List Int) (w : World) (hat : xs ≠ [] → ∃ b off, a = some ⟨b, off, none⟩ ∧ b < w.heap.size ∧ At w b off xs) (hd : Dig xs) (hn : Norm xs) (hl : xs.length ≤ 100000) :
    (val xs < 10000000000000000000 ∧ Calls Tryz.prog 83 #[.slice a xs.length cap] w fun e w' => e = .returned (.tuple #[.int .u64 (val xs), .bool true]) ∧ Below w.heap.size w w') ∨
    (10000000000000000000 ≤ val xs ∧ Calls Tryz.prog 83 #[.slice a xs.length cap] w fun e w' => e = .returned (.tuple #[.int .u64 0, .bool false]) ∧ Below w.heap.size w w') := by
  by_cases h : 3 < xs.length ∨ xs.length = 3 ∧ (9 : Int) < xs[2]?.getD 0
  · refine .inr ⟨?_, smallMag_no a cap xs w hat hd hl h⟩
    rcases h with h | ⟨h3, h9⟩
    · have h1 := le_val hd hn (by intro e; subst e; simp at h)
      have h2 : pw 3 ≤ pw (xs.length - 1) := pw_mono (by omega)
      have h3 : (10000000000000000000 : Int) ≤ pw 3 := by decide
      omega
    · have h1 := val_take_succ xs 2 (by omega)
      rw [List.take_of_length_le (by omega)] at h1
      have h2 := val_nonneg (hd.take 2)
      have h4 : pw 2 = 1000000000000000000 := by decide
      rw [h4] at h1
      omega
  · have h9 : xs.length = 3 → xs[2]?.getD 0 ≤ 9 := fun e => by
      apply Int.not_lt.1
      intro h9
      exact h (.inr ⟨e, h9⟩)
    have hl3 : xs.length ≤ 3 := by omega
    have hv : val xs < 10000000000000000000 := by
      by_cases e : xs.length = 3
      · have h1 := val_take_succ xs 2 (by omega)
        rw [List.take_of_length_le (by omega)] at h1
        have h2 := val_lt (hd.take 2)
        have h4 : pw 2 = 1000000000000000000 := by decide
        rw [List.length_take, Nat.min_eq_left (by omega)] at h2
        rw [h4] at h1 h2
        have := h9 e
        omega
      · have h1 := val_lt hd
        have h2 : pw xs.length ≤ pw 2 := pw_mono (by omega)
        have h4 : pw 2 = 1000000000000000000 := by decide
        omega
    exact .inl ⟨hv, smallMag_yes a cap xs w hat hd hl3 h9 (by omega)⟩

set_option maxRecDepth 100000 in
set_option maxHeartbeats 800000 in
theorem ofMag_any (below : Bool) (v : Value) (xs : List Int) (w : World) (hm : Mg w v xs) (hd : Dig xs) (hn : Norm xs) (hl : xs.length ≤ 100000) :
    Calls Tryz.prog 58 #[.bool below, v] w fun e w' => ∃ r, e = .returned r ∧ Below w.heap.size w w' ∧ IsI w' r (if below then - val xs else val xs) := by
  obtain ⟨a, cap, rfl, hcap, hat⟩ := hm
  have hv0 := val_nonneg hd
  have hat1 : xs ≠ [] → ∃ b off, a = some ⟨b, off, none⟩ ∧ b < (w.alloc (.cells #[.int .i64 0, .slice none 0 0] 26)).heap.size ∧ At (w.alloc (.cells #[.int .i64 0, .slice none 0 0] 26)) b off xs := fun h => by
    obtain ⟨b, off, e, hb, hc⟩ := hat h
    exact ⟨b, off, e, by simp; omega, fun j hj => by rw [World.cell?_alloc_past _ _ _ hb]; exact hc j hj⟩
  have hb0 : Below w.heap.size w (w.alloc (.cells #[.int .i64 0, .slice none 0 0] 26)) := (Below.refl _ _).alloc (Nat.le_refl _) _
  rcases smallMag_any a cap xs _ hat1 hd hn hl with ⟨hv, hs⟩ | ⟨hv, hs⟩
  · have HS := hide hs
    clear hs
    cases below with
    | true =>
      by_cases hsm : val xs ≤ 9223372036854775808
      · go_enter Tryz.func58, Tryz.ntmps58
        go_wp2_with fail
        refine (unhide HS).mono ?_
        rintro e w1 ⟨rfl, hb1⟩
        obtain ⟨hc, hf⟩ := bcell hb1
        go_wp2_with fail
        refine (signed_yes true (val xs) w1 hv0 (by simp; omega)).mono ?_
        rintro e w2 ⟨rfl, hw2⟩
        subst hw2
        go_wp2_with fail
        refine (of_any _ _).mono ?_
        rintro e w3 ⟨rfl, hb3⟩
        have hz3 : w.heap.size < w2.heap.size := by have := hb1.size; simp at this; omega
        obtain ⟨hc3, hf3⟩ := bcell hb3
        clear hat hat1
        go_wp2
        refine bodyPost_ret (v := .agg #[.int .i64 (- val xs), .slice none 0 0]) ?_ rfl ?_
        · simp [results, Tryz.results58, go_sem, hc, hc3, hz3]
        · exact ⟨_, rfl, (((hb0.trans (hb1.mono (by simp))).trans (hb3.mono (by omega))).setCell (by simp) _).setCell (by simp) _, .inl ⟨rfl, by omega, by omega⟩⟩

      · obtain ⟨b0, off0, rfl, hbl, hc0⟩ := hat (by intro e; subst e; simp [val] at hsm)
        go_enter Tryz.func58, Tryz.ntmps58
        go_wp2_with fail
        refine (unhide HS).mono ?_
        rintro e w1 ⟨rfl, hb1⟩
        obtain ⟨hc, hf⟩ := bcell hb1
        go_wp2_with fail
        refine (signed_no true (val xs) w1 hv0 (by omega) (by simp; omega)).mono ?_
        rintro e w2 ⟨rfl, hw2⟩
        subst hw2
        have hz3 : w.heap.size < w2.heap.size := by have := hb1.size; simp at this; omega
        have hbb := hb0.trans (hb1.mono (B' := w.heap.size) (by simp))
        have hatf : At w2 b0 off0 xs := fun j hj => (hbb.cell (p := ⟨b0, off0 + j, none⟩) hbl).trans (hc0 j hj)
        clear hat hat1
        go_wp2
        refine bodyPost_ret (v := .agg #[.int .i64 (-1), .slice (some ⟨b0, off0, none⟩) xs.length cap]) ?_ rfl ?_
        · simp [results, Tryz.results58, go_sem, hc]
        · have hb9 := ((Below.refl w2.heap.size w2).mono (B' := w.heap.size) (by omega))
          have hbz := ((hbb.setCell (p := ⟨w.heap.size, 0, none⟩) (by simp) (.int .i64 (-1))).setCell (p := ⟨w.heap.size, 1, none⟩) (by simp) (.slice (some ⟨b0, off0, none⟩) xs.length cap))
          refine ⟨_, rfl, hbz, .inr ⟨b0, off0, cap, xs, ?_, hcap, Nat.lt_of_lt_of_le hbl hbz.size, fun j hj => (hbz.cell (p := ⟨b0, off0 + j, none⟩) hbl).trans (hc0 j hj), hd, hn, by omega, by omega⟩⟩
          rw [if_pos (by omega)]

    | false =>
      by_cases hsm : val xs < 9223372036854775808
      · go_enter Tryz.func58, Tryz.ntmps58
        go_wp2_with fail
        refine (unhide HS).mono ?_
        rintro e w1 ⟨rfl, hb1⟩
        obtain ⟨hc, hf⟩ := bcell hb1
        go_wp2_with fail
        refine (signed_yes false (val xs) w1 hv0 (by simp; omega)).mono ?_
        rintro e w2 ⟨rfl, hw2⟩
        subst hw2
        go_wp2_with fail
        refine (of_any _ _).mono ?_
        rintro e w3 ⟨rfl, hb3⟩
        have hz3 : w.heap.size < w2.heap.size := by have := hb1.size; simp at this; omega
        obtain ⟨hc3, hf3⟩ := bcell hb3
        clear hat hat1
        go_wp2
        refine bodyPost_ret (v := .agg #[.int .i64 (val xs), .slice none 0 0]) ?_ rfl ?_
        · simp [results, Tryz.results58, go_sem, hc, hc3, hz3]
        · exact ⟨_, rfl, (((hb0.trans (hb1.mono (by simp))).trans (hb3.mono (by omega))).setCell (by simp) _).setCell (by simp) _, .inl ⟨rfl, by omega, by omega⟩⟩

      · obtain ⟨b0, off0, rfl, hbl, hc0⟩ := hat (by intro e; subst e; simp [val] at hsm)
        go_enter Tryz.func58, Tryz.ntmps58
        go_wp2_with fail
        refine (unhide HS).mono ?_
        rintro e w1 ⟨rfl, hb1⟩
        obtain ⟨hc, hf⟩ := bcell hb1
        go_wp2_with fail
        refine (signed_no false (val xs) w1 hv0 (by omega) (by simp; omega)).mono ?_
        rintro e w2 ⟨rfl, hw2⟩
        subst hw2
        have hz3 : w.heap.size < w2.heap.size := by have := hb1.size; simp at this; omega
        have hbb := hb0.trans (hb1.mono (B' := w.heap.size) (by simp))
        have hatf : At w2 b0 off0 xs := fun j hj => (hbb.cell (p := ⟨b0, off0 + j, none⟩) hbl).trans (hc0 j hj)
        clear hat hat1
        go_wp2
        refine bodyPost_ret (v := .agg #[.int .i64 1, .slice (some ⟨b0, off0, none⟩) xs.length cap]) ?_ rfl ?_
        · simp [results, Tryz.results58, go_sem, hc]
        · have hb9 := ((Below.refl w2.heap.size w2).mono (B' := w.heap.size) (by omega))
          have hbz := ((hbb.setCell (p := ⟨w.heap.size, 0, none⟩) (by simp) (.int .i64 1)).setCell (p := ⟨w.heap.size, 1, none⟩) (by simp) (.slice (some ⟨b0, off0, none⟩) xs.length cap))
          refine ⟨_, rfl, hbz, .inr ⟨b0, off0, cap, xs, ?_, hcap, Nat.lt_of_lt_of_le hbl hbz.size, fun j hj => (hbz.cell (p := ⟨b0, off0 + j, none⟩) hbl).trans (hc0 j hj), hd, hn, by omega, by omega⟩⟩
          rw [if_neg (by omega)]

  · have HS := hide hs
    clear hs
    obtain ⟨b0, off0, rfl, hbl, hc0⟩ := hat (by intro e; subst e; simp [val] at hv)
    cases below with
    | true =>
      go_enter Tryz.func58, Tryz.ntmps58
      go_wp2_with fail
      refine (unhide HS).mono ?_
      rintro e w1 ⟨rfl, hb1⟩
      obtain ⟨hc, hf⟩ := bcell hb1
      have hz3 : w.heap.size < w1.heap.size := by have := hb1.size; simp at this; omega
      have hbb := hb0.trans (hb1.mono (B' := w.heap.size) (by simp))
      have hatf : At w1 b0 off0 xs := fun j hj => (hbb.cell (p := ⟨b0, off0 + j, none⟩) hbl).trans (hc0 j hj)
      clear hat hat1
      go_wp2
      refine bodyPost_ret (v := .agg #[.int .i64 (-1), .slice (some ⟨b0, off0, none⟩) xs.length cap]) ?_ rfl ?_
      · simp [results, Tryz.results58, go_sem, hc]
      · have hb9 := ((Below.refl w1.heap.size w1).mono (B' := w.heap.size) (by omega))
        have hbz := ((hbb.setCell (p := ⟨w.heap.size, 0, none⟩) (by simp) (.int .i64 (-1))).setCell (p := ⟨w.heap.size, 1, none⟩) (by simp) (.slice (some ⟨b0, off0, none⟩) xs.length cap))
        refine ⟨_, rfl, hbz, .inr ⟨b0, off0, cap, xs, ?_, hcap, Nat.lt_of_lt_of_le hbl hbz.size, fun j hj => (hbz.cell (p := ⟨b0, off0 + j, none⟩) hbl).trans (hc0 j hj), hd, hn, by omega, by omega⟩⟩
        rw [if_pos (by omega)]

    | false =>
      go_enter Tryz.func58, Tryz.ntmps58
      go_wp2_with fail
      refine (unhide HS).mono ?_
      rintro e w1 ⟨rfl, hb1⟩
      obtain ⟨hc, hf⟩ := bcell hb1
      have hz3 : w.heap.size < w1.heap.size := by have := hb1.size; simp at this; omega
      have hbb := hb0.trans (hb1.mono (B' := w.heap.size) (by simp))
      have hatf : At w1 b0 off0 xs := fun j hj => (hbb.cell (p := ⟨b0, off0 + j, none⟩) hbl).trans (hc0 j hj)
      clear hat hat1
      go_wp2
      refine bodyPost_ret (v := .agg #[.int .i64 1, .slice (some ⟨b0, off0, none⟩) xs.length cap]) ?_ rfl ?_
      · simp [results, Tryz.results58, go_sem, hc]
      · have hb9 := ((Below.refl w1.heap.size w1).mono (B' := w.heap.size) (by omega))
        have hbz := ((hbb.setCell (p := ⟨w.heap.size, 0, none⟩) (by simp) (.int .i64 1)).setCell (p := ⟨w.heap.size, 1, none⟩) (by simp) (.slice (some ⟨b0, off0, none⟩) xs.length cap))
        refine ⟨_, rfl, hbz, .inr ⟨b0, off0, cap, xs, ?_, hcap, Nat.lt_of_lt_of_le hbl hbz.size, fun j hj => (hbz.cell (p := ⟨b0, off0 + j, none⟩) hbl).trans (hc0 j hj), hd, hn, by omega, by omega⟩⟩
        rw [if_neg (by omega)]

end Go.Proofs.YtlcfldkmojpkpaaGreatDoor
