/- avowlaw7: small, holds. -/
import Derived.Test.YtmkkhpoedlbafaaQB
set_option linter.unusedVariables false
set_option linter.unusedSimpArgs false

/- avowlaw7: light, small, holds. -/
namespace Go.Proofs.Ytmkkhpoedlbafaa
open Go Go.RowKit

theorem Sn.mono {B B' : Nat} {v : Value} {n : Nat} (h : Sn B v n) (hB : B ≤ B') : Sn B' v n := by
  obtain ⟨a, cap, e, h1, h2, h3⟩ := h
  exact ⟨a, cap, e, h1, h2, fun h => let ⟨b, o, e, hb⟩ := h3 h; ⟨b, o, e, by omega⟩⟩
theorem Sl.mono {w : World} {B B' : Nat} {v : Value} {xs : List Int} (h : Sl w B v xs) (hB : B ≤ B') : Sl w B' v xs := ⟨h.1.mono hB, h.2⟩
theorem Sl2.mono {w : World} {B B' : Nat} {v : Value} {ls : List (List Int)} (h : Sl2 w B v ls) (hB : B ≤ B') : Sl2 w B' v ls := ⟨h.1.mono hB, fun j hj => ⟨(h.2 j hj).1, (h.2 j hj).2.mono hB⟩⟩
/-- A slice of slices of slices of ints. -/
def Sl3 (w : World) (B : Nat) (v : Value) (lls : List (List (List Int))) : Prop := ∃ a cap, v = .slice a lls.length cap ∧ lls.length ≤ 9223372036854775807 ∧ ∀ i (hi : i < lls.length), ∃ b off u, a = some ⟨b, off, none⟩ ∧ w.cell? ⟨b, off + i, none⟩ = some u ∧ Sl2 w B u lls[i]
def LPost (w : World) (e : Ending) (w' : World) : Prop := (∃ b, e = .returned (.bool b)) ∧ w' = w
set_option maxRecDepth 100000 in
set_option maxHeartbeats 16000000 in
theorem light_any (B : Nat) (v : Value) (lls : List (List (List Int))) (w : World) (h : Sl3 w B v lls) :
    Calls Try.prog 10 #[v] w (LPost w) := by
  obtain ⟨a, cap, rfl, hmax, hcell⟩ := h
  obtain ⟨n, hn⟩ : ∃ n, lls.length = n := ⟨_, rfl⟩
  rw [hn] at hmax ⊢
  have HN := hide hn
  have HC := hide hcell
  clear hn hcell
  go_enter Try.func10, Try.ntmps10
  go_wp2
  go_loop [3, 4] (fun zv iv => ∃ (z : Int) (i : Nat), zv = .int .i64 z ∧ iv = .int .i64 i ∧ i ≤ n) (fun _ iv => n - (intOf iv).toNat)
  case atStart => exact ⟨0, 0, rfl, rfl, Nat.zero_le _⟩
  case round =>
    obtain ⟨z, i, rfl, rfl, hi0⟩ := hrel
    by_cases hi : i < n
    · obtain ⟨b, off, u, rfl, hc, hu⟩ := unhide HC i (by rw [unhide HN]; exact hi)
      obtain ⟨au, capu, rfl, hmaxu, hcellu⟩ := hu.open
      obtain ⟨m, hm⟩ : ∃ m, (lls[i]'(by rw [unhide HN]; exact hi)).length = m := ⟨_, rfl⟩
      rw [hm] at hmaxu hc
      have HM := hide hm
      have HCu := hide hcellu
      clear hm hcellu hu
      go_wp2
      go_loop [3, 5] (fun zv kv => ∃ (z : Int) (k : Nat), zv = .int .i64 z ∧ kv = .int .i64 k ∧ k ≤ m) (fun _ kv => m - (intOf kv).toNat)
      case atStart => exact ⟨z, 0, rfl, rfl, Nat.zero_le _⟩
      case round =>
        obtain ⟨z, k, rfl, rfl, hk0⟩ := hrel
        by_cases hk : k < m
        · cases hz : decide (z ≤ 1000) with
          | true =>
            obtain ⟨bu, offu, y, rfl, hcu, _, hy⟩ := unhide HCu k (by rw [unhide HM]; exact hk)
            obtain ⟨ay, capy, rfl, hmaxy, _⟩ := hy.open
            clear hy
            go_wp2
            exact ⟨⟨_, k + 1, rfl, by simp, by omega⟩, by simp [intOf]; omega⟩
          | false =>
            go_wp2
            exact ⟨⟨z, i + 1, rfl, by simp, by omega⟩, by simp [intOf]; omega⟩
        · go_wp2
          exact ⟨⟨z, i + 1, rfl, by simp, by omega⟩, by simp [intOf]; omega⟩
    · go_wp2
      go_ret
      exact ⟨⟨_, rfl⟩, rfl⟩
end Go.Proofs.Ytmkkhpoedlbafaa

namespace Go.Proofs.Ytmkkhpoedlbafaa
open Go Go.RowKit
def smallB (x : Int) : Bool := !(x == 0) && !(decide (6 < x)) && !(decide (x < -6))
def SPost (xs : List Int) (w : World) (e : Ending) (w' : World) : Prop := e = .returned (.bool (xs.all smallB)) ∧ w' = w
set_option maxRecDepth 100000 in
set_option maxHeartbeats 16000000 in
theorem small_any (B : Nat) (v : Value) (xs : List Int) (w : World) (hS : Sl w B v xs) :
    Calls Try.prog 16 #[v, .int .i64 6] w (SPost xs w) := by
  obtain ⟨a, cap, rfl, hmax, hcell⟩ := hS.open
  clear hS
  have HC := hide hcell
  obtain ⟨n, hn⟩ : ∃ n, xs.length = n := ⟨_, rfl⟩
  rw [hn] at hmax ⊢
  have HN := hide hn
  clear hcell hn
  go_enter Try.func16, Try.ntmps16
  go_wp2
  go_loop [5] (fun iv => ∃ i : Nat, i ≤ n ∧ iv = .int .i64 i ∧ (xs.take i).all smallB = true) (fun iv => n - (intOf iv).toNat)
  case atStart => exact ⟨0, Nat.zero_le _, rfl, by simp⟩
  case round =>
    obtain ⟨i, hi0, rfl, hall⟩ := hrel
    by_cases hi : i < n
    · obtain ⟨b, off, rfl, hc, _⟩ := unhide HC i (by rw [unhide HN]; exact hi)
      obtain ⟨x, hx⟩ : ∃ x, x = xs[i]'(by rw [unhide HN]; exact hi) := ⟨_, rfl⟩
      rw [← hx] at hc
      have hs : xs.take (i + 1) = xs.take i ++ [x] := by rw [hx, List.take_succ_eq_append_getElem]
      have HX := hide hx
      have HA := hide hall
      have HS := hide hs
      have hbad : smallB x = false → xs.all smallB = false := fun e => by
        rw [List.all_eq_false]
        exact ⟨x, by rw [hx]; exact List.getElem_mem _, by rw [e]; simp⟩
      have HBad := hide hbad
      clear hx hall hs hbad
      cases e1 : (x == 0) with
      | true =>
        have hf := hide (unhide HBad (by simp [smallB, e1]))
        go_wp2
        go_ret
        exact ⟨by rw [unhide hf]; rfl, rfl⟩
      | false =>
        cases e2 : decide (6 < x) with
        | true =>
          have hf := hide (unhide HBad (by simp only [smallB, e1, e2]; rfl))
          go_wp2
          go_ret
          exact ⟨by rw [unhide hf]; rfl, rfl⟩
        | false =>
          cases e3 : decide (x < -6) with
          | true =>
            have hf := hide (unhide HBad (by simp only [smallB, e1, e2, e3]; rfl))
            go_wp2
            go_ret
            exact ⟨by rw [unhide hf]; rfl, rfl⟩
          | false =>
            have HE := hide (show smallB x = true by simp only [smallB, e1, e2, e3]; rfl)
            go_wp2
            refine ⟨⟨i + 1, by omega, by simp, by rw [unhide HS]; simp [unhide HA, unhide HE]⟩, by simp [intOf]; omega⟩
    · have hok : Hid (xs.all smallB = true) := by rw [List.take_of_length_le (by rw [unhide HN]; omega)] at hall; exact hall
      clear hall
      go_wp2
      go_ret
      exact ⟨by rw [unhide hok]; rfl, rfl⟩
/-- The j-th digit of a number, of twos. -/
def btv (q : Int) (j : Nat) : Int := bits BinOp.and IntKind.i64 (q / 2 ^ j) 1
def hb (q x : Int) : Bool := (decide (0 < x) && (btv q (x.toNat - 1) == 1)) || (decide (x < 0) && (btv q ((-x).toNat - 1) == 0))
def HPost (xs : List Int) (q : Int) (w : World) (e : Ending) (w' : World) : Prop := e = .returned (.bool (xs.any (hb q))) ∧ w' = w
set_option maxRecDepth 100000 in
set_option maxHeartbeats 16000000 in
theorem holds_any (B : Nat) (v : Value) (xs : List Int) (q : Int) (w : World) (hS : Sl w B v xs) (hsm : xs.all smallB = true) (hq0 : 0 ≤ q) (hq1 : q < 64) :
    Calls Try.prog 17 #[v, .int .i64 q] w (HPost xs q w) := by
  obtain ⟨a, cap, rfl, hmax, hcell⟩ := hS.open
  clear hS
  have HC := hide hcell
  obtain ⟨n, hn⟩ : ∃ n, xs.length = n := ⟨_, rfl⟩
  rw [hn] at hmax ⊢
  have HN := hide hn
  have HSm := hide hsm
  clear hcell hn hsm
  go_enter Try.func17, Try.ntmps17
  go_wp2
  go_loop [5] (fun iv => ∃ i : Nat, i ≤ n ∧ iv = .int .i64 i ∧ (xs.take i).any (hb q) = false) (fun iv => n - (intOf iv).toNat)
  case atStart => exact ⟨0, Nat.zero_le _, rfl, by simp⟩
  case round =>
    obtain ⟨i, hi0, rfl, hall⟩ := hrel
    by_cases hi : i < n
    · obtain ⟨b, off, rfl, hc, _⟩ := unhide HC i (by rw [unhide HN]; exact hi)
      obtain ⟨x, hx⟩ : ∃ x, x = xs[i]'(by rw [unhide HN]; exact hi) := ⟨_, rfl⟩
      rw [← hx] at hc
      have hs : xs.take (i + 1) = xs.take i ++ [x] := by rw [hx, List.take_succ_eq_append_getElem]
      have hsx : smallB x = true := by rw [hx]; exact List.all_eq_true.1 (unhide HSm) _ (List.getElem_mem _)
      have hgood : hb q x = true → xs.any (hb q) = true := fun e => by
        rw [List.any_eq_true]
        exact ⟨x, by rw [hx]; exact List.getElem_mem _, e⟩
      have HA := hide hall
      have HS := hide hs
      have HGood := hide hgood
      have hx3 : x ≠ 0 ∧ x ≤ 6 ∧ -6 ≤ x := by
        unfold smallB at hsx
        simp at hsx
        omega
      clear hx hall hs hgood hsx
      obtain ⟨h0, h6, h7⟩ := hx3
      by_cases hp : 0 < x
      · have d1 : decide (0 < x) = true := by simp; omega
        have d2 : decide (x < 0) = false := by simp; omega
        have hw1 : IntKind.i64.wrap (x - 1) = x - 1 := by simp only [IntKind.wrap_i64]; omega
        cases e : (bits BinOp.and IntKind.i64 (q / 2 ^ (x.toNat - 1)) 1 == 1) with
        | true =>
          have HE := hide (unhide HGood (by unfold hb btv; rw [d1, e]; rfl))
          go_wp2
          go_ret
          exact ⟨by rw [unhide HE]; rfl, rfl⟩
        | false =>
          have HE := hide (show hb q x = false by unfold hb btv; rw [d1, d2, e]; rfl)
          go_wp2
          refine ⟨⟨i + 1, by omega, by simp, by rw [unhide HS]; simp [unhide HA, unhide HE]⟩, by simp [intOf]; omega⟩
      · have hn : x < 0 := by omega
        have d1 : decide (0 < x) = false := by simp; omega
        have d2 : decide (x < 0) = true := by simp; omega
        have hw0 : IntKind.i64.wrap (-x) = -x := by simp only [IntKind.wrap_i64]; omega
        have hw1 : IntKind.i64.wrap (-x - 1) = -x - 1 := by simp only [IntKind.wrap_i64]; omega
        cases e : (bits BinOp.and IntKind.i64 (q / 2 ^ ((-x).toNat - 1)) 1 == 0) with
        | true =>
          have HE := hide (unhide HGood (by unfold hb btv; rw [d1, d2, e]; rfl))
          go_wp2
          go_ret
          exact ⟨by rw [unhide HE]; rfl, rfl⟩
        | false =>
          have HE := hide (show hb q x = false by unfold hb btv; rw [d1, d2, e]; rfl)
          go_wp2
          refine ⟨⟨i + 1, by omega, by simp, by rw [unhide HS]; simp [unhide HA, unhide HE]⟩, by simp [intOf]; omega⟩
    · have hok : Hid (xs.any (hb q) = false) := by rw [List.take_of_length_le (by rw [unhide HN]; omega)] at hall; exact hall
      clear hall
      go_wp2
      go_ret
      exact ⟨by rw [unhide hok]; rfl, rfl⟩
theorem btv_bit (q : Nat) (hq : q < 64) (j : Nat) (hj : j < 6) : btv q j = 0 ∨ btv q j = 1 := by
  have : ∀ q : _root_.Fin 64, ∀ j : _root_.Fin 6, btv q.val j.val = 0 ∨ btv q.val j.val = 1 := by decide
  exact this ⟨q, hq⟩ ⟨j, hj⟩
end Go.Proofs.Ytmkkhpoedlbafaa
