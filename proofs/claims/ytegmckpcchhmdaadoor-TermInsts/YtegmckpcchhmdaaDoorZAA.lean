/- areDigits and parseMag at texts of digits. -/
import Derived.Test.YtegmckpcchhmdaaDoorRows
import Derived.WalkKit
import Derived.WalkSpells
import Derived.WalkLawsBesides
import Derived.Deep.QuietTactic
import Derived.BigQuiet
import Derived.RangeFuncNested
import Derived.RangeFuncBound
import Derived.RangeFuncCalls
import Derived.RangeFuncLeaves
import Derived.Shelf.Abstract
import Derived.Shelf.RegionOpen
import Derived.OwnWalkIn
import Derived.TacticsInMore
import Derived.LoopNIn
import Derived.LoopIn
import Derived.Deep.RegionWith
import Derived.Lib.OthersKept
import Derived.Lib.Strings
set_option linter.unusedVariables false
set_option linter.unusedSimpArgs false

/- Plain facts on digits to the base of a thousand millions, the least first: their value, noughts at the top, how many there are. No program. -/
namespace Go.Proofs.YtegmckpcchhmdaaDoor.Nm

/-- The number of the digits xs, the least first. -/
def val : List Int → Int
  | [] => 0
  | x :: xs => x + 1000000000 * val xs
/-- Each is a digit. -/
def Dig (xs : List Int) : Prop := ∀ x ∈ xs, 0 ≤ x ∧ x < 1000000000
/-- No nought at the top. -/
def Norm (xs : List Int) : Prop := ∀ h : xs ≠ [], xs.getLast h ≠ 0
/-- The base to the k. -/
def pw : Nat → Int
  | 0 => 1
  | k + 1 => 1000000000 * pw k

theorem pw_pos (k : Nat) : 0 < pw k := by
  induction k with
  | zero => decide
  | succ k ih => simp only [pw]; omega
theorem pw_add (a b : Nat) : pw (a + b) = pw a * pw b := by
  induction a with
  | zero => simp [pw]
  | succ a ih => rw [Nat.succ_add]; simp only [pw]; rw [ih, Int.mul_assoc]
theorem pw_mono {a b : Nat} (h : a ≤ b) : pw a ≤ pw b := by
  obtain ⟨c, rfl⟩ := Nat.exists_eq_add_of_le h
  rw [pw_add]
  have h1 := pw_pos a
  have h2 := pw_pos c
  have h3 := Int.mul_le_mul_of_nonneg_left (show (1 : Int) ≤ pw c by omega) (Int.le_of_lt h1)
  omega
theorem val_append (xs ys : List Int) : val (xs ++ ys) = val xs + pw xs.length * val ys := by
  induction xs with
  | nil => simp [val, pw]
  | cons x xs ih =>
    simp only [List.cons_append, val, List.length_cons, pw]
    rw [ih, Int.mul_add, Int.mul_assoc]; omega
theorem val_snoc (xs : List Int) (d : Int) : val (xs ++ [d]) = val xs + pw xs.length * d := by
  rw [val_append]; simp [val]
theorem Dig.append {xs ys : List Int} (h : Dig xs) (k : Dig ys) : Dig (xs ++ ys) := by
  intro x hx
  rcases List.mem_append.1 hx with hx | hx
  · exact h x hx
  · exact k x hx
theorem Dig.nil : Dig [] := by intro x hx; cases hx
theorem Dig.take {xs : List Int} (h : Dig xs) (k : Nat) : Dig (xs.take k) := fun x hx => h x (List.mem_of_mem_take hx)
theorem Dig.drop {xs : List Int} (h : Dig xs) (k : Nat) : Dig (xs.drop k) := fun x hx => h x (List.mem_of_mem_drop hx)
theorem Dig.at {xs : List Int} (h : Dig xs) (k : Nat) : 0 ≤ xs[k]?.getD 0 ∧ xs[k]?.getD 0 < 1000000000 := by
  cases e : xs[k]? with
  | none => simp
  | some v => exact h v (List.mem_of_getElem? e)
theorem Dig.get {xs : List Int} (h : Dig xs) (k : Nat) : ∃ x, xs[k]?.getD 0 = x ∧ 0 ≤ x ∧ x < 1000000000 := ⟨_, rfl, h.at k⟩
theorem take_snoc (xs : List Int) (k : Nat) (h : k < xs.length) : xs.take (k + 1) = xs.take k ++ [xs[k]?.getD 0] := by
  rw [List.take_add_one, List.getElem?_eq_getElem h]; rfl
theorem val_take_succ (xs : List Int) (k : Nat) (h : k < xs.length) : val (xs.take (k + 1)) = val (xs.take k) + pw k * (xs[k]?.getD 0) := by
  rw [take_snoc xs k h, val_snoc, List.length_take, Nat.min_eq_left (Nat.le_of_lt h)]
theorem val_nonneg {xs : List Int} (h : Dig xs) : 0 ≤ val xs := by
  induction xs with
  | nil => simp [val]
  | cons x xs ih =>
    have h1 := h x (by simp)
    have h2 := ih (fun y hy => h y (by simp [hy]))
    simp only [val]; omega
theorem val_lt {xs : List Int} (h : Dig xs) : val xs < pw xs.length := by
  induction xs with
  | nil => simp [val, pw]
  | cons x xs ih =>
    have h1 := h x (by simp)
    have h2 := ih (fun y hy => h y (by simp [hy]))
    simp only [val, List.length_cons, pw]; omega
/-- As many digits as the number wants. -/
theorem le_val {xs : List Int} (h : Dig xs) (hn : Norm xs) (hne : xs ≠ []) : pw (xs.length - 1) ≤ val xs := by
  have e := List.dropLast_concat_getLast hne
  have hl : xs.dropLast.length = xs.length - 1 := by simp
  have h1 := hn hne
  have h2 := h _ (List.getLast_mem hne)
  have h3 := val_nonneg (xs := xs.dropLast) (fun y hy => h y (List.dropLast_subset xs hy))
  rw [← e, val_snoc]
  simp only [List.length_append, List.length_cons, List.length_nil, hl]
  rw [show xs.length - 1 + (0 + 1) - 1 = xs.length - 1 by omega]
  have h4 := Int.mul_le_mul_of_nonneg_left (show (1 : Int) ≤ xs.getLast hne by omega) (Int.le_of_lt (pw_pos (xs.length - 1)))
  omega
theorem val_replicate (n : Nat) : val (List.replicate n 0) = 0 := by
  induction n with
  | zero => rfl
  | succ n ih => simp only [List.replicate_succ, val, ih]; omega
theorem Dig.replicate (n : Nat) : Dig (List.replicate n 0) := by
  intro x hx
  rw [List.eq_of_mem_replicate hx]; omega
/-- All digits from k on are noughts. -/
theorem val_take_of_zero (xs : List Int) (k : Nat) (h : ∀ j, k ≤ j → j < xs.length → xs[j]?.getD 0 = 0) : val (xs.take k) = val xs := by
  by_cases hk : xs.length ≤ k
  · rw [List.take_of_length_le hk]
  · have e : xs = xs.take k ++ List.replicate (xs.length - k) 0 := by
      apply List.ext_getElem
      · simp; omega
      · intro i h1 h2
        by_cases hi : i < k
        · rw [List.getElem_append_left (by simp; omega)]; simp
        · rw [List.getElem_append_right (by simp; omega)]
          have := h i (by omega) h1
          rw [List.getElem?_eq_getElem h1] at this
          simpa using this
    have h2 := val_append (xs.take k) (List.replicate (xs.length - k) 0)
    rw [← e, val_replicate] at h2
    omega
theorem Norm.nil : Norm [] := fun h => absurd rfl h
theorem Norm.take {xs : List Int} {k : Nat} (hk : k ≤ xs.length) (h : 0 < k → xs[k - 1]?.getD 0 ≠ 0) : Norm (xs.take k) := by
  intro hne
  have hk0 : 0 < k := by
    apply Nat.pos_of_ne_zero
    intro e
    subst e
    exact hne rfl
  have h1 := h hk0
  rw [List.getElem?_eq_getElem (by omega)] at h1
  rw [List.getLast_eq_getElem]
  simp only [List.length_take, Nat.min_eq_left hk, List.getElem_take]
  exact h1

end Go.Proofs.YtegmckpcchhmdaaDoor.Nm

/- Plain facts on decimal texts and their digits to the base of a thousand millions. No program. -/
namespace Go.Proofs.YtegmckpcchhmdaaDoor.Nm

/-- The number of a decimal text, its letters as bytes. -/
def dec (l : List UInt8) : Int := l.foldl (fun a b => 10 * a + ((b.toNat : Int) - 48)) 0
theorem dec_snoc (l : List UInt8) (b : UInt8) : dec (l ++ [b]) = 10 * dec l + ((b.toNat : Int) - 48) := by simp [dec]
/-- Decimal digits all. -/
def Dg (l : List UInt8) : Prop := ∀ b ∈ l, 48 ≤ b.toNat ∧ b.toNat ≤ 57
theorem pow_mono10 {a b : Nat} (h : a ≤ b) : (10 : Int) ^ a ≤ (10 : Int) ^ b := by
  obtain ⟨c, rfl⟩ := Nat.exists_eq_add_of_le h
  clear h
  induction c with
  | zero => exact Int.le_refl _
  | succ c ih =>
    rw [← Nat.add_assoc, Int.pow_succ]
    have : (0 : Int) < 10 ^ (a + c) := Int.pow_pos (by decide)
    omega
theorem take_snoc8 (l : List UInt8) (k : Nat) (h : k < l.length) : l.take (k + 1) = l.take k ++ [l[k]] := by
  rw [List.take_add_one, List.getElem?_eq_getElem h]; rfl
/-- What has been made of the first i of n decimal digits. -/
def PM (D : List UInt8) (n i : Nat) (O : List Int) : Prop :=
  ∃ L : List Int, O = List.replicate ((n - i) / 9) 0 ++ L ∧ ((n - i) % 9 = 0 → val L = dec (D.take i) ∧ Dig L) ∧
    ((n - i) % 9 ≠ 0 → ∃ x T, L = x :: T ∧ dec (D.take i) = x + (10 : Int) ^ (9 - (n - i) % 9) * val T ∧ 0 ≤ x ∧ x < (10 : Int) ^ (9 - (n - i) % 9) ∧ Dig T)
theorem PM.start (D : List UInt8) (n : Nat) : PM D n 0 (List.replicate ((n + 8) / 9) 0) := by
  by_cases h : n % 9 = 0
  · refine ⟨[], ?_, fun _ => ⟨by simp [val, dec], Dig.nil⟩, fun h' => absurd h h'⟩
    rw [show (n + 8) / 9 = (n - 0) / 9 by omega]; simp
  · refine ⟨[0], ?_, fun h' => absurd h' h, fun _ => ⟨0, [], rfl, by simp [val, dec], by omega, Int.pow_pos (by decide), Dig.nil⟩⟩
    rw [show (n + 8) / 9 = (n - 0) / 9 + 1 by omega, List.replicate_succ']
theorem p10_le {r : Nat} (h : 1 ≤ r) (h8 : r ≤ 8) : (10 : Int) ^ (9 - r) ≤ 100000000 := by
  have := pow_mono10 (show 9 - r ≤ 8 by omega)
  rw [show ((10 : Int) ^ 8) = 100000000 by decide] at this
  exact this
theorem PM.step {D : List UInt8} {n i : Nat} {O : List Int} (h : PM D n i O) (hi : i < n) (hn : D.length = n) {d : Int} (hd : ((D[i]'(by omega)).toNat : Int) - 48 = d) (d0 : 0 ≤ d) (d1 : d ≤ 9) :
    ∃ x, O[(n - 1 - i) / 9]?.getD 0 = x ∧ 0 ≤ x ∧ x ≤ 99999999 ∧ (n - 1 - i) / 9 < O.length ∧ PM D n (i + 1) (O.set ((n - 1 - i) / 9) (x * 10 + d)) := by
  obtain ⟨L, rfl, h0, h1⟩ := h
  have hdec : dec (D.take (i + 1)) = 10 * dec (D.take i) + d := by
    rw [take_snoc8 D i (by omega), dec_snoc, hd]
  by_cases hr : (n - i) % 9 = 0
  · obtain ⟨v, hL⟩ := h0 hr
    clear h0 h1
    have ha : (n - i) / 9 = (n - 1 - i) / 9 + 1 := by omega
    have e : List.replicate ((n - i) / 9) (0 : Int) ++ L = List.replicate ((n - 1 - i) / 9) 0 ++ 0 :: L := by
      rw [ha, List.replicate_succ', List.append_assoc]; rfl
    rw [e]
    refine ⟨0, ?_, by omega, by omega, by simp, ?_⟩
    · rw [List.getElem?_append_right (by simp)]; simp
    · rw [List.set_append_right _ _ (by simp)]
      simp only [List.length_replicate, Nat.sub_self, List.set_cons_zero]
      refine ⟨(0 * 10 + d) :: L, by rw [show (n - (i + 1)) / 9 = (n - 1 - i) / 9 by omega], fun h' => absurd h' (by omega), fun _ => ⟨_, L, rfl, ?_, by omega, ?_, hL⟩⟩
      · rw [hdec, ← v, show 9 - (n - (i + 1)) % 9 = 1 by omega]; omega
      · rw [show 9 - (n - (i + 1)) % 9 = 1 by omega]; omega
  · obtain ⟨x, T, rfl, v, x0, x1, hT⟩ := h1 hr
    clear h0 h1
    have ha : (n - i) / 9 = (n - 1 - i) / 9 := by omega
    have hx8 := p10_le (r := (n - i) % 9) (by omega) (by omega)
    rw [ha]
    refine ⟨x, ?_, x0, by omega, by simp, ?_⟩
    · rw [List.getElem?_append_right (by simp)]; simp
    · rw [List.set_append_right _ _ (by simp)]
      simp only [List.length_replicate, Nat.sub_self, List.set_cons_zero]
      have hp : (10 : Int) ^ (9 - ((n - i) % 9 - 1)) = 10 ^ (9 - (n - i) % 9) * 10 := by
        rw [show 9 - ((n - i) % 9 - 1) = (9 - (n - i) % 9) + 1 by omega, Int.pow_succ]
      generalize (10 : Int) ^ (9 - (n - i) % 9) = q at *
      have hval : dec (D.take (i + 1)) = (x * 10 + d) + q * 10 * val T := by
        rw [hdec, v]; grind
      refine ⟨(x * 10 + d) :: T, by rw [show (n - (i + 1)) / 9 = (n - 1 - i) / 9 by omega], fun h' => ?_, fun h' => ⟨_, T, rfl, ?_, by omega, ?_, hT⟩⟩
      · have h9 : (n - i) % 9 = 1 := by omega
        rw [h9] at hp
        have hq : q * 10 = 1000000000 := by rw [← hp]; decide
        rw [hq] at hval
        refine ⟨by rw [hval]; rfl, ?_⟩
        intro y hy
        rcases List.mem_cons.1 hy with rfl | hy
        · omega
        · exact hT y hy
      · rw [show (n - (i + 1)) % 9 = (n - i) % 9 - 1 by omega, hp]; exact hval
      · rw [show (n - (i + 1)) % 9 = (n - i) % 9 - 1 by omega, hp]; omega
theorem PM.done {D : List UInt8} {n : Nat} {O : List Int} (h : PM D n n O) (hn : D.length = n) : val O = dec D ∧ Dig O := by
  obtain ⟨L, rfl, h0, _⟩ := h
  obtain ⟨v, hL⟩ := h0 (by omega)
  rw [List.take_of_length_le (by omega)] at v
  simp only [Nat.sub_self, Nat.zero_div, List.replicate_zero, List.nil_append]
  exact ⟨v, hL⟩

end Go.Proofs.YtegmckpcchhmdaaDoor.Nm

/- Closed facts of the loaded program, and the walks of the leaves of package num: signs, sizes, comparisons. -/
namespace Go.Proofs.YtegmckpcchhmdaaDoor.Nm
open Go.RowKit

theorem info32 : (Tryd.prog.info? 199).map (fun i => (i.zero, i.size, i.bytes)) = some (some (.int .u32 0), 1, 4) := by kernel_rfl
theorem hide {p : Prop} (h : p) : Hid p := h
theorem unhide {p : Prop} (h : Hid p) : p := h
theorem eqnil_some (w : World) (a : Addr) (n c : Nat) : (binOp .eql 168 (.slice (some a) n c) (.slice none 0 0)).run Tryd.prog w = .ok (.bool false) w := Lib.run_eql_slice_nil w _ _ _ _ _ _ _ Tryd.underlying168
theorem eqnil_none (w : World) (n c : Nat) : (binOp .eql 168 (.slice none n c) (.slice none 0 0)).run Tryd.prog w = .ok (.bool true) w := Lib.run_eql_slice_nil w _ _ _ _ _ _ _ Tryd.underlying168
theorem nenil_some (w : World) (a : Addr) (n c : Nat) : (binOp .neq 168 (.slice (some a) n c) (.slice none 0 0)).run Tryd.prog w = .ok (.bool true) w := run_neq_slice_nil_any w _ _ _ _ _ _ _ Tryd.underlying168
theorem nenil_none (w : World) (n c : Nat) : (binOp .neq 168 (.slice none n c) (.slice none 0 0)).run Tryd.prog w = .ok (.bool false) w := run_neq_slice_nil_any w _ _ _ _ _ _ _ Tryd.underlying168

/-- The slice value v reads as the uint32s xs. -/
def Mg (w : World) (v : Value) (xs : List Int) : Prop :=
  ∃ a cap, v = .slice a xs.length cap ∧ xs.length ≤ cap ∧ (xs ≠ [] → ∃ b off, a = some ⟨b, off, none⟩ ∧ b < w.heap.size ∧ ∀ j, j < xs.length → w.cell? ⟨b, off + j, none⟩ = some (.int .u32 (xs[j]?.getD 0)))
theorem Mg.below {w w' : World} {v : Value} {xs : List Int} (h : Mg w v xs) (hb : Below w.heap.size w w') : Mg w' v xs := by
  obtain ⟨a, cap, e, hc, hr⟩ := h
  refine ⟨a, cap, e, hc, fun hne => ?_⟩
  obtain ⟨b, off, ea, hlt, hcell⟩ := hr hne
  exact ⟨b, off, ea, Nat.lt_of_lt_of_le hlt hb.size, fun j hj => (hb.cell (p := ⟨b, off + j, none⟩) hlt).trans (hcell j hj)⟩
theorem Mg.nil (w : World) (a : Option Addr) (cap : Nat) : Mg w (.slice a 0 cap) [] := ⟨a, cap, rfl, Nat.zero_le _, fun h => absurd rfl h⟩
set_option maxHeartbeats 400000 in
theorem signed_no (below : Bool) (n : Int) (w : World) (h0 : 0 ≤ n) (h1 : n < 18446744073709551616) (h : if below then 9223372036854775808 < n else 9223372036854775808 ≤ n) :
    Calls Tryd.prog 86 #[.bool below, .int .u64 n] w fun e w' => e = .returned (.tuple #[.int .i64 0, .bool false]) ∧ w' = w := by
  cases below with
  | false =>
    simp at h
    go_enter Tryd.func86, Tryd.ntmps86
    go_wp2
    go_ret2
    exact ⟨rfl, rfl⟩
  | true =>
    simp at h
    go_enter Tryd.func86, Tryd.ntmps86
    go_wp2
    go_ret2
    exact ⟨rfl, rfl⟩
theorem ret_ib {k : IntKind} {a b : Int} {t : Bool} (h : a = b) : Ending.returned (.tuple #[.int k a, .bool t]) = .returned (.tuple #[.int k b, .bool t]) := by rw [h]
set_option maxHeartbeats 400000 in
theorem signed_yes (below : Bool) (n : Int) (w : World) (h0 : 0 ≤ n) (h : if below then n ≤ 9223372036854775808 else n < 9223372036854775808) :
    Calls Tryd.prog 86 #[.bool below, .int .u64 n] w fun e w' => e = .returned (.tuple #[.int .i64 (if below then -n else n), .bool true]) ∧ w' = w := by
  cases below with
  | false =>
    simp at h
    go_enter Tryd.func86, Tryd.ntmps86
    go_wp2
    go_ret2
    exact ⟨rfl, rfl⟩
  | true =>
    simp at h
    go_enter Tryd.func86, Tryd.ntmps86
    go_wp2
    go_ret2
    exact ⟨ret_ib (by simp only [IntKind.wrap_u64, wrap64]; omega), rfl⟩

set_option maxHeartbeats 400000 in
theorem of_any (n : Int) (w : World) :
    Calls Tryd.prog 87 #[.int .i64 n] w fun e w' => e = .returned (.agg #[.int .i64 n, .slice none 0 0]) ∧ Below w.heap.size w w' := by
  go_enter Tryd.func87, Tryd.ntmps87
  go_wp2
  exact bodyPost_ret (v := .agg #[.int .i64 n, .slice none 0 0]) (by simp [results, Tryd.results87, go_sem]) rfl ⟨rfl, (Below.refl _ _).alloc (Nat.le_refl _) _⟩

end Go.Proofs.YtegmckpcchhmdaaDoor.Nm

/- The walks of trim, magOf, slices.Clone: magnitudes that are made and cut. -/
namespace Go.Proofs.YtegmckpcchhmdaaDoor.Nm
open Go.RowKit

/-- The length in a slot that holds a slice. -/
def lenOf : Value → Nat | .slice _ n _ => n | _ => 0

theorem Mg.take {w : World} {a : Option Addr} {n cap : Nat} {xs : List Int} (h : Mg w (.slice a n cap) xs) {k : Nat} (hk : k ≤ xs.length) : Mg w (.slice a k cap) (xs.take k) := by
  obtain ⟨a', cap', e, hc, hr⟩ := h
  simp only [Value.slice.injEq] at e
  obtain ⟨rfl, rfl, rfl⟩ := e
  have hlen : (xs.take k).length = k := by simp; omega
  refine ⟨a, cap, by rw [hlen], by omega, fun hne => ?_⟩
  obtain ⟨b, off, ea, hlt, hcell⟩ := hr (by intro e; subst e; exact hne (by simp))
  refine ⟨b, off, ea, hlt, fun j hj => ?_⟩
  rw [hlen] at hj
  rw [hcell j (by omega), List.getElem?_take, if_pos hj]

/-- How many of the first k digits are left without the noughts at the top. -/
def tl : Nat → List Int → Nat
  | 0, _ => 0
  | k + 1, xs => if xs[k]?.getD 0 = 0 then tl k xs else k + 1
theorem tl_le (k : Nat) (xs : List Int) : tl k xs ≤ k := by
  induction k with
  | zero => exact Nat.le_refl _
  | succ k ih =>
    unfold tl
    split
    · omega
    · exact Nat.le_refl _
theorem tl_top (k : Nat) (xs : List Int) (h : 0 < tl k xs) : xs[tl k xs - 1]?.getD 0 ≠ 0 := by
  induction k with
  | zero => simp [tl] at h
  | succ k ih =>
    unfold tl at h ⊢
    split
    · rename_i e
      rw [if_pos e] at h
      exact ih h
    · rename_i e
      simpa using e
theorem tl_zero (k : Nat) (xs : List Int) : ∀ j, tl k xs ≤ j → j < k → xs[j]?.getD 0 = 0 := by
  induction k with
  | zero => intro j _ h; omega
  | succ k ih =>
    intro j h1 h2
    unfold tl at h1
    split at h1
    · rename_i e
      by_cases hj : j = k
      · rw [hj]; exact e
      · exact ih j h1 (by omega)
    · omega

set_option maxHeartbeats 800000 in
theorem trim_val (a : Option Addr) (cap : Nat) (xs : List Int) (w : World) (hm : Mg w (.slice a xs.length cap) xs) (_hd : Dig xs) (hl : xs.length ≤ 1000000) :
    Calls Tryd.prog 88 #[.slice a xs.length cap] w fun e w' => e = .returned (.slice a (tl xs.length xs) cap) ∧ w' = w := by
  obtain ⟨a', cap', e', hcap, hat⟩ := hm
  simp only [Value.slice.injEq] at e'
  obtain ⟨rfl, _, rfl⟩ := e'
  go_enter Tryd.func88, Tryd.ntmps88
  go_wp2
  go_loop [0] (fun s => ∃ k : Nat, k ≤ xs.length ∧ s = .slice a k cap ∧ tl xs.length xs = tl k xs) (fun s => lenOf s)
  case atStart => exact ⟨xs.length, Nat.le_refl _, rfl, rfl⟩
  case round =>
    obtain ⟨k, hk, rfl, hz⟩ := hrel
    have HZ := hide hz
    clear hz
    have hcap' : k ≤ cap := by omega
    by_cases hk0 : 0 < k
    · obtain ⟨b, off, rfl, hb, hc⟩ := hat (by intro e; subst e; simp at hk; omega)
      have hck := hc (k - 1) (by omega)
      have hin : (k : Int) - 1 = ((k - 1 : Nat) : Int) := by omega
      have hst : Hid (tl k xs = if xs[k - 1]?.getD 0 = 0 then tl (k - 1) xs else k) := by
        obtain ⟨m, rfl⟩ : ∃ m, k = m + 1 := ⟨k - 1, by omega⟩
        show tl (m + 1) xs = _
        rfl
      by_cases hv : xs[k - 1]?.getD 0 = 0
      · have hv' : (xs[k - 1]?.getD 0 == 0) = true := by simp [hv]
        have hst' : Hid (tl xs.length xs = tl (k - 1) xs) := by
          show _ = _
          rw [unhide HZ, unhide hst, if_pos hv]
        go_wp2
        exact ⟨⟨k - 1, by omega, rfl, unhide hst'⟩, by simp [lenOf]; omega⟩
      · have hv' : (xs[k - 1]?.getD 0 == 0) = false := by simp [hv]
        have hst' : Hid (tl xs.length xs = k) := by
          show _ = _
          rw [unhide HZ, unhide hst, if_neg hv]
        go_wp2
        go_ret
        exact ⟨by rw [unhide hst']; rfl, rfl⟩
    · obtain rfl : k = 0 := by omega
      go_wp2
      go_ret
      exact ⟨by rw [unhide HZ]; rfl, rfl⟩

/-- What is left of a magnitude without the noughts at its top. -/
theorem tl_spec {w : World} {a : Option Addr} {cap : Nat} {xs : List Int} (hm : Mg w (.slice a xs.length cap) xs) (hd : Dig xs) :
    Mg w (.slice a (tl xs.length xs) cap) (xs.take (tl xs.length xs)) ∧ Dig (xs.take (tl xs.length xs)) ∧ Norm (xs.take (tl xs.length xs)) ∧ val (xs.take (tl xs.length xs)) = val xs ∧ (xs.take (tl xs.length xs)).length ≤ xs.length :=
  ⟨hm.take (tl_le _ _), hd.take _, Norm.take (tl_le _ _) (tl_top _ _), val_take_of_zero xs _ (tl_zero _ _), by simp; omega⟩
theorem trim_any (v : Value) (xs : List Int) (w : World) (hm : Mg w v xs) (hd : Dig xs) (hl : xs.length ≤ 1000000) :
    Calls Tryd.prog 88 #[v] w fun e w' => ∃ v' ys, e = .returned v' ∧ w' = w ∧ Mg w v' ys ∧ Dig ys ∧ Norm ys ∧ val ys = val xs ∧ ys.length ≤ xs.length := by
  have hm' := hm
  obtain ⟨a, cap, rfl, hcap, hat⟩ := hm
  refine (trim_val a cap xs w hm' hd hl).mono ?_
  rintro e w1 ⟨rfl, rfl⟩
  exact ⟨_, _, rfl, rfl, tl_spec hm' hd⟩

theorem Norm.snoc {xs : List Int} {d : Int} (h : d ≠ 0) : Norm (xs ++ [d]) := by
  intro hne
  simpa using h
end Go.Proofs.YtegmckpcchhmdaaDoor.Nm

/- The walks of slices.Clone and takeAway: a magnitude copied; so many times another taken away in place. -/
namespace Go.Proofs.YtegmckpcchhmdaaDoor.Nm
open Go.RowKit
attribute [local go_sem] eqnil_some eqnil_none nenil_some nenil_none

/-- w' is w but for n cells of block b from off on. -/
structure InBlk (b off n : Nat) (w w' : World) : Prop where
  os : w'.os = w.os
  tape : w'.tape = w.tape
  output : w'.output = w.output
  size : w'.heap.size = w.heap.size
  block : ∀ k, k ≠ b → w'.heap[k]? = w.heap[k]?
  out : ∀ o, o < off ∨ off + n ≤ o → w'.cell? ⟨b, o, none⟩ = w.cell? ⟨b, o, none⟩
  frozen : ∀ o, w'.frozen? ⟨b, o, none⟩ = w.frozen? ⟨b, o, none⟩
theorem InBlk.refl (b off n : Nat) (w : World) : InBlk b off n w w := ⟨rfl, rfl, rfl, rfl, fun _ _ => rfl, fun _ _ => rfl, fun _ => rfl⟩
theorem InBlk.trans {b off n : Nat} {w w1 w2 : World} (h : InBlk b off n w w1) (k : InBlk b off n w1 w2) : InBlk b off n w w2 :=
  ⟨k.os.trans h.os, k.tape.trans h.tape, k.output.trans h.output, k.size.trans h.size, fun i hi => (k.block i hi).trans (h.block i hi), fun o ho => (k.out o ho).trans (h.out o ho), fun o => (k.frozen o).trans (h.frozen o)⟩
theorem InBlk.setCell {b off n : Nat} {w w1 : World} (h : InBlk b off n w w1) {o : Nat} (h1 : off ≤ o) (h2 : o < off + n) (v : Value) : InBlk b off n w (w1.setCell ⟨b, o, none⟩ v) :=
  h.trans ⟨rfl, rfl, rfl, by simp, fun k hk => Below.heap_setCell _ _ _ _ hk, fun p hp => World.cell?_setCell_other _ _ _ _ (by intro e; injection e; omega), fun p => World.frozen?_setCell _ _ _ _⟩
theorem InBlk.below {b off n B : Nat} {w w' : World} (h : InBlk b off n w w') (hB : B ≤ b) : Below B w w' :=
  ⟨h.os, h.tape, h.output, Nat.le_of_eq h.size.symm, fun k hk => h.block k (by omega)⟩
theorem InBlk.cell {b off n : Nat} {w w' : World} (h : InBlk b off n w w') {p : Addr} (hp : p.block ≠ b) : w'.cell? p = w.cell? p := World.cell?_of_block (w := w) (h.block p.block hp)

/-- The cells of block b from off on hold the uint32s xs. -/
def At (w : World) (b off : Nat) (xs : List Int) : Prop := ∀ j, j < xs.length → w.cell? ⟨b, off + j, none⟩ = some (.int .u32 (xs[j]?.getD 0))
theorem At.set {w : World} {b off : Nat} {zs : List Int} {x : Int} {rs : List Int} (h : At w b off (zs ++ x :: rs)) {k : Nat} (hz : zs.length = k) (d : Int) : At (w.setCell ⟨b, off + k, none⟩ (.int .u32 d)) b off (zs ++ d :: rs) := by
  subst hz
  intro j hj
  by_cases e : j = zs.length
  · subst e
    rw [World.cell?_setCell_same _ _ _ (h zs.length (by simp))]
    simp
  · rw [World.cell?_setCell_other _ _ _ _ (by intro h'; injection h'; omega), h j (by simpa using hj)]
    congr 2
    by_cases hlt : j < zs.length
    · rw [List.getElem?_append_left hlt, List.getElem?_append_left hlt]
    · rw [List.getElem?_append_right (by omega), List.getElem?_append_right (by omega)]
      obtain ⟨m, hm⟩ : ∃ m, j - zs.length = m + 1 := ⟨j - zs.length - 1, by omega⟩
      rw [hm]
      rfl
theorem At.mg {w : World} {b off cap : Nat} {xs : List Int} (h : At w b off xs) (hb : b < w.heap.size) (hc : xs.length ≤ cap) : Mg w (.slice (some ⟨b, off, none⟩) xs.length cap) xs :=
  ⟨_, cap, rfl, hc, fun _ => ⟨b, off, rfl, hb, h⟩⟩
theorem At.at {w : World} {b off : Nat} {zs : List Int} {x : Int} {rs : List Int} (h : At w b off (zs ++ x :: rs)) {k : Nat} (hz : zs.length = k) : w.cell? ⟨b, off + k, none⟩ = some (.int .u32 x) := by
  subst hz
  have := h zs.length (by simp)
  simpa using this

end Go.Proofs.YtegmckpcchhmdaaDoor.Nm

/- The walks of scaleMag and mulMag: a magnitude so many times, by one digit and by another magnitude. -/
namespace Go.Proofs.YtegmckpcchhmdaaDoor.Nm
open Go.RowKit

theorem At.drewN {w : World} {b off : Nat} {xs : List Int} (h : At w b off xs) (q : Nat) : At (w.drewN q) b off xs := fun j hj => by
  rw [World.cell?_drewN]; exact h j hj
theorem InBlk.drewN {b off n : Nat} {w w1 : World} (h : InBlk b off n w w1) (q : Nat) : InBlk b off n w (w1.drewN q) :=
  h.trans ⟨rfl, rfl, rfl, rfl, fun _ _ => rfl, fun _ _ => rfl, fun _ => rfl⟩
end Go.Proofs.YtegmckpcchhmdaaDoor.Nm

/- The iterator slices.Backward over uint32s: its contract, for every loop body that keeps the slice. -/
namespace Go.Proofs.YtegmckpcchhmdaaDoor.Nm
open Go.RowKit Go.Shelf
attribute [local go_sem] Oper.semAt_some

/-- The indices below n, from the greatest down. -/
def dn (n : Nat) : List (Fin n) := (List.finRange n).reverse
theorem dn_length (n : Nat) : (dn n).length = n := by simp [dn]
theorem dn_take_succ (n k : Nat) (h : k < n) : (dn n).take (k + 1) = (dn n).take k ++ [⟨n - 1 - k, by omega⟩] := by
  rw [List.take_add_one]
  congr 1
  simp only [dn]
  rw [List.getElem?_reverse (by simpa using h)]
  have h2 : (List.finRange n).length - 1 - k < (List.finRange n).length := by simp; omega
  rw [List.getElem?_eq_getElem h2]
  simp

/-- The digit at a place. -/
def dg (xs : List Int) (i : Nat) : Int := xs[i]?.getD 0
theorem Dig.dg {xs : List Int} (h : Dig xs) (k : Nat) : 0 ≤ dg xs k ∧ dg xs k < 1000000000 := h.at k

/-- Two blocks are kept. -/
def Kp2 (p q : Nat) (W W' : World) : Prop := W'.heap[p]? = W.heap[p]? ∧ W'.heap[q]? = W.heap[q]?
theorem kp2_t {p q : Nat} {A B C : World} (h : Kp2 p q A B) (k : Kp2 p q B C) : Kp2 p q A C := ⟨k.1.trans h.1, k.2.trans h.2⟩
theorem kp2_b {p q : Nat} {w : World} (hp : p < w.heap.size) (hq : q < w.heap.size) (W : World) (l : Nat) (o o' : Obj) (hl : w.heap.size ≤ l) (_ : W.heap[l]? = some o) (_ : o.isCells = false) (_ : o.isWalk = false) : Kp2 p q W (W.putObj l o') :=
  ⟨World.putObj_heap_other (by omega), World.putObj_heap_other (by omega)⟩
theorem Kp2.refl (p q : Nat) (W : World) : Kp2 p q W W := ⟨rfl, rfl⟩
theorem Kp2.setCell {p q : Nat} {A W : World} (h : Kp2 p q A W) {a : Addr} (hp : p ≠ a.block) (hq : q ≠ a.block) (v : Value) : Kp2 p q A (W.setCell a v) :=
  kp2_t h ⟨Below.heap_setCell _ _ _ _ hp, Below.heap_setCell _ _ _ _ hq⟩

set_option maxRecDepth 100000 in
set_option maxHeartbeats 1000000 in
theorem back1_in (l Bs b off cap : Nat) (zs : List Int) (hl : zs.length ≤ 1000000) (J Jx : List (Fin zs.length) → World → Prop)
    (hY : ∀ pre (x : Fin zs.length) W, J pre W → pre.length < zs.length → YieldAt Fence.wide (9 - 1) Tryd.prog l #[.int .i64 (x.1 : Int), (.int .u32 (dg zs x.1))] W fun e W' =>
      (e = .returned (.bool true) ∧ J (pre ++ [x]) W' ∧ Kp2 Bs b W W') ∨ (e = .returned (.bool false) ∧ Jx (pre ++ [x]) W'))
    (W : World) (hBs : W.cell? ⟨Bs, 0, none⟩ = some (.slice (some ⟨b, off, none⟩) zs.length cap)) (hc : At W b off zs) (h0 : J [] W) :
    CallsIn Fence.wide 9 Tryd.prog 90 #[.func (.yield l) #[] #[], .pointer (some ⟨Bs, 0, none⟩)] W fun e W' => (∃ v, e = .returned v) ∧
      ((∃ ys, ys = dn zs.length ∧ J ys W') ∨ (∃ pre, (∃ k, k ≤ zs.length ∧ pre = (dn zs.length).take k) ∧ Jx pre W')) := by
  refine callsIn_of_wp Tryd.func90 rfl trivial ?_ rfl
  simp only [Tryd.ntmps90, List.size_toArray, List.length_cons, List.length_nil, Nat.reduceAdd, Nat.reduceSub, Array.replicate_succ, Array.replicate_zero, List.push_toArray, List.append_toArray, List.nil_append, List.cons_append]
  gi_wp2
  gi_loopw [3] (fun i wr => ∃ k : Nat, k ≤ zs.length ∧ i = .int .i64 ((zs.length : Int) - 1 - k) ∧ J ((dn zs.length).take k) wr ∧ Kp2 Bs b W wr)
    (fun i _ => (intOf i + 1).toNat)
  case atStart => exact ⟨0, Nat.zero_le _, by simp, by simpa using h0, Kp2.refl _ _ _⟩
  case round =>
    obtain ⟨k, hk, rfl, hJs, hkp⟩ := hrel
    have hBr : wr.cell? ⟨Bs, 0, none⟩ = some (.slice (some ⟨b, off, none⟩) zs.length cap) := (World.cell?_of_block (w := W) hkp.1).trans hBs
    have hcr : At wr b off zs := fun j hj => (World.cell?_of_block (w := W) (a := ⟨b, off + j, none⟩) hkp.2).trans (hc j hj)
    by_cases hlt : k < zs.length
    · obtain ⟨fn, tmps, assign, body, hy, hR⟩ := hY _ (⟨zs.length - 1 - k, by omega⟩ : Fin zs.length) wr hJs (by rw [List.length_take, dn_length]; omega)
      dsimp only at hy
      have hcx : wr.cell? ⟨b, off + (zs.length - 1 - k), none⟩ = some (.int .u32 (dg zs (zs.length - 1 - k))) := hcr (zs.length - 1 - k) (by omega)
      have hix : (zs.length : Int) - 1 - k = ((zs.length - 1 - k : Nat) : Int) := by omega
      have hnn : (0 : Int) ≤ (zs.length : Int) - 1 - k := by omega
      rw [hix]
      gi_wp2
      refine hR.mono ?_
      rintro e W3 (⟨rfl, hJ3, hk3⟩ | ⟨rfl, hJx3⟩)
      · gi_wp2
        go_roundw
        case rel => exact ⟨k + 1, by omega, by simp; omega, by rw [dn_take_succ _ _ hlt]; exact hJ3, kp2_t hkp hk3⟩
        case measure => simp [intOf] <;> omega
      · gi_wp2
        refine bodyPost_ret (results_none rfl _ _ _) rfl ?_
        exact ⟨⟨_, rfl⟩, .inr ⟨_, ⟨k + 1, by omega, (dn_take_succ _ _ hlt).symm⟩, hJx3⟩⟩
    · obtain rfl : k = zs.length := by omega
      gi_wp2
      go_end0
      exact ⟨⟨_, rfl⟩, .inl ⟨_, by rw [List.take_of_length_le (by rw [dn_length]; omega)], hJs⟩⟩

/-- .. where there is no digit: no round. -/
theorem back1_nil_in (l Bs : Nat) (a : Option Addr) (cap : Nat) (J : List (Fin 0) → World → Prop) (W : World) (hBs : W.cell? ⟨Bs, 0, none⟩ = some (.slice a 0 cap)) (h0 : J [] W) :
    CallsIn Fence.wide 9 Tryd.prog 90 #[.func (.yield l) #[] #[], .pointer (some ⟨Bs, 0, none⟩)] W fun e W' => (∃ v, e = .returned v) ∧ J [] W' := by
  refine callsIn_of_wp Tryd.func90 rfl trivial ?_ rfl
  simp only [Tryd.ntmps90, List.size_toArray, List.length_cons, List.length_nil, Nat.reduceAdd, Nat.reduceSub, Array.replicate_succ, Array.replicate_zero, List.push_toArray, List.append_toArray, List.nil_append, List.cons_append]
  gi_wp2
  gi_loopw [3] (fun i wr => i = .int .i64 (-1) ∧ J [] wr) (fun _ _ => 0)
  case atStart => exact ⟨rfl, h0⟩
  case round =>
    obtain ⟨rfl, hJs⟩ := hrel
    gi_wp2
    go_end0
    exact ⟨⟨_, rfl⟩, hJs⟩

set_option maxHeartbeats 1000000 in
/-- slices.Backward boxes the slice value; the function value captures the box. -/
theorem back_any (a : Option Addr) (len cap : Nat) (w : World) :
    Calls Tryd.prog 89 #[.slice a len cap] w fun e w' => e = .returned (.func (.func 90) #[] #[.pointer (some ⟨w.heap.size, 0, none⟩)]) ∧ w' = w.alloc (.cells #[.slice a len cap] 168) := by
  have hmf : ∀ (fn : Fn) (first cap : Array Value) (w : World), (Instr.makeFunc fn first cap).run Tryd.prog w = .ok (.func fn first cap) w := fun _ _ _ _ => rfl
  go_enter Tryd.func89, Tryd.ntmps89
  go_wp2
  go_ret
  exact ⟨rfl, rfl⟩

/-- What slices.Backward tells, its box in block Bs: each digit with its place, from the top down; or the first of them. -/
theorem back_stops (Bs b : Nat) (a : Option Addr) (cap : Nat) (zs : List Int) (hl : zs.length ≤ 1000000) (w : World) (hBs : Bs < w.heap.size) (hb : b < w.heap.size)
    (hc : w.cell? ⟨Bs, 0, none⟩ = some (.slice a zs.length cap)) (hI : zs ≠ [] → ∃ off, a = some ⟨b, off, none⟩ ∧ At w b off zs) :
    SeqStopsK Fence.wide 9 Tryd.prog 90 #[.pointer (some ⟨Bs, 0, none⟩)] (fun x : Fin zs.length => #[Value.int .i64 (x.1 : Int), Value.int .u32 (dg zs x.1)]) (Kp2 Bs b) (fun ys => ys = dn zs.length)
      (fun pre => ∃ k, k ≤ zs.length ∧ pre = (dn zs.length).take k) zs.length w := fun l J Jx W hW _ _ hY h0 => by
  have hc' := (hW.cell (p := ⟨Bs, 0, none⟩) hBs).trans hc
  by_cases hne : zs = []
  · subst hne
    exact (back1_nil_in l Bs a cap J W hc' h0).mono fun e W' ⟨he, hj⟩ => ⟨he, .inl ⟨_, rfl, hj⟩⟩
  · obtain ⟨off, rfl, hat⟩ := hI hne
    exact back1_in l Bs b off cap zs hl J Jx hY W hc' (fun j hj => (hW.cell (p := ⟨b, off + j, none⟩) hb).trans (hat j hj)) h0

end Go.Proofs.YtegmckpcchhmdaaDoor.Nm

/- The walk of smallMag: the number of a magnitude that is small. -/
namespace Go.Proofs.YtegmckpcchhmdaaDoor.Nm
open Go.RowKit Go.Shelf
attribute [local go_sem] Oper.semAt_some

/-- What the uint64 is when the digits at these places have come. -/
def accU (xs : List Int) (pre : List (Fin xs.length)) : Int := pre.foldl (fun s i => (s * 1000000000 + dg xs i.1) % 18446744073709551616) 0
theorem accU_snoc (xs : List Int) (pre : List (Fin xs.length)) (i : Fin xs.length) : accU xs (pre ++ [i]) = (accU xs pre * 1000000000 + dg xs i.1) % 18446744073709551616 := by simp [accU]
theorem accU_bd (xs : List Int) (pre : List (Fin xs.length)) : 0 ≤ accU xs pre ∧ accU xs pre < 18446744073709551616 := by
  rcases List.eq_nil_or_concat pre with rfl | ⟨q, i, rfl⟩
  · simp [accU]
  · rw [List.concat_eq_append, accU_snoc]; omega
theorem accU_take (xs : List Int) (k : Nat) (hk : k ≤ xs.length) : accU xs ((dn xs.length).take k) = val (xs.drop (xs.length - k)) % 18446744073709551616 := by
  induction k with
  | zero => simp [accU, val]
  | succ k ih =>
    rw [dn_take_succ _ _ (by omega), accU_snoc, ih (by omega)]
    have e : xs.drop (xs.length - (k + 1)) = (dg xs (xs.length - 1 - k)) :: xs.drop (xs.length - k) := by
      have h1 : xs.length - (k + 1) < xs.length := by omega
      rw [List.drop_eq_getElem_cons h1]
      rw [show xs.length - 1 - k = xs.length - (k + 1) by omega, dg, List.getElem?_eq_getElem h1, show xs.length - (k + 1) + 1 = xs.length - k by omega]
      simp
    rw [e]
    simp only [val]
    omega
theorem accU_all (xs : List Int) : accU xs (dn xs.length) = val xs % 18446744073709551616 := by
  have := accU_take xs xs.length (Nat.le_refl _)
  rw [List.take_of_length_le (by rw [dn_length]; omega)] at this
  simpa using this

set_option maxRecDepth 100000 in
set_option maxHeartbeats 1000000 in
theorem smallMag_yes (a : Option Addr) (cap : Nat) (xs : List Int) (w : World) (hat : xs ≠ [] → ∃ b off, a = some ⟨b, off, none⟩ ∧ b < w.heap.size ∧ At w b off xs) (hd : Dig xs) (hl : xs.length ≤ 3) (h9 : xs.length = 3 → xs[2]?.getD 0 ≤ 9) (hv : val xs < 18446744073709551616) :
    Calls Tryd.prog 85 #[.slice a xs.length cap] w fun e w' => e = .returned (.tuple #[.int .u64 (val xs), .bool true]) ∧ Below w.heap.size w w' := by
  refine (callsIn_wide (n := 10)).1 ?_
  refine callsIn_of_wp_marks Tryd.func85 rfl trivial ?_ rfl
  simp only [Tryd.ntmps85, List.size_toArray, List.length_cons, List.length_nil, Nat.reduceAdd, Nat.reduceSub, Array.replicate_succ, Array.replicate_zero, List.push_toArray, List.append_toArray, List.nil_append, List.cons_append]
  by_cases h3 : xs.length = 3
  · have h3' : ((xs.length : Int) == 3) = true := by simp; omega
    obtain ⟨b0, off0, rfl, hb0, hc0⟩ := hat (by intro e; subst e; simp at h3)
    have hc2 := hc0 2 (by omega)
    have h92 := h9 h3
    obtain ⟨d2, hd2, hd20, hd21⟩ := hd.get 2
    rw [hd2] at hc2 h92
    have H3 := hide h3
    clear h3 h9 hd2
    have h3i : (2 : Int) < (xs.length : Int) := by have := unhide H3; omega
    have h3j : ¬ (3 : Int) < (xs.length : Int) := by have := unhide H3; omega
    have hq : decide ((9 : Int) < d2) = false := by simp; omega
    gi_wp2_with fail
    refine ⟨trivial, (callsIn_wide.2 (back_any _ _ _ _)).mono ?_⟩
    rintro e w' ⟨rfl, rfl⟩
    gi_wp2
    generalize ha : some (⟨b0, off0, none⟩ : Addr) = a at *
    have bS := Boxed.new w 193 (.int .u64 0)
    have bN := Boxed.new (w.alloc (.cells #[.int .u64 0] 193)) 168 (.slice a xs.length cap)
    rw [World.size_alloc] at bN
    have hB0 : Below w.heap.size w ((w.alloc (.cells #[.int .u64 0] 193)).alloc (.cells #[.slice a xs.length cap] 168)) := ((Below.refl _ w).alloc (Nat.le_refl _) _).alloc (by simp) _
    obtain ⟨b, hbw, hI⟩ : ∃ b, b < w.heap.size + 1 + 1 ∧ b ≠ w.heap.size ∧ (xs ≠ [] → ∃ off, a = some ⟨b, off, none⟩ ∧ At ((w.alloc (.cells #[.int .u64 0] 193)).alloc (.cells #[.slice a xs.length cap] 168)) b off xs) := by
      by_cases hne : xs = []
      · exact ⟨w.heap.size + 1, by omega, by omega, fun h => absurd hne h⟩
      · obtain ⟨b, off, e, hb, hc⟩ := hat hne
        exact ⟨b, by omega, by omega, fun _ => ⟨off, e, fun j hj => (hB0.cell (p := ⟨b, off + j, none⟩) hb).trans (hc j hj)⟩⟩
    obtain ⟨hbn, hI⟩ := hI
    refine wpIn_rangeFunc_ownG rfl (by decide) (gf := 90) (lb := #[.pointer (some ⟨w.heap.size + 1, 0, none⟩)]) rfl trivial (enters_of Tryd.func90 (by kernel_rfl) rfl)
      (back_stops (w.heap.size + 1) b a cap xs (by omega) _ (by simp) (by simp; omega) bN.cell hI) kp2_t (kp2_b (by simp) (by simp; omega)) (Below.refl _ _) (fun _ => rfl)
      (fun pre W => (W.cell? ⟨w.heap.size, 0, none⟩ = some (.int .u64 (accU xs pre)) ∧ W.frozen? ⟨w.heap.size, 0, none⟩ = false) ∧ Below w.heap.size w W)
      (fun _ _ _ => False)
      (OwnFrom.and (Own.from (fun s A B row hs hg hr => ⟨cell_kept hs.1 hg hr, (frozen_kept hs.1 hg hr).trans hs.2⟩) _) (ownFrom_below (Nat.le_refl _) (by simp; omega)))
      (fun _ _ _ _ _ hs _ _ => hs)
      ⟨⟨(bS.alloc _).cell, (bS.alloc _).frozen⟩, hB0⟩
      (fun x => { tmps := #[.slice a xs.length cap, undef, .int .u64 0, .bool false, .pointer (some ⟨w.heap.size, 0, none⟩), undef, .int .u32 (dg xs x.1), .slice a xs.length cap, .int .i64 xs.length, .bool false, .bool false, .slice a xs.length cap, .int .i64 xs.length, .bool true, .bool true, .slice a xs.length cap, .pointer (some ⟨b0, off0 + 2, none⟩), .int .u32 d2, .bool false, .bool false, .bool false, .slice a xs.length cap, .func (.func 90) #[] #[.pointer (some ⟨w.heap.size + 1, 0, none⟩)], .int .i64 (x.1 : Int), .int .u32 (dg xs x.1), undef, undef, undef, undef, undef, undef], defers := [] }) ?assign ?body ?done ?stop
    case assign =>
      intro l x W K hK
      gi_wp2
      exact hK
    case body =>
      rintro l pre x W ⟨⟨hc, hf⟩, hB⟩ _
      obtain ⟨hd0, hd1⟩ := hd.dg x.1
      have hacc := accU_bd xs pre
      gi_wp2
      refine ⟨(KeepsOthers.setCell _ _ _).from _, (Kp2.refl _ _ _).setCell (by simp) (by simpa using hbn) _, ⟨?_, by rw [World.frozen?_setCell]; exact hf⟩, hB.setCell (p := ⟨w.heap.size, 0, none⟩) (Nat.le_refl _) _⟩
      rw [accU_snoc, World.cell?_setCell_same _ _ _ hc]
      congr 2
      simp only [IntKind.wrap_u64]
      omega
    case done =>
      rintro D ys W hD rfl ⟨⟨hc, _⟩, hB⟩ hK
      gi_wp2
      refine ⟨by simp, .inl ⟨_, _, rfl, run_takeDeferred hK, ?_⟩⟩
      refine ⟨_, results_tmp2 rfl _ _ _, ?_, hB.trans (belowK_b (w := w) (Nat.le_refl _) W D _ _ (by simp at hD; omega) hK rfl rfl)⟩
      have e : accU xs (dn xs.length) = val xs := by rw [accU_all]; have := val_nonneg hd; omega
      rw [← e]
      rfl
    case stop =>
      rintro D c pre W _ _ h _
      exact h.elim

  · have h3' : ((xs.length : Int) == 3) = false := by simp; omega
    have h3'' : ¬ (3 : Int) < (xs.length : Int) := by omega
    clear h9
    gi_wp2_with fail
    refine ⟨trivial, (callsIn_wide.2 (back_any _ _ _ _)).mono ?_⟩
    rintro e w' ⟨rfl, rfl⟩
    gi_wp2
    have bS := Boxed.new w 193 (.int .u64 0)
    have bN := Boxed.new (w.alloc (.cells #[.int .u64 0] 193)) 168 (.slice a xs.length cap)
    rw [World.size_alloc] at bN
    have hB0 : Below w.heap.size w ((w.alloc (.cells #[.int .u64 0] 193)).alloc (.cells #[.slice a xs.length cap] 168)) := ((Below.refl _ w).alloc (Nat.le_refl _) _).alloc (by simp) _
    obtain ⟨b, hbw, hI⟩ : ∃ b, b < w.heap.size + 1 + 1 ∧ b ≠ w.heap.size ∧ (xs ≠ [] → ∃ off, a = some ⟨b, off, none⟩ ∧ At ((w.alloc (.cells #[.int .u64 0] 193)).alloc (.cells #[.slice a xs.length cap] 168)) b off xs) := by
      by_cases hne : xs = []
      · exact ⟨w.heap.size + 1, by omega, by omega, fun h => absurd hne h⟩
      · obtain ⟨b, off, e, hb, hc⟩ := hat hne
        exact ⟨b, by omega, by omega, fun _ => ⟨off, e, fun j hj => (hB0.cell (p := ⟨b, off + j, none⟩) hb).trans (hc j hj)⟩⟩
    obtain ⟨hbn, hI⟩ := hI
    refine wpIn_rangeFunc_ownG rfl (by decide) (gf := 90) (lb := #[.pointer (some ⟨w.heap.size + 1, 0, none⟩)]) rfl trivial (enters_of Tryd.func90 (by kernel_rfl) rfl)
      (back_stops (w.heap.size + 1) b a cap xs (by omega) _ (by simp) (by simp; omega) bN.cell hI) kp2_t (kp2_b (by simp) (by simp; omega)) (Below.refl _ _) (fun _ => rfl)
      (fun pre W => (W.cell? ⟨w.heap.size, 0, none⟩ = some (.int .u64 (accU xs pre)) ∧ W.frozen? ⟨w.heap.size, 0, none⟩ = false) ∧ Below w.heap.size w W)
      (fun _ _ _ => False)
      (OwnFrom.and (Own.from (fun s A B row hs hg hr => ⟨cell_kept hs.1 hg hr, (frozen_kept hs.1 hg hr).trans hs.2⟩) _) (ownFrom_below (Nat.le_refl _) (by simp; omega)))
      (fun _ _ _ _ _ hs _ _ => hs)
      ⟨⟨(bS.alloc _).cell, (bS.alloc _).frozen⟩, hB0⟩
      (fun x => { tmps := #[.slice a xs.length cap, undef, .int .u64 0, .bool false, .pointer (some ⟨w.heap.size, 0, none⟩), undef, .int .u32 (dg xs x.1), .slice a xs.length cap, .int .i64 xs.length, .bool false, .bool false, .slice a xs.length cap, .int .i64 xs.length, .bool false, .bool false, undef, undef, undef, undef, .bool false, .bool false, .slice a xs.length cap, .func (.func 90) #[] #[.pointer (some ⟨w.heap.size + 1, 0, none⟩)], .int .i64 (x.1 : Int), .int .u32 (dg xs x.1), undef, undef, undef, undef, undef, undef], defers := [] }) ?assign ?body ?done ?stop
    case assign =>
      intro l x W K hK
      gi_wp2
      exact hK
    case body =>
      rintro l pre x W ⟨⟨hc, hf⟩, hB⟩ _
      obtain ⟨hd0, hd1⟩ := hd.dg x.1
      have hacc := accU_bd xs pre
      gi_wp2
      refine ⟨(KeepsOthers.setCell _ _ _).from _, (Kp2.refl _ _ _).setCell (by simp) (by simpa using hbn) _, ⟨?_, by rw [World.frozen?_setCell]; exact hf⟩, hB.setCell (p := ⟨w.heap.size, 0, none⟩) (Nat.le_refl _) _⟩
      rw [accU_snoc, World.cell?_setCell_same _ _ _ hc]
      congr 2
      simp only [IntKind.wrap_u64]
      omega
    case done =>
      rintro D ys W hD rfl ⟨⟨hc, _⟩, hB⟩ hK
      gi_wp2
      refine ⟨by simp, .inl ⟨_, _, rfl, run_takeDeferred hK, ?_⟩⟩
      refine ⟨_, results_tmp2 rfl _ _ _, ?_, hB.trans (belowK_b (w := w) (Nat.le_refl _) W D _ _ (by simp at hD; omega) hK rfl rfl)⟩
      have e : accU xs (dn xs.length) = val xs := by rw [accU_all]; have := val_nonneg hd; omega
      rw [← e]
      rfl
    case stop =>
      rintro D c pre W _ _ h _
      exact h.elim

end Go.Proofs.YtegmckpcchhmdaaDoor.Nm

/- The walk of cmpMag: which of two magnitudes is greater. -/
namespace Go.Proofs.YtegmckpcchhmdaaDoor.Nm
open Go.RowKit Go.Shelf
attribute [local go_sem] Oper.semAt_some

end Go.Proofs.YtegmckpcchhmdaaDoor.Nm

/- The walk of quoDigit: a magnitude by one digit. -/
namespace Go.Proofs.YtegmckpcchhmdaaDoor.Nm
open Go.RowKit Go.Shelf
attribute [local go_sem] Oper.semAt_some

theorem Mg.put {w w' : World} {v : Value} {xs : List Int} {row : Option Nat} (h : Mg w v xs) (hg : w.grownBy w' row) (hr : ∀ r, row = some r → ∃ o : Obj, w.heap[r]? = some o ∧ o.isCells = false) : Mg w' v xs := by
  obtain ⟨a, cap, e, hc, hat⟩ := h
  refine ⟨a, cap, e, hc, fun hne => ?_⟩
  obtain ⟨b, off, ea, hb, hcell⟩ := hat hne
  exact ⟨b, off, ea, Nat.lt_of_lt_of_le hb hg.size, fun j hj => cell_kept (hcell j hj) hg hr⟩
theorem Mg.drewN {w : World} {v : Value} {xs : List Int} (h : Mg w v xs) (q : Nat) : Mg (w.drewN q) v xs := h
theorem At.setAt {w : World} {b : Nat} {O : List Int} (h : At w b 0 O) {i : Nat} (hi : i < O.length) (d : Int) : At (w.setCell ⟨b, i, none⟩ (.int .u32 d)) b 0 (O.set i d) := by
  intro j hj
  rw [List.length_set] at hj
  rw [Nat.zero_add]
  by_cases e : j = i
  · subst e
    have h0 := h j hi
    rw [Nat.zero_add] at h0
    rw [World.cell?_setCell_same _ _ _ h0]
    simp [hi]
  · rw [World.cell?_setCell_other _ _ _ _ (by intro h'; injection h' with _ h2; exact e h2.symm)]
    have h0 := h j hj
    rw [Nat.zero_add] at h0
    rw [h0, List.getElem?_set_ne (fun e' => e e'.symm)]
theorem mk32 (n : Nat) (w : World) (hn : n ≤ 1000000) : (Instr.makeSlice 168 (.int .i64 (n : Int)) (.int .i64 (n : Int))).run Tryd.prog w = .ok (.slice (some ⟨w.heap.size, 0, none⟩) n n) (w.alloc (.cells (madeCells #[.int .u32 0] n) 199)) := by
  obtain ⟨i0, hi, hz0, hz1, hz2⟩ := info_parts info32
  have hr := run_make (P := Tryd.prog) w 168 199 i0 (.int .u32 0) Tryd.underlying168 hi hz0 .i64 .i64 n n (by omega) (Int.le_refl _) (by rw [hz2]; omega) (by omega)
  rw [hz1] at hr
  simp only [Int.toNat_natCast, Nat.mul_one] at hr
  exact hr
theorem at_made (w : World) (n : Nat) : At (w.alloc (.cells (madeCells #[.int .u32 0] n) 199)) w.heap.size 0 (List.replicate n 0) := by
  intro j hj
  have hj' : j < n := by simpa using hj
  rw [Nat.zero_add, World.cell?_alloc_at _ _ _ _ rfl]
  have : (madeCells #[Value.int .u32 0] n).toList[j]? = some (.int .u32 0) := by rw [toList_madeCells_one]; simp [hj']
  simpa [hj'] using this

end Go.Proofs.YtegmckpcchhmdaaDoor.Nm

namespace Go.Proofs.YtegmckpcchhmdaaDoor.Nm
open Go.RowKit

theorem Dg.at {s : ByteArray} (h : Dg s.data.toList) (i : Nat) (hi : i < s.size) : 48 ≤ (s[i]'hi).toNat ∧ (s[i]'hi).toNat ≤ 57 := h _ (by
  show s.data[i] ∈ s.data.toList
  simp)

theorem get_toList (s : ByteArray) (i : Nat) (hi : i < s.size) (h : i < s.data.toList.length) : s.data.toList[i]'h = s[i]'hi := by
  rw [Array.getElem_toList]
  rfl

set_option maxRecDepth 100000 in
set_option maxHeartbeats 800000 in
theorem areDigits_yes (s : ByteArray) (w : World) (hd : Dg s.data.toList) (hn : 0 < s.size) (hl : s.size ≤ 4000) :
    Calls Tryd.prog 80 #[.string s] w fun e w' => e = .returned (.bool true) ∧ Below w.heap.size w w' := by
  have hk0 : (w.iter s 0).heap[w.heap.size]? = some (.stringIter s 0) := World.iter_heap w s 0
  have hb0 : Below w.heap.size w (w.iter s 0) := (Below.refl _ w).alloc (Nat.le_refl _) _
  go_enter Tryd.func80, Tryd.ntmps80
  go_wp2
  go_loopw [4] (fun _ wr => ∃ pos : Nat, pos ≤ s.size ∧ wr.heap[w.heap.size]? = some (.stringIter s pos) ∧ Below w.heap.size w wr) (fun _ wr => s.size - wr.iterPos w.heap.size)
  case atStart => exact ⟨0, Nat.zero_le _, hk0, hb0⟩
  case round =>
    obtain ⟨pos, hps, hk, hnx⟩ := hrel
    clear hk0 hb0
    by_cases hp : pos < s.size
    · obtain ⟨c0, c1⟩ := hd.at pos hp
      have hnext : ∀ ty, (Instr.next (.pointer (some ⟨w.heap.size, 0, none⟩)) true ty).run Tryd.prog wr = _ := fun ty => Lib.run_next_ascii_at wr w.heap.size s pos ty hk hp (by omega)
      have hk1 := Lib.iterAt_heap wr w.heap.size s pos (pos + 1) hk
      have hnx1 : Below w.heap.size w (wr.iterAt w.heap.size s (pos + 1)) := Lib.below_iterAt hnx (by omega) s (pos + 1)
      have hmu : wr.iterPos w.heap.size = pos := by simp [World.iterPos, hk]
      generalize wr.iterAt w.heap.size s (pos + 1) = W1 at hnext hk1 hnx1
      obtain ⟨c, hc⟩ : ∃ c : Int, c = ((s[pos]'hp).toNat : Int) := ⟨_, rfl⟩
      have c0' : 48 ≤ c := by omega
      have c1' : c ≤ 57 := by omega
      rw [← hc] at hnext
      clear hc c0 c1
      have ct0 : decide (c < 48) = false := by simp; omega
      have ct1 : decide (57 < c) = false := by simp; omega
      have HM := hide hmu
      clear hmu
      go_wp2
      exact ⟨⟨pos + 1, by omega, hk1, hnx1⟩, by rw [unhide HM]; simp [World.iterPos, hk1]; omega⟩
    · have hnext : ∀ ty, (Instr.next (.pointer (some ⟨w.heap.size, 0, none⟩)) true ty).run Tryd.prog wr = _ := fun ty => Lib.run_next_end_at wr w.heap.size s pos ty hk hp
      have hemp : (!s.toList.isEmpty) = true := by
        rw [Lib.toList_data]
        cases h : s.data.toList with
        | nil =>
          have h2 : s.data.toList.length = s.size := by simp
          rw [h] at h2
          simp only [List.length_nil] at h2
          omega
        | cons _ _ => rfl
      have HE := hide hemp
      clear hemp
      go_wp2
      go_ret
      exact ⟨by show Ending.returned (Value.bool (!s.toList.isEmpty)) = _; rw [unhide HE], hnx⟩

theorem At.at_ {w : World} {b : Nat} {xs : List Int} (h : At w b 0 xs) {j : Nat} (hj : j < xs.length) : w.cell? ⟨b, j, none⟩ = some (.int .u32 (xs[j]?.getD 0)) := by
  have := h j hj
  rwa [Nat.zero_add] at this
theorem iterAt_cell (w : World) (k : Nat) (s : ByteArray) (pos : Nat) (p : Addr) (hp : p.block ≠ k) : (w.iterAt k s pos).cell? p = w.cell? p := World.cell?_of_block (w := w) (by simp [World.iterAt, hp.symm])
theorem iterAt_frozen (w : World) (k : Nat) (s : ByteArray) (pos : Nat) (p : Addr) (hp : p.block ≠ k) : (w.iterAt k s pos).frozen? p = w.frozen? p := World.frozen?_of_block (w := w) (by simp [World.iterAt, hp.symm])
theorem iterAt_size (w : World) (k : Nat) (s : ByteArray) (pos : Nat) : (w.iterAt k s pos).heap.size = w.heap.size := by simp [World.iterAt]

set_option maxRecDepth 100000 in
set_option maxHeartbeats 1600000 in
theorem parseMag_any (s : ByteArray) (w : World) (hd : Dg s.data.toList) (hl : s.size ≤ 4000) :
    Calls Tryd.prog 82 #[.string s] w fun e w' => ∃ v xs, e = .returned v ∧ Below w.heap.size w w' ∧ Mg w' v xs ∧ Dig xs ∧ Norm xs ∧ val xs = dec s.data.toList ∧ xs.length ≤ s.size + 8 := by
  have hsz : s.data.toList.length = s.size := by simp
  obtain ⟨n, hn⟩ : ∃ n, n = (s.size + 8) / 9 := ⟨_, rfl⟩
  have hq1 : ((s.size : Int) + 9 - 1).tdiv 9 = (n : Int) := by rw [Int.tdiv_eq_ediv_of_nonneg (by omega)]; omega
  have hmk := mk32 n w (by omega)
  have hk0 : ((w.alloc (.cells (madeCells #[.int .u32 0] n) 199)).iter s 0).heap[w.heap.size + 1]? = some (.stringIter s 0) := by
    have := World.iter_heap (w.alloc (.cells (madeCells #[.int .u32 0] n) 199)) s 0
    rwa [World.size_alloc] at this
  have hb0 : Below w.heap.size w ((w.alloc (.cells (madeCells #[.int .u32 0] n) 199)).iter s 0) := ((Below.refl _ w).alloc (Nat.le_refl _) _).alloc (by simp) _
  have hA0 : At ((w.alloc (.cells (madeCells #[.int .u32 0] n) 199)).iter s 0) w.heap.size 0 (List.replicate n 0) := fun j hj => by
    have h1 : ((w.alloc (.cells (madeCells #[.int .u32 0] n) 199)).iter s 0).cell? ⟨w.heap.size, 0 + j, none⟩ = (w.alloc (.cells (madeCells #[.int .u32 0] n) 199)).cell? ⟨w.heap.size, 0 + j, none⟩ := World.cell?_alloc_past _ _ _ (by simp)
    rw [h1]
    exact at_made w n j hj
  have hF0 : ∀ j, ((w.alloc (.cells (madeCells #[.int .u32 0] n) 199)).iter s 0).frozen? ⟨w.heap.size, j, none⟩ = false := fun j => by
    have h1 : ((w.alloc (.cells (madeCells #[.int .u32 0] n) 199)).iter s 0).frozen? ⟨w.heap.size, j, none⟩ = (w.alloc (.cells (madeCells #[.int .u32 0] n) 199)).frozen? ⟨w.heap.size, j, none⟩ := World.frozen?_alloc_past _ _ _ (by simp)
    rw [h1]
    exact World.frozen?_alloc_at _ _ _ _ rfl
  have hZ0 : w.heap.size + 1 < ((w.alloc (.cells (madeCells #[.int .u32 0] n) 199)).iter s 0).heap.size := by
    have : ((w.alloc (.cells (madeCells #[.int .u32 0] n) 199)).iter s 0).heap.size = (w.alloc (.cells (madeCells #[.int .u32 0] n) 199)).heap.size + 1 := World.size_alloc _ _
    rw [this, World.size_alloc]; omega
  have hwn : wrap64 (n : Int) = n := by unfold wrap64; omega
  have HN := hide hn
  clear hn
  go_enter Tryd.func82, Tryd.ntmps82
  go_wp2
  go_loopw [4] (fun _ wr => ∃ (pos : Nat) (O : List Int), pos ≤ s.size ∧ wr.heap[w.heap.size + 1]? = some (.stringIter s pos) ∧ At wr w.heap.size 0 O ∧ O.length = n ∧ (∀ j, wr.frozen? ⟨w.heap.size, j, none⟩ = false) ∧ Below w.heap.size w wr ∧ w.heap.size + 1 < wr.heap.size ∧ PM s.data.toList s.size pos O) (fun _ wr => s.size - wr.iterPos (w.heap.size + 1))
  case atStart => exact ⟨0, List.replicate n 0, Nat.zero_le _, hk0, hA0, by simp, hF0, hb0, hZ0, by rw [unhide HN]; exact PM.start _ _⟩
  case round =>
    obtain ⟨pos, O, hps, hk, hA, hOl, hF, hnx, hZ, hPM⟩ := hrel
    clear hk0 hb0 hA0 hF0 hZ0 hmk
    by_cases hp : pos < s.size
    · obtain ⟨c0, c1⟩ := hd.at pos hp
      have hnext : ∀ ty, (Instr.next (.pointer (some ⟨w.heap.size + 1, 0, none⟩)) true ty).run Tryd.prog wr = _ := fun ty => Lib.run_next_ascii_at wr (w.heap.size + 1) s pos ty hk hp (by omega)
      have hk1 := Lib.iterAt_heap wr (w.heap.size + 1) s pos (pos + 1) hk
      have hnx1 : Below w.heap.size w (wr.iterAt (w.heap.size + 1) s (pos + 1)) := Lib.below_iterAt hnx (by omega) s (pos + 1)
      have hA1 : At (wr.iterAt (w.heap.size + 1) s (pos + 1)) w.heap.size 0 O := fun j hj => (iterAt_cell _ _ _ _ ⟨w.heap.size, 0 + j, none⟩ (by show w.heap.size ≠ w.heap.size + 1; omega)).trans (hA j hj)
      have hF1 : ∀ j, (wr.iterAt (w.heap.size + 1) s (pos + 1)).frozen? ⟨w.heap.size, j, none⟩ = false := fun j => (iterAt_frozen _ _ _ _ ⟨w.heap.size, j, none⟩ (by show w.heap.size ≠ w.heap.size + 1; omega)).trans (hF j)
      have hZ1 : w.heap.size + 1 < (wr.iterAt (w.heap.size + 1) s (pos + 1)).heap.size := by rw [iterAt_size]; exact hZ
      have hmu : wr.iterPos (w.heap.size + 1) = pos := by simp [World.iterPos, hk]
      obtain ⟨c, hc⟩ : ∃ c : Int, c = ((s[pos]'hp).toNat : Int) := ⟨_, rfl⟩
      have c0' : 48 ≤ c := by omega
      have c1' : c ≤ 57 := by omega
      rw [← hc] at hnext
      obtain ⟨x, hx, x0, x1, hal, hPM1⟩ := hPM.step hp hsz (d := c - 48) (by rw [hc, get_toList s pos hp (by omega)]) (by omega) (by omega)
      obtain ⟨a, ha⟩ : ∃ a, a = (s.size - 1 - pos) / 9 := ⟨_, rfl⟩
      rw [← ha] at hx hal hPM1
      have hq2 : ((s.size : Int) - 1 - (pos : Int)).tdiv 9 = (a : Int) := by rw [Int.tdiv_eq_ediv_of_nonneg (by omega)]; omega
      have hwa : wrap64 (a : Int) = a := by unfold wrap64; omega
      have hca := hA1.at_ hal
      rw [hx] at hca
      have hfa := hF1 a
      have han : a < n := by rw [← hOl]; exact hal
      have hwd : IntKind.u32.wrap (c - 48) = c - 48 := by rw [IntKind.wrap_u32]; omega
      generalize wr.iterAt (w.heap.size + 1) s (pos + 1) = W1 at *
      have HM := hide hmu
      have HX := hide hx
      have HO := hide hOl
      have HP := hide hPM1
      have HA1 := hide hA1
      have HF1 := hide hF1
      clear hmu hc c0 c1 hx hOl hPM hPM1 hA hF hA1 hF1 ha
      have hkf : (W1.setCell ⟨w.heap.size, a, none⟩ (.int .u32 (x * 10 + (c - 48)))).heap[w.heap.size + 1]? = some (.stringIter s (pos + 1)) := by
        rw [Below.heap_setCell _ _ _ _ (by show w.heap.size + 1 ≠ w.heap.size; omega)]; exact hk1
      have HKF := hide hkf
      clear hkf
      go_wp2
      refine ⟨⟨pos + 1, O.set a (x * 10 + (c - 48)), by omega, unhide HKF, (unhide HA1).setAt hal _, by rw [List.length_set]; exact unhide HO, fun j => (World.frozen?_setCell _ _ _ _).trans (unhide HF1 j), hnx1.setCell (p := ⟨w.heap.size, a, none⟩) (Nat.le_refl _) _, by simpa using hZ1, unhide HP⟩, ?_⟩
      rw [unhide HM]
      simp only [World.iterPos, unhide HKF]
      omega
    · have hnext : ∀ ty, (Instr.next (.pointer (some ⟨w.heap.size + 1, 0, none⟩)) true ty).run Tryd.prog wr = _ := fun ty => Lib.run_next_end_at wr (w.heap.size + 1) s pos ty hk hp
      obtain rfl : pos = s.size := by omega
      obtain ⟨hv, hdO⟩ := hPM.done hsz
      have hm : Mg wr (.slice (some ⟨w.heap.size, 0, none⟩) n n) O := by
        have := hA.mg (cap := n) (by omega) (by omega)
        rwa [hOl] at this
      have hOn : O.length ≤ s.size + 8 := by have := unhide HN; omega
      have HV := hide hv
      clear hv hA hF hPM hOl
      go_wp2_with fail
      refine (trim_any _ O wr hm hdO (by omega)).mono ?_
      rintro e w3 ⟨v3, ys3, rfl, rfl, hm3, hd3, hn3, hv3, hl3⟩
      have HV3 := hide hv3
      clear hv3
      go_wp2
      go_ret
      exact ⟨_, ys3, rfl, hnx, hm3, hd3, hn3, (unhide HV3).trans (unhide HV), by omega⟩

end Go.Proofs.YtegmckpcchhmdaaDoor.Nm
