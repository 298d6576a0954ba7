/- The walk of cmpMag: which of two magnitudes is greater. -/
import Derived.Test.YtdkenobgfgmepaaDoorRows
import Derived.WalkKit
import Derived.WalkSpells
import Derived.WalkLawsBesides
import Derived.Deep.QuietTactic
import Derived.BigQuiet
import Derived.RangeFuncNested
import Derived.RangeFuncBound
import Derived.RangeFuncCalls
import Derived.RangeFuncLeaves
import Derived.Shelf.Abstract
import Derived.Shelf.RegionOpen
import Derived.OwnWalkIn
import Derived.TacticsInMore
import Derived.LoopNIn
import Derived.LoopIn
set_option linter.unusedVariables false
set_option linter.unusedSimpArgs false

/- Plain facts on digits to the base of a thousand millions, the least first: their value, noughts at the top, how many there are. No program. -/
namespace Go.Proofs.YtdkenobgfgmepaaDoor.Nm

/-- The base. -/
def BB : Int := 1000000000
/-- The number of the digits xs, the least first. -/
def val : List Int → Int
  | [] => 0
  | x :: xs => x + 1000000000 * val xs
/-- Each is a digit. -/
def Dig (xs : List Int) : Prop := ∀ x ∈ xs, 0 ≤ x ∧ x < 1000000000
/-- No nought at the top. -/
def Norm (xs : List Int) : Prop := ∀ h : xs ≠ [], xs.getLast h ≠ 0
/-- The base to the k. -/
def pw : Nat → Int
  | 0 => 1
  | k + 1 => 1000000000 * pw k

theorem pw_pos (k : Nat) : 0 < pw k := by
  induction k with
  | zero => decide
  | succ k ih => simp only [pw]; omega
theorem pw_add (a b : Nat) : pw (a + b) = pw a * pw b := by
  induction a with
  | zero => simp [pw]
  | succ a ih => rw [Nat.succ_add]; simp only [pw]; rw [ih, Int.mul_assoc]
theorem pw_mono {a b : Nat} (h : a ≤ b) : pw a ≤ pw b := by
  obtain ⟨c, rfl⟩ := Nat.exists_eq_add_of_le h
  rw [pw_add]
  have h1 := pw_pos a
  have h2 := pw_pos c
  have h3 := Int.mul_le_mul_of_nonneg_left (show (1 : Int) ≤ pw c by omega) (Int.le_of_lt h1)
  omega
theorem val_append (xs ys : List Int) : val (xs ++ ys) = val xs + pw xs.length * val ys := by
  induction xs with
  | nil => simp [val, pw]
  | cons x xs ih =>
    simp only [List.cons_append, val, List.length_cons, pw]
    rw [ih, Int.mul_add, Int.mul_assoc]; omega
theorem val_snoc (xs : List Int) (d : Int) : val (xs ++ [d]) = val xs + pw xs.length * d := by
  rw [val_append]; simp [val]
theorem Dig.append {xs ys : List Int} (h : Dig xs) (k : Dig ys) : Dig (xs ++ ys) := by
  intro x hx
  rcases List.mem_append.1 hx with hx | hx
  · exact h x hx
  · exact k x hx
theorem Dig.one {d : Int} (h0 : 0 ≤ d) (h1 : d < 1000000000) : Dig [d] := by
  intro x hx
  simp at hx; subst hx; exact ⟨h0, h1⟩
theorem Dig.nil : Dig [] := by intro x hx; cases hx
theorem Dig.take {xs : List Int} (h : Dig xs) (k : Nat) : Dig (xs.take k) := fun x hx => h x (List.mem_of_mem_take hx)
theorem Dig.drop {xs : List Int} (h : Dig xs) (k : Nat) : Dig (xs.drop k) := fun x hx => h x (List.mem_of_mem_drop hx)
theorem Dig.at {xs : List Int} (h : Dig xs) (k : Nat) : 0 ≤ xs[k]?.getD 0 ∧ xs[k]?.getD 0 < 1000000000 := by
  cases e : xs[k]? with
  | none => simp
  | some v => exact h v (List.mem_of_getElem? e)
theorem Dig.get {xs : List Int} (h : Dig xs) (k : Nat) : ∃ x, xs[k]?.getD 0 = x ∧ 0 ≤ x ∧ x < 1000000000 := ⟨_, rfl, h.at k⟩
theorem take_snoc (xs : List Int) (k : Nat) (h : k < xs.length) : xs.take (k + 1) = xs.take k ++ [xs[k]?.getD 0] := by
  rw [List.take_add_one, List.getElem?_eq_getElem h]; rfl
theorem val_take_succ (xs : List Int) (k : Nat) (h : k < xs.length) : val (xs.take (k + 1)) = val (xs.take k) + pw k * (xs[k]?.getD 0) := by
  rw [take_snoc xs k h, val_snoc, List.length_take, Nat.min_eq_left (Nat.le_of_lt h)]
theorem val_take_succ' (xs : List Int) (k : Nat) : val (xs.take (k + 1)) = val (xs.take k) + pw k * (xs[k]?.getD 0) := by
  by_cases h : k < xs.length
  · exact val_take_succ xs k h
  · rw [List.take_of_length_le (by omega), List.take_of_length_le (by omega), List.getElem?_eq_none (by omega)]
    simp
theorem val_nonneg {xs : List Int} (h : Dig xs) : 0 ≤ val xs := by
  induction xs with
  | nil => simp [val]
  | cons x xs ih =>
    have h1 := h x (by simp)
    have h2 := ih (fun y hy => h y (by simp [hy]))
    simp only [val]; omega
theorem val_lt {xs : List Int} (h : Dig xs) : val xs < pw xs.length := by
  induction xs with
  | nil => simp [val, pw]
  | cons x xs ih =>
    have h1 := h x (by simp)
    have h2 := ih (fun y hy => h y (by simp [hy]))
    simp only [val, List.length_cons, pw]; omega
/-- As many digits as the number wants. -/
theorem le_val {xs : List Int} (h : Dig xs) (hn : Norm xs) (hne : xs ≠ []) : pw (xs.length - 1) ≤ val xs := by
  have e := List.dropLast_concat_getLast hne
  have hl : xs.dropLast.length = xs.length - 1 := by simp
  have h1 := hn hne
  have h2 := h _ (List.getLast_mem hne)
  have h3 := val_nonneg (xs := xs.dropLast) (fun y hy => h y (List.dropLast_subset xs hy))
  rw [← e, val_snoc]
  simp only [List.length_append, List.length_cons, List.length_nil, hl]
  rw [show xs.length - 1 + (0 + 1) - 1 = xs.length - 1 by omega]
  have h4 := Int.mul_le_mul_of_nonneg_left (show (1 : Int) ≤ xs.getLast hne by omega) (Int.le_of_lt (pw_pos (xs.length - 1)))
  omega
theorem pw_lt_imp {a b : Nat} (h : pw a < pw b) : a < b := by
  apply Nat.lt_of_not_le
  intro hc
  have := pw_mono hc
  omega
theorem len_le {xs : List Int} (h : Dig xs) (hn : Norm xs) {k : Nat} (hk : val xs < pw k) : xs.length ≤ k := by
  by_cases hne : xs = []
  · simp [hne]
  · have h1 := le_val h hn hne
    have h2 := pw_lt_imp (Int.lt_of_le_of_lt h1 hk)
    omega
/-- Digits that have one value are the same. -/
theorem val_inj {xs ys : List Int} (h : Dig xs) (k : Dig ys) (hl : xs.length = ys.length) (hv : val xs = val ys) : xs = ys := by
  induction xs generalizing ys with
  | nil => cases ys with
    | nil => rfl
    | cons y ys => simp at hl
  | cons x xs ih => cases ys with
    | nil => simp at hl
    | cons y ys =>
      simp only [val] at hv
      have h1 := h x (by simp)
      have h2 := k y (by simp)
      have e : x = y := by omega
      have e2 : val xs = val ys := by omega
      rw [e, ih (fun z hz => h z (by simp [hz])) (fun z hz => k z (by simp [hz])) (by simpa using hl) e2]
theorem val_replicate (n : Nat) : val (List.replicate n 0) = 0 := by
  induction n with
  | zero => rfl
  | succ n ih => simp only [List.replicate_succ, val, ih]; omega
theorem Dig.replicate (n : Nat) : Dig (List.replicate n 0) := by
  intro x hx
  rw [List.eq_of_mem_replicate hx]; omega
/-- All digits from k on are noughts. -/
theorem val_take_of_zero (xs : List Int) (k : Nat) (h : ∀ j, k ≤ j → j < xs.length → xs[j]?.getD 0 = 0) : val (xs.take k) = val xs := by
  by_cases hk : xs.length ≤ k
  · rw [List.take_of_length_le hk]
  · have e : xs = xs.take k ++ List.replicate (xs.length - k) 0 := by
      apply List.ext_getElem
      · simp; omega
      · intro i h1 h2
        by_cases hi : i < k
        · rw [List.getElem_append_left (by simp; omega)]; simp
        · rw [List.getElem_append_right (by simp; omega)]
          have := h i (by omega) h1
          rw [List.getElem?_eq_getElem h1] at this
          simpa using this
    have h2 := val_append (xs.take k) (List.replicate (xs.length - k) 0)
    rw [← e, val_replicate] at h2
    omega
theorem Norm.nil : Norm [] := fun h => absurd rfl h
theorem Norm.take {xs : List Int} {k : Nat} (hk : k ≤ xs.length) (h : 0 < k → xs[k - 1]?.getD 0 ≠ 0) : Norm (xs.take k) := by
  intro hne
  have hk0 : 0 < k := by
    apply Nat.pos_of_ne_zero
    intro e
    subst e
    exact hne rfl
  have h1 := h hk0
  rw [List.getElem?_eq_getElem (by omega)] at h1
  rw [List.getLast_eq_getElem]
  simp only [List.length_take, Nat.min_eq_left hk, List.getElem_take]
  exact h1

end Go.Proofs.YtdkenobgfgmepaaDoor.Nm

/- Plain facts on decimal texts and their digits to the base of a thousand millions. No program. -/
namespace Go.Proofs.YtdkenobgfgmepaaDoor.Nm

/-- The number of a decimal text, its letters as bytes. -/
def dec (l : List UInt8) : Int := l.foldl (fun a b => 10 * a + ((b.toNat : Int) - 48)) 0
theorem dec_snoc (l : List UInt8) (b : UInt8) : dec (l ++ [b]) = 10 * dec l + ((b.toNat : Int) - 48) := by simp [dec]
/-- Decimal digits all. -/
def Dg (l : List UInt8) : Prop := ∀ b ∈ l, 48 ≤ b.toNat ∧ b.toNat ≤ 57
theorem dec_nonneg_aux (n : Nat) : ∀ l : List UInt8, l.length = n → Dg l → 0 ≤ dec l ∧ dec l < (10 : Int) ^ n := by
  induction n with
  | zero => intro l hl _; rw [List.eq_nil_of_length_eq_zero hl]; simp [dec]
  | succ n ih =>
    intro l hl hd
    rcases List.eq_nil_or_concat l with rfl | ⟨q, b, rfl⟩
    · simp at hl
    · rw [List.concat_eq_append] at *
      have h1 := ih q (by simpa using hl) (fun x hx => hd x (by simp [hx]))
      have h2 := hd b (by simp)
      rw [dec_snoc, Int.pow_succ]
      omega
theorem dec_nonneg {l : List UInt8} (h : Dg l) : 0 ≤ dec l := (dec_nonneg_aux _ l rfl h).1
theorem dec_lt {l : List UInt8} (h : Dg l) : dec l < (10 : Int) ^ l.length := (dec_nonneg_aux _ l rfl h).2
theorem pow_mono10 {a b : Nat} (h : a ≤ b) : (10 : Int) ^ a ≤ (10 : Int) ^ b := by
  obtain ⟨c, rfl⟩ := Nat.exists_eq_add_of_le h
  clear h
  induction c with
  | zero => exact Int.le_refl _
  | succ c ih =>
    rw [← Nat.add_assoc, Int.pow_succ]
    have : (0 : Int) < 10 ^ (a + c) := Int.pow_pos (by decide)
    omega
theorem pw_eq (k : Nat) : pw k = (10 : Int) ^ (9 * k) := by
  induction k with
  | zero => rfl
  | succ k ih =>
    rw [show 9 * (k + 1) = 9 * k + 9 by omega, Int.pow_add, ← ih]
    simp only [pw]
    rw [show ((10 : Int) ^ 9) = 1000000000 by decide]
    exact Int.mul_comm _ _
theorem dec_pw {l : List UInt8} (h : Dg l) (hl : l.length ≤ 2000) : dec l < pw 4000 := by
  have := dec_lt h
  have h2 := pow_mono10 (show l.length ≤ 9 * 4000 by omega)
  rw [← pw_eq] at h2
  omega
theorem take_snoc8 (l : List UInt8) (k : Nat) (h : k < l.length) : l.take (k + 1) = l.take k ++ [l[k]] := by
  rw [List.take_add_one, List.getElem?_eq_getElem h]; rfl
/-- What has been made of the first i of n decimal digits. -/
def PM (D : List UInt8) (n i : Nat) (O : List Int) : Prop :=
  ∃ L : List Int, O = List.replicate ((n - i) / 9) 0 ++ L ∧ ((n - i) % 9 = 0 → val L = dec (D.take i) ∧ Dig L) ∧
    ((n - i) % 9 ≠ 0 → ∃ x T, L = x :: T ∧ dec (D.take i) = x + (10 : Int) ^ (9 - (n - i) % 9) * val T ∧ 0 ≤ x ∧ x < (10 : Int) ^ (9 - (n - i) % 9) ∧ Dig T)
theorem PM.start (D : List UInt8) (n : Nat) : PM D n 0 (List.replicate ((n + 8) / 9) 0) := by
  by_cases h : n % 9 = 0
  · refine ⟨[], ?_, fun _ => ⟨by simp [val, dec], Dig.nil⟩, fun h' => absurd h h'⟩
    rw [show (n + 8) / 9 = (n - 0) / 9 by omega]; simp
  · refine ⟨[0], ?_, fun h' => absurd h' h, fun _ => ⟨0, [], rfl, by simp [val, dec], by omega, Int.pow_pos (by decide), Dig.nil⟩⟩
    rw [show (n + 8) / 9 = (n - 0) / 9 + 1 by omega, List.replicate_succ']
theorem p10_le {r : Nat} (h : 1 ≤ r) (h8 : r ≤ 8) : (10 : Int) ^ (9 - r) ≤ 100000000 := by
  have := pow_mono10 (show 9 - r ≤ 8 by omega)
  rw [show ((10 : Int) ^ 8) = 100000000 by decide] at this
  exact this
theorem PM.step {D : List UInt8} {n i : Nat} {O : List Int} (h : PM D n i O) (hi : i < n) (hn : D.length = n) {d : Int} (hd : ((D[i]'(by omega)).toNat : Int) - 48 = d) (d0 : 0 ≤ d) (d1 : d ≤ 9) :
    ∃ x, O[(n - 1 - i) / 9]?.getD 0 = x ∧ 0 ≤ x ∧ x ≤ 99999999 ∧ (n - 1 - i) / 9 < O.length ∧ PM D n (i + 1) (O.set ((n - 1 - i) / 9) (x * 10 + d)) := by
  obtain ⟨L, rfl, h0, h1⟩ := h
  have hdec : dec (D.take (i + 1)) = 10 * dec (D.take i) + d := by
    rw [take_snoc8 D i (by omega), dec_snoc, hd]
  by_cases hr : (n - i) % 9 = 0
  · obtain ⟨v, hL⟩ := h0 hr
    clear h0 h1
    have ha : (n - i) / 9 = (n - 1 - i) / 9 + 1 := by omega
    have e : List.replicate ((n - i) / 9) (0 : Int) ++ L = List.replicate ((n - 1 - i) / 9) 0 ++ 0 :: L := by
      rw [ha, List.replicate_succ', List.append_assoc]; rfl
    rw [e]
    refine ⟨0, ?_, by omega, by omega, by simp, ?_⟩
    · rw [List.getElem?_append_right (by simp)]; simp
    · rw [List.set_append_right _ _ (by simp)]
      simp only [List.length_replicate, Nat.sub_self, List.set_cons_zero]
      refine ⟨(0 * 10 + d) :: L, by rw [show (n - (i + 1)) / 9 = (n - 1 - i) / 9 by omega], fun h' => absurd h' (by omega), fun _ => ⟨_, L, rfl, ?_, by omega, ?_, hL⟩⟩
      · rw [hdec, ← v, show 9 - (n - (i + 1)) % 9 = 1 by omega]; omega
      · rw [show 9 - (n - (i + 1)) % 9 = 1 by omega]; omega
  · obtain ⟨x, T, rfl, v, x0, x1, hT⟩ := h1 hr
    clear h0 h1
    have ha : (n - i) / 9 = (n - 1 - i) / 9 := by omega
    have hx8 := p10_le (r := (n - i) % 9) (by omega) (by omega)
    rw [ha]
    refine ⟨x, ?_, x0, by omega, by simp, ?_⟩
    · rw [List.getElem?_append_right (by simp)]; simp
    · rw [List.set_append_right _ _ (by simp)]
      simp only [List.length_replicate, Nat.sub_self, List.set_cons_zero]
      have hp : (10 : Int) ^ (9 - ((n - i) % 9 - 1)) = 10 ^ (9 - (n - i) % 9) * 10 := by
        rw [show 9 - ((n - i) % 9 - 1) = (9 - (n - i) % 9) + 1 by omega, Int.pow_succ]
      generalize (10 : Int) ^ (9 - (n - i) % 9) = q at *
      have hval : dec (D.take (i + 1)) = (x * 10 + d) + q * 10 * val T := by
        rw [hdec, v]; grind
      refine ⟨(x * 10 + d) :: T, by rw [show (n - (i + 1)) / 9 = (n - 1 - i) / 9 by omega], fun h' => ?_, fun h' => ⟨_, T, rfl, ?_, by omega, ?_, hT⟩⟩
      · have h9 : (n - i) % 9 = 1 := by omega
        rw [h9] at hp
        have hq : q * 10 = 1000000000 := by rw [← hp]; decide
        rw [hq] at hval
        refine ⟨by rw [hval]; rfl, ?_⟩
        intro y hy
        rcases List.mem_cons.1 hy with rfl | hy
        · omega
        · exact hT y hy
      · rw [show (n - (i + 1)) % 9 = (n - i) % 9 - 1 by omega, hp]; exact hval
      · rw [show (n - (i + 1)) % 9 = (n - i) % 9 - 1 by omega, hp]; omega
theorem PM.done {D : List UInt8} {n : Nat} {O : List Int} (h : PM D n n O) (hn : D.length = n) : val O = dec D ∧ Dig O := by
  obtain ⟨L, rfl, h0, _⟩ := h
  obtain ⟨v, hL⟩ := h0 (by omega)
  rw [List.take_of_length_le (by omega)] at v
  simp only [Nat.sub_self, Nat.zero_div, List.replicate_zero, List.nil_append]
  exact ⟨v, hL⟩

end Go.Proofs.YtdkenobgfgmepaaDoor.Nm

/- Closed facts of the loaded program, and the walks of the leaves of package num: signs, sizes, comparisons. -/
namespace Go.Proofs.YtdkenobgfgmepaaDoor.Nm
open Go.RowKit

theorem info32 : (Tryd.prog.info? 223).map (fun i => (i.zero, i.size, i.bytes)) = some (some (.int .u32 0), 1, 4) := by kernel_rfl
theorem hide {p : Prop} (h : p) : Hid p := h
theorem unhide {p : Prop} (h : Hid p) : p := h
theorem ret_int {k : IntKind} {a b : Int} (h : a = b) : Ending.returned (.int k a) = .returned (.int k b) := by rw [h]

theorem eqnil_some (w : World) (a : Addr) (n c : Nat) : (binOp .eql 198 (.slice (some a) n c) (.slice none 0 0)).run Tryd.prog w = .ok (.bool false) w := Lib.run_eql_slice_nil w _ _ _ _ _ _ _ Tryd.underlying198
theorem eqnil_none (w : World) (n c : Nat) : (binOp .eql 198 (.slice none n c) (.slice none 0 0)).run Tryd.prog w = .ok (.bool true) w := Lib.run_eql_slice_nil w _ _ _ _ _ _ _ Tryd.underlying198
theorem nenil_some (w : World) (a : Addr) (n c : Nat) : (binOp .neq 198 (.slice (some a) n c) (.slice none 0 0)).run Tryd.prog w = .ok (.bool true) w := run_neq_slice_nil_any w _ _ _ _ _ _ _ Tryd.underlying198
theorem nenil_none (w : World) (n c : Nat) : (binOp .neq 198 (.slice none n c) (.slice none 0 0)).run Tryd.prog w = .ok (.bool false) w := run_neq_slice_nil_any w _ _ _ _ _ _ _ Tryd.underlying198

/-- The slice value v reads as the uint32s xs. -/
def Mg (w : World) (v : Value) (xs : List Int) : Prop :=
  ∃ a cap, v = .slice a xs.length cap ∧ xs.length ≤ cap ∧ (xs ≠ [] → ∃ b off, a = some ⟨b, off, none⟩ ∧ b < w.heap.size ∧ ∀ j, j < xs.length → w.cell? ⟨b, off + j, none⟩ = some (.int .u32 (xs[j]?.getD 0)))
theorem Mg.below {w w' : World} {v : Value} {xs : List Int} (h : Mg w v xs) (hb : Below w.heap.size w w') : Mg w' v xs := by
  obtain ⟨a, cap, e, hc, hr⟩ := h
  refine ⟨a, cap, e, hc, fun hne => ?_⟩
  obtain ⟨b, off, ea, hlt, hcell⟩ := hr hne
  exact ⟨b, off, ea, Nat.lt_of_lt_of_le hlt hb.size, fun j hj => (hb.cell (p := ⟨b, off + j, none⟩) hlt).trans (hcell j hj)⟩
theorem Mg.nil (w : World) (a : Option Addr) (cap : Nat) : Mg w (.slice a 0 cap) [] := ⟨a, cap, rfl, Nat.zero_le _, fun h => absurd rfl h⟩
theorem Mg.of_owns {w : World} {base : Nat} {v : Value} {xs : List Int} (h : w.ownsRow base 223 1 v xs.length (xs.map (Value.int .u32))) : Mg w v xs := by
  rcases h.2 with ⟨rfl, h0⟩ | ⟨g, cap, cur, rfl, hb, hg, hn, hc, hs, ht⟩
  · rw [List.eq_nil_of_length_eq_zero h0]; exact Mg.nil _ _ _
  · refine ⟨_, cap, rfl, hn, fun hne => ⟨g, 0, rfl, (Array.getElem?_eq_some_iff.1 hg).1, fun j hj => ?_⟩⟩
    have := h.cells (g := g) rfl j (.int .u32 (xs[j]?.getD 0)) (by simp [hj])
    have e : (⟨g, 0, none⟩ : Addr).add j = ⟨g, 0 + j, none⟩ := by unfold Addr.add; split <;> simp_all
    rw [e] at this
    exact this

/-- What cmp.Compare tells. -/
def cmpI (x y : Int) : Int := if x < y then -1 else if y < x then 1 else 0

set_option maxHeartbeats 400000 in
theorem signed_no (below : Bool) (n : Int) (w : World) (h0 : 0 ≤ n) (h1 : n < 18446744073709551616) (h : if below then 9223372036854775808 < n else 9223372036854775808 ≤ n) :
    Calls Tryd.prog 117 #[.bool below, .int .u64 n] w fun e w' => e = .returned (.tuple #[.int .i64 0, .bool false]) ∧ w' = w := by
  cases below with
  | false =>
    simp at h
    go_enter Tryd.func117, Tryd.ntmps117
    go_wp2
    go_ret2
    exact ⟨rfl, rfl⟩
  | true =>
    simp at h
    go_enter Tryd.func117, Tryd.ntmps117
    go_wp2
    go_ret2
    exact ⟨rfl, rfl⟩
theorem ret_ib {k : IntKind} {a b : Int} {t : Bool} (h : a = b) : Ending.returned (.tuple #[.int k a, .bool t]) = .returned (.tuple #[.int k b, .bool t]) := by rw [h]
set_option maxHeartbeats 400000 in
theorem signed_yes (below : Bool) (n : Int) (w : World) (h0 : 0 ≤ n) (h : if below then n ≤ 9223372036854775808 else n < 9223372036854775808) :
    Calls Tryd.prog 117 #[.bool below, .int .u64 n] w fun e w' => e = .returned (.tuple #[.int .i64 (if below then -n else n), .bool true]) ∧ w' = w := by
  cases below with
  | false =>
    simp at h
    go_enter Tryd.func117, Tryd.ntmps117
    go_wp2
    go_ret2
    exact ⟨rfl, rfl⟩
  | true =>
    simp at h
    go_enter Tryd.func117, Tryd.ntmps117
    go_wp2
    go_ret2
    exact ⟨ret_ib (by simp only [IntKind.wrap_u64, wrap64]; omega), rfl⟩

set_option maxHeartbeats 400000 in
theorem of_any (n : Int) (w : World) :
    Calls Tryd.prog 118 #[.int .i64 n] w fun e w' => e = .returned (.agg #[.int .i64 n, .slice none 0 0]) ∧ Below w.heap.size w w' := by
  go_enter Tryd.func118, Tryd.ntmps118
  go_wp2
  exact bodyPost_ret (v := .agg #[.int .i64 n, .slice none 0 0]) (by simp [results, Tryd.results118, go_sem]) rfl ⟨rfl, (Below.refl _ _).alloc (Nat.le_refl _) _⟩

end Go.Proofs.YtdkenobgfgmepaaDoor.Nm

/- The walks of trim, magOf, slices.Clone: magnitudes that are made and cut. -/
namespace Go.Proofs.YtdkenobgfgmepaaDoor.Nm
open Go.RowKit

/-- The length in a slot that holds a slice. -/
def lenOf : Value → Nat | .slice _ n _ => n | _ => 0

theorem Mg.take {w : World} {a : Option Addr} {n cap : Nat} {xs : List Int} (h : Mg w (.slice a n cap) xs) {k : Nat} (hk : k ≤ xs.length) : Mg w (.slice a k cap) (xs.take k) := by
  obtain ⟨a', cap', e, hc, hr⟩ := h
  simp only [Value.slice.injEq] at e
  obtain ⟨rfl, rfl, rfl⟩ := e
  have hlen : (xs.take k).length = k := by simp; omega
  refine ⟨a, cap, by rw [hlen], by omega, fun hne => ?_⟩
  obtain ⟨b, off, ea, hlt, hcell⟩ := hr (by intro e; subst e; exact hne (by simp))
  refine ⟨b, off, ea, hlt, fun j hj => ?_⟩
  rw [hlen] at hj
  rw [hcell j (by omega), List.getElem?_take, if_pos hj]

/-- How many of the first k digits are left without the noughts at the top. -/
def tl : Nat → List Int → Nat
  | 0, _ => 0
  | k + 1, xs => if xs[k]?.getD 0 = 0 then tl k xs else k + 1
theorem tl_le (k : Nat) (xs : List Int) : tl k xs ≤ k := by
  induction k with
  | zero => exact Nat.le_refl _
  | succ k ih =>
    unfold tl
    split
    · omega
    · exact Nat.le_refl _
theorem tl_top (k : Nat) (xs : List Int) (h : 0 < tl k xs) : xs[tl k xs - 1]?.getD 0 ≠ 0 := by
  induction k with
  | zero => simp [tl] at h
  | succ k ih =>
    unfold tl at h ⊢
    split
    · rename_i e
      rw [if_pos e] at h
      exact ih h
    · rename_i e
      simpa using e
theorem tl_zero (k : Nat) (xs : List Int) : ∀ j, tl k xs ≤ j → j < k → xs[j]?.getD 0 = 0 := by
  induction k with
  | zero => intro j _ h; omega
  | succ k ih =>
    intro j h1 h2
    unfold tl at h1
    split at h1
    · rename_i e
      by_cases hj : j = k
      · rw [hj]; exact e
      · exact ih j h1 (by omega)
    · omega

set_option maxHeartbeats 800000 in
theorem trim_val (a : Option Addr) (cap : Nat) (xs : List Int) (w : World) (hm : Mg w (.slice a xs.length cap) xs) (_hd : Dig xs) (hl : xs.length ≤ 1000000) :
    Calls Tryd.prog 119 #[.slice a xs.length cap] w fun e w' => e = .returned (.slice a (tl xs.length xs) cap) ∧ w' = w := by
  obtain ⟨a', cap', e', hcap, hat⟩ := hm
  simp only [Value.slice.injEq] at e'
  obtain ⟨rfl, _, rfl⟩ := e'
  go_enter Tryd.func119, Tryd.ntmps119
  go_wp2
  go_loop [0] (fun s => ∃ k : Nat, k ≤ xs.length ∧ s = .slice a k cap ∧ tl xs.length xs = tl k xs) (fun s => lenOf s)
  case atStart => exact ⟨xs.length, Nat.le_refl _, rfl, rfl⟩
  case round =>
    obtain ⟨k, hk, rfl, hz⟩ := hrel
    have HZ := hide hz
    clear hz
    have hcap' : k ≤ cap := by omega
    by_cases hk0 : 0 < k
    · obtain ⟨b, off, rfl, hb, hc⟩ := hat (by intro e; subst e; simp at hk; omega)
      have hck := hc (k - 1) (by omega)
      have hin : (k : Int) - 1 = ((k - 1 : Nat) : Int) := by omega
      have hst : Hid (tl k xs = if xs[k - 1]?.getD 0 = 0 then tl (k - 1) xs else k) := by
        obtain ⟨m, rfl⟩ : ∃ m, k = m + 1 := ⟨k - 1, by omega⟩
        show tl (m + 1) xs = _
        rfl
      by_cases hv : xs[k - 1]?.getD 0 = 0
      · have hv' : (xs[k - 1]?.getD 0 == 0) = true := by simp [hv]
        have hst' : Hid (tl xs.length xs = tl (k - 1) xs) := by
          show _ = _
          rw [unhide HZ, unhide hst, if_pos hv]
        go_wp2
        exact ⟨⟨k - 1, by omega, rfl, unhide hst'⟩, by simp [lenOf]; omega⟩
      · have hv' : (xs[k - 1]?.getD 0 == 0) = false := by simp [hv]
        have hst' : Hid (tl xs.length xs = k) := by
          show _ = _
          rw [unhide HZ, unhide hst, if_neg hv]
        go_wp2
        go_ret
        exact ⟨by rw [unhide hst']; rfl, rfl⟩
    · obtain rfl : k = 0 := by omega
      go_wp2
      go_ret
      exact ⟨by rw [unhide HZ]; rfl, rfl⟩

/-- What is left of a magnitude without the noughts at its top. -/
theorem tl_spec {w : World} {a : Option Addr} {cap : Nat} {xs : List Int} (hm : Mg w (.slice a xs.length cap) xs) (hd : Dig xs) :
    Mg w (.slice a (tl xs.length xs) cap) (xs.take (tl xs.length xs)) ∧ Dig (xs.take (tl xs.length xs)) ∧ Norm (xs.take (tl xs.length xs)) ∧ val (xs.take (tl xs.length xs)) = val xs ∧ (xs.take (tl xs.length xs)).length ≤ xs.length :=
  ⟨hm.take (tl_le _ _), hd.take _, Norm.take (tl_le _ _) (tl_top _ _), val_take_of_zero xs _ (tl_zero _ _), by simp; omega⟩
theorem trim_any (v : Value) (xs : List Int) (w : World) (hm : Mg w v xs) (hd : Dig xs) (hl : xs.length ≤ 1000000) :
    Calls Tryd.prog 119 #[v] w fun e w' => ∃ v' ys, e = .returned v' ∧ w' = w ∧ Mg w v' ys ∧ Dig ys ∧ Norm ys ∧ val ys = val xs ∧ ys.length ≤ xs.length := by
  have hm' := hm
  obtain ⟨a, cap, rfl, hcap, hat⟩ := hm
  refine (trim_val a cap xs w hm' hd hl).mono ?_
  rintro e w1 ⟨rfl, rfl⟩
  exact ⟨_, _, rfl, rfl, tl_spec hm' hd⟩

theorem Norm.snoc {xs : List Int} {d : Int} (h : d ≠ 0) : Norm (xs ++ [d]) := by
  intro hne
  simpa using h
theorem one32 (d : Int) : ∀ u ∈ [Value.int .u32 d], u.oneCell' = true := by
  intro u hu
  simp at hu
  subst hu
  rfl
theorem own_snoc {w : World} {base : Nat} {v : Value} {xs : List Int} {d : Int} (h : w.ownsRow base 223 1 v (xs.length + 1) (xs.map (Value.int .u32) ++ [.int .u32 d])) :
    w.ownsRow base 223 1 v (xs ++ [d]).length ((xs ++ [d]).map (Value.int .u32)) := by simpa using h

end Go.Proofs.YtdkenobgfgmepaaDoor.Nm

/- The walk of addMag: two magnitudes together. -/
namespace Go.Proofs.YtdkenobgfgmepaaDoor.Nm
open Go.RowKit

theorem add_step (X Y zs : List Int) (k : Nat) (cr x y : Int) (hz : zs.length = k) (hx : X[k]?.getD 0 = x) (hy : Y[k]?.getD 0 = y) (h : val zs + pw k * cr = val (X.take k) + val (Y.take k)) :
    ∀ d c : Int, x + cr + y = d + 1000000000 * c → val (zs ++ [d]) + pw (k + 1) * c = val (X.take (k + 1)) + val (Y.take (k + 1)) := by
  intro d c e
  rw [val_snoc, hz, val_take_succ', val_take_succ', hx, hy]
  simp only [pw]
  have e2 : pw k * x + pw k * cr + pw k * y = pw k * d + pw k * (1000000000 * c) := by
    rw [← Int.mul_add, ← Int.mul_add, ← Int.mul_add, e]
  have e3 : pw k * (1000000000 * c) = 1000000000 * pw k * c := by rw [← Int.mul_assoc, Int.mul_comm (pw k)]
  omega

end Go.Proofs.YtdkenobgfgmepaaDoor.Nm

/- The walks of slices.Clone and takeAway: a magnitude copied; so many times another taken away in place. -/
namespace Go.Proofs.YtdkenobgfgmepaaDoor.Nm
open Go.RowKit
attribute [local go_sem] eqnil_some eqnil_none nenil_some nenil_none

/-- w' is w but for n cells of block b from off on. -/
structure InBlk (b off n : Nat) (w w' : World) : Prop where
  os : w'.os = w.os
  tape : w'.tape = w.tape
  output : w'.output = w.output
  size : w'.heap.size = w.heap.size
  block : ∀ k, k ≠ b → w'.heap[k]? = w.heap[k]?
  out : ∀ o, o < off ∨ off + n ≤ o → w'.cell? ⟨b, o, none⟩ = w.cell? ⟨b, o, none⟩
  frozen : ∀ o, w'.frozen? ⟨b, o, none⟩ = w.frozen? ⟨b, o, none⟩
theorem InBlk.refl (b off n : Nat) (w : World) : InBlk b off n w w := ⟨rfl, rfl, rfl, rfl, fun _ _ => rfl, fun _ _ => rfl, fun _ => rfl⟩
theorem InBlk.trans {b off n : Nat} {w w1 w2 : World} (h : InBlk b off n w w1) (k : InBlk b off n w1 w2) : InBlk b off n w w2 :=
  ⟨k.os.trans h.os, k.tape.trans h.tape, k.output.trans h.output, k.size.trans h.size, fun i hi => (k.block i hi).trans (h.block i hi), fun o ho => (k.out o ho).trans (h.out o ho), fun o => (k.frozen o).trans (h.frozen o)⟩
theorem InBlk.setCell {b off n : Nat} {w w1 : World} (h : InBlk b off n w w1) {o : Nat} (h1 : off ≤ o) (h2 : o < off + n) (v : Value) : InBlk b off n w (w1.setCell ⟨b, o, none⟩ v) :=
  h.trans ⟨rfl, rfl, rfl, by simp, fun k hk => Below.heap_setCell _ _ _ _ hk, fun p hp => World.cell?_setCell_other _ _ _ _ (by intro e; injection e; omega), fun p => World.frozen?_setCell _ _ _ _⟩
theorem InBlk.below {b off n B : Nat} {w w' : World} (h : InBlk b off n w w') (hB : B ≤ b) : Below B w w' :=
  ⟨h.os, h.tape, h.output, Nat.le_of_eq h.size.symm, fun k hk => h.block k (by omega)⟩
theorem InBlk.cell {b off n : Nat} {w w' : World} (h : InBlk b off n w w') {p : Addr} (hp : p.block ≠ b) : w'.cell? p = w.cell? p := World.cell?_of_block (w := w) (h.block p.block hp)

/-- The cells of block b from off on hold the uint32s xs. -/
def At (w : World) (b off : Nat) (xs : List Int) : Prop := ∀ j, j < xs.length → w.cell? ⟨b, off + j, none⟩ = some (.int .u32 (xs[j]?.getD 0))
theorem At.set {w : World} {b off : Nat} {zs : List Int} {x : Int} {rs : List Int} (h : At w b off (zs ++ x :: rs)) {k : Nat} (hz : zs.length = k) (d : Int) : At (w.setCell ⟨b, off + k, none⟩ (.int .u32 d)) b off (zs ++ d :: rs) := by
  subst hz
  intro j hj
  by_cases e : j = zs.length
  · subst e
    rw [World.cell?_setCell_same _ _ _ (h zs.length (by simp))]
    simp
  · rw [World.cell?_setCell_other _ _ _ _ (by intro h'; injection h'; omega), h j (by simpa using hj)]
    congr 2
    by_cases hlt : j < zs.length
    · rw [List.getElem?_append_left hlt, List.getElem?_append_left hlt]
    · rw [List.getElem?_append_right (by omega), List.getElem?_append_right (by omega)]
      obtain ⟨m, hm⟩ : ∃ m, j - zs.length = m + 1 := ⟨j - zs.length - 1, by omega⟩
      rw [hm]
      rfl
theorem At.mg {w : World} {b off cap : Nat} {xs : List Int} (h : At w b off xs) (hb : b < w.heap.size) (hc : xs.length ≤ cap) : Mg w (.slice (some ⟨b, off, none⟩) xs.length cap) xs :=
  ⟨_, cap, rfl, hc, fun _ => ⟨b, off, rfl, hb, h⟩⟩
theorem At.at {w : World} {b off : Nat} {zs : List Int} {x : Int} {rs : List Int} (h : At w b off (zs ++ x :: rs)) {k : Nat} (hz : zs.length = k) : w.cell? ⟨b, off + k, none⟩ = some (.int .u32 x) := by
  subst hz
  have := h zs.length (by simp)
  simpa using this

/-- What one step of taking away does to the numbers. -/
theorem take_step (X Y zs : List Int) (k : Nat) (t c x y : Int) (hz : zs.length = k) (hx : X[k]?.getD 0 = x) (hy : Y[k]?.getD 0 = y) (h : val zs = val (X.take k) - t * val (Y.take k) + pw k * c) :
    ∀ d c' : Int, x - (c + t * y) = d - 1000000000 * c' → val (zs ++ [d]) = val (X.take (k + 1)) - t * val (Y.take (k + 1)) + pw (k + 1) * c' := by
  intro d c' e
  rw [val_snoc, hz, val_take_succ', val_take_succ', hx, hy, h]
  simp only [pw]
  have e2 : pw k * x - (pw k * c + pw k * (t * y)) = pw k * d - pw k * (1000000000 * c') := by
    rw [← Int.mul_add, ← Int.mul_sub, ← Int.mul_sub, e]
  have e3 : pw k * (1000000000 * c') = 1000000000 * pw k * c' := by rw [← Int.mul_assoc, Int.mul_comm (pw k)]
  have e4 : t * (val (Y.take k) + pw k * y) = t * val (Y.take k) + pw k * (t * y) := by
    rw [Int.mul_add, ← Int.mul_assoc t, Int.mul_comm t (pw k), Int.mul_assoc]
  omega
theorem split_at (xs zs : List Int) (k : Nat) (x : Int) (hk : k < xs.length) (hx : xs[k]?.getD 0 = x) : zs ++ xs.drop k = zs ++ x :: xs.drop (k + 1) := by
  rw [List.drop_eq_getElem_cons hk]
  rw [List.getElem?_eq_getElem hk] at hx
  simp at hx
  rw [hx]
theorem mul_bd {t y : Int} (t0 : 0 ≤ t) (y0 : 0 ≤ y) (y1 : y < 1000000000) : 0 ≤ t * y ∧ t * y ≤ t * 999999999 :=
  ⟨Int.mul_nonneg t0 y0, Int.mul_le_mul_of_nonneg_left (by omega) t0⟩

end Go.Proofs.YtdkenobgfgmepaaDoor.Nm

/- The walks of scaleMag and mulMag: a magnitude so many times, by one digit and by another magnitude. -/
namespace Go.Proofs.YtdkenobgfgmepaaDoor.Nm
open Go.RowKit

theorem scale_step (X zs : List Int) (k : Nat) (t c x : Int) (hz : zs.length = k) (hx : X[k]?.getD 0 = x) (h : val zs + pw k * c = t * val (X.take k)) :
    ∀ d c' : Int, c + x * t = d + 1000000000 * c' → val (zs ++ [d]) + pw (k + 1) * c' = t * val (X.take (k + 1)) := by
  intro d c' e
  rw [val_snoc, hz, val_take_succ', hx]
  simp only [pw]
  have e2 : pw k * c + pw k * (x * t) = pw k * d + pw k * (1000000000 * c') := by rw [← Int.mul_add, ← Int.mul_add, e]
  have e3 : pw k * (1000000000 * c') = 1000000000 * pw k * c' := by rw [← Int.mul_assoc, Int.mul_comm (pw k)]
  have e4 : t * (val (X.take k) + pw k * x) = t * val (X.take k) + pw k * (x * t) := by
    rw [Int.mul_add, ← Int.mul_assoc t, Int.mul_comm t (pw k), Int.mul_assoc, Int.mul_comm t x]
  omega

theorem At.set0 {w : World} {b : Nat} {zs : List Int} {x : Int} {rs : List Int} (h : At w b 0 (zs ++ x :: rs)) {k : Nat} (hz : zs.length = k) (d : Int) : At (w.setCell ⟨b, k, none⟩ (.int .u32 d)) b 0 (zs ++ d :: rs) := by
  have := h.set hz d
  rwa [Nat.zero_add] at this
theorem At.at0 {w : World} {b : Nat} {zs : List Int} {x : Int} {rs : List Int} (h : At w b 0 (zs ++ x :: rs)) {k : Nat} (hz : zs.length = k) : w.cell? ⟨b, k, none⟩ = some (.int .u32 x) := by
  have := h.at hz
  rwa [Nat.zero_add] at this
theorem At.drewN {w : World} {b off : Nat} {xs : List Int} (h : At w b off xs) (q : Nat) : At (w.drewN q) b off xs := fun j hj => by
  rw [World.cell?_drewN]; exact h j hj
theorem InBlk.drewN {b off n : Nat} {w w1 : World} (h : InBlk b off n w w1) (q : Nat) : InBlk b off n w (w1.drewN q) :=
  h.trans ⟨rfl, rfl, rfl, rfl, fun _ _ => rfl, fun _ _ => rfl, fun _ => rfl⟩
theorem mul_step (H Y ns : List Int) (j : Nat) (x c h y : Int) (hz : ns.length = j) (hh : H[j]?.getD 0 = h) (hy : Y[j]?.getD 0 = y) (hv : val ns + pw j * c = val (H.take j) + x * val (Y.take j)) :
    ∀ d c' : Int, c + (h + x * y) = d + 1000000000 * c' → val (ns ++ [d]) + pw (j + 1) * c' = val (H.take (j + 1)) + x * val (Y.take (j + 1)) := by
  intro d c' e
  rw [val_snoc, hz, val_take_succ', val_take_succ', hh, hy]
  simp only [pw]
  have e2 : pw j * c + (pw j * h + pw j * (x * y)) = pw j * d + pw j * (1000000000 * c') := by rw [← Int.mul_add, ← Int.mul_add, ← Int.mul_add, e]
  have e3 : pw j * (1000000000 * c') = 1000000000 * pw j * c' := by rw [← Int.mul_assoc, Int.mul_comm (pw j)]
  have e4 : x * (val (Y.take j) + pw j * y) = x * val (Y.take j) + pw j * (x * y) := by
    rw [Int.mul_add, ← Int.mul_assoc x, Int.mul_comm x (pw j), Int.mul_assoc]
  omega

end Go.Proofs.YtdkenobgfgmepaaDoor.Nm

/- The iterator slices.Backward over uint32s: its contract, for every loop body that keeps the slice. -/
namespace Go.Proofs.YtdkenobgfgmepaaDoor.Nm
open Go.RowKit Go.Shelf
attribute [local go_sem] Oper.semAt_some

/-- The indices below n, from the greatest down. -/
def dn (n : Nat) : List (Fin n) := (List.finRange n).reverse
theorem dn_length (n : Nat) : (dn n).length = n := by simp [dn]
theorem dn_take_succ (n k : Nat) (h : k < n) : (dn n).take (k + 1) = (dn n).take k ++ [⟨n - 1 - k, by omega⟩] := by
  rw [List.take_add_one]
  congr 1
  simp only [dn]
  rw [List.getElem?_reverse (by simpa using h)]
  have h2 : (List.finRange n).length - 1 - k < (List.finRange n).length := by simp; omega
  rw [List.getElem?_eq_getElem h2]
  simp

/-- The digit at a place. -/
def dg (xs : List Int) (i : Nat) : Int := xs[i]?.getD 0
theorem Dig.dg {xs : List Int} (h : Dig xs) (k : Nat) : 0 ≤ dg xs k ∧ dg xs k < 1000000000 := h.at k

/-- Two blocks are kept. -/
def Kp2 (p q : Nat) (W W' : World) : Prop := W'.heap[p]? = W.heap[p]? ∧ W'.heap[q]? = W.heap[q]?
theorem kp2_t {p q : Nat} {A B C : World} (h : Kp2 p q A B) (k : Kp2 p q B C) : Kp2 p q A C := ⟨k.1.trans h.1, k.2.trans h.2⟩
theorem kp2_b {p q : Nat} {w : World} (hp : p < w.heap.size) (hq : q < w.heap.size) (W : World) (l : Nat) (o o' : Obj) (hl : w.heap.size ≤ l) (_ : W.heap[l]? = some o) (_ : o.isCells = false) (_ : o.isWalk = false) : Kp2 p q W (W.putObj l o') :=
  ⟨World.putObj_heap_other (by omega), World.putObj_heap_other (by omega)⟩
theorem Kp2.refl (p q : Nat) (W : World) : Kp2 p q W W := ⟨rfl, rfl⟩
theorem Kp2.setCell {p q : Nat} {A W : World} (h : Kp2 p q A W) {a : Addr} (hp : p ≠ a.block) (hq : q ≠ a.block) (v : Value) : Kp2 p q A (W.setCell a v) :=
  kp2_t h ⟨Below.heap_setCell _ _ _ _ hp, Below.heap_setCell _ _ _ _ hq⟩

set_option maxRecDepth 100000 in
set_option maxHeartbeats 1000000 in
theorem back1_in (l Bs b off cap : Nat) (zs : List Int) (hl : zs.length ≤ 1000000) (J Jx : List (Fin zs.length) → World → Prop)
    (hY : ∀ pre (x : Fin zs.length) W, J pre W → pre.length < zs.length → YieldAt Fence.wide (9 - 1) Tryd.prog l #[.int .i64 (x.1 : Int), (.int .u32 (dg zs x.1))] W fun e W' =>
      (e = .returned (.bool true) ∧ J (pre ++ [x]) W' ∧ Kp2 Bs b W W') ∨ (e = .returned (.bool false) ∧ Jx (pre ++ [x]) W'))
    (W : World) (hBs : W.cell? ⟨Bs, 0, none⟩ = some (.slice (some ⟨b, off, none⟩) zs.length cap)) (hc : At W b off zs) (h0 : J [] W) :
    CallsIn Fence.wide 9 Tryd.prog 121 #[.func (.yield l) #[] #[], .pointer (some ⟨Bs, 0, none⟩)] W fun e W' => (∃ v, e = .returned v) ∧
      ((∃ ys, ys = dn zs.length ∧ J ys W') ∨ (∃ pre, (∃ k, k ≤ zs.length ∧ pre = (dn zs.length).take k) ∧ Jx pre W')) := by
  refine callsIn_of_wp Tryd.func121 rfl trivial ?_ rfl
  simp only [Tryd.ntmps121, List.size_toArray, List.length_cons, List.length_nil, Nat.reduceAdd, Nat.reduceSub, Array.replicate_succ, Array.replicate_zero, List.push_toArray, List.append_toArray, List.nil_append, List.cons_append]
  gi_wp2
  gi_loopw [3] (fun i wr => ∃ k : Nat, k ≤ zs.length ∧ i = .int .i64 ((zs.length : Int) - 1 - k) ∧ J ((dn zs.length).take k) wr ∧ Kp2 Bs b W wr)
    (fun i _ => (intOf i + 1).toNat)
  case atStart => exact ⟨0, Nat.zero_le _, by simp, by simpa using h0, Kp2.refl _ _ _⟩
  case round =>
    obtain ⟨k, hk, rfl, hJs, hkp⟩ := hrel
    have hBr : wr.cell? ⟨Bs, 0, none⟩ = some (.slice (some ⟨b, off, none⟩) zs.length cap) := (World.cell?_of_block (w := W) hkp.1).trans hBs
    have hcr : At wr b off zs := fun j hj => (World.cell?_of_block (w := W) (a := ⟨b, off + j, none⟩) hkp.2).trans (hc j hj)
    by_cases hlt : k < zs.length
    · obtain ⟨fn, tmps, assign, body, hy, hR⟩ := hY _ (⟨zs.length - 1 - k, by omega⟩ : Fin zs.length) wr hJs (by rw [List.length_take, dn_length]; omega)
      dsimp only at hy
      have hcx : wr.cell? ⟨b, off + (zs.length - 1 - k), none⟩ = some (.int .u32 (dg zs (zs.length - 1 - k))) := hcr (zs.length - 1 - k) (by omega)
      have hix : (zs.length : Int) - 1 - k = ((zs.length - 1 - k : Nat) : Int) := by omega
      have hnn : (0 : Int) ≤ (zs.length : Int) - 1 - k := by omega
      rw [hix]
      gi_wp2
      refine hR.mono ?_
      rintro e W3 (⟨rfl, hJ3, hk3⟩ | ⟨rfl, hJx3⟩)
      · gi_wp2
        go_roundw
        case rel => exact ⟨k + 1, by omega, by simp; omega, by rw [dn_take_succ _ _ hlt]; exact hJ3, kp2_t hkp hk3⟩
        case measure => simp [intOf] <;> omega
      · gi_wp2
        refine bodyPost_ret (results_none rfl _ _ _) rfl ?_
        exact ⟨⟨_, rfl⟩, .inr ⟨_, ⟨k + 1, by omega, (dn_take_succ _ _ hlt).symm⟩, hJx3⟩⟩
    · obtain rfl : k = zs.length := by omega
      gi_wp2
      go_end0
      exact ⟨⟨_, rfl⟩, .inl ⟨_, by rw [List.take_of_length_le (by rw [dn_length]; omega)], hJs⟩⟩

/-- .. where there is no digit: no round. -/
theorem back1_nil_in (l Bs : Nat) (a : Option Addr) (cap : Nat) (J : List (Fin 0) → World → Prop) (W : World) (hBs : W.cell? ⟨Bs, 0, none⟩ = some (.slice a 0 cap)) (h0 : J [] W) :
    CallsIn Fence.wide 9 Tryd.prog 121 #[.func (.yield l) #[] #[], .pointer (some ⟨Bs, 0, none⟩)] W fun e W' => (∃ v, e = .returned v) ∧ J [] W' := by
  refine callsIn_of_wp Tryd.func121 rfl trivial ?_ rfl
  simp only [Tryd.ntmps121, List.size_toArray, List.length_cons, List.length_nil, Nat.reduceAdd, Nat.reduceSub, Array.replicate_succ, Array.replicate_zero, List.push_toArray, List.append_toArray, List.nil_append, List.cons_append]
  gi_wp2
  gi_loopw [3] (fun i wr => i = .int .i64 (-1) ∧ J [] wr) (fun _ _ => 0)
  case atStart => exact ⟨rfl, h0⟩
  case round =>
    obtain ⟨rfl, hJs⟩ := hrel
    gi_wp2
    go_end0
    exact ⟨⟨_, rfl⟩, hJs⟩

set_option maxHeartbeats 1000000 in
/-- slices.Backward boxes the slice value; the function value captures the box. -/
theorem back_any (a : Option Addr) (len cap : Nat) (w : World) :
    Calls Tryd.prog 120 #[.slice a len cap] w fun e w' => e = .returned (.func (.func 121) #[] #[.pointer (some ⟨w.heap.size, 0, none⟩)]) ∧ w' = w.alloc (.cells #[.slice a len cap] 198) := by
  have hmf : ∀ (fn : Fn) (first cap : Array Value) (w : World), (Instr.makeFunc fn first cap).run Tryd.prog w = .ok (.func fn first cap) w := fun _ _ _ _ => rfl
  go_enter Tryd.func120, Tryd.ntmps120
  go_wp2
  go_ret
  exact ⟨rfl, rfl⟩

/-- What slices.Backward tells, its box in block Bs: each digit with its place, from the top down; or the first of them. -/
theorem back_stops (Bs b : Nat) (a : Option Addr) (cap : Nat) (zs : List Int) (hl : zs.length ≤ 1000000) (w : World) (hBs : Bs < w.heap.size) (hb : b < w.heap.size)
    (hc : w.cell? ⟨Bs, 0, none⟩ = some (.slice a zs.length cap)) (hI : zs ≠ [] → ∃ off, a = some ⟨b, off, none⟩ ∧ At w b off zs) :
    SeqStopsK Fence.wide 9 Tryd.prog 121 #[.pointer (some ⟨Bs, 0, none⟩)] (fun x : Fin zs.length => #[Value.int .i64 (x.1 : Int), Value.int .u32 (dg zs x.1)]) (Kp2 Bs b) (fun ys => ys = dn zs.length)
      (fun pre => ∃ k, k ≤ zs.length ∧ pre = (dn zs.length).take k) zs.length w := fun l J Jx W hW _ _ hY h0 => by
  have hc' := (hW.cell (p := ⟨Bs, 0, none⟩) hBs).trans hc
  by_cases hne : zs = []
  · subst hne
    exact (back1_nil_in l Bs a cap J W hc' h0).mono fun e W' ⟨he, hj⟩ => ⟨he, .inl ⟨_, rfl, hj⟩⟩
  · obtain ⟨off, rfl, hat⟩ := hI hne
    exact back1_in l Bs b off cap zs hl J Jx hY W hc' (fun j hj => (hW.cell (p := ⟨b, off + j, none⟩) hb).trans (hat j hj)) h0

end Go.Proofs.YtdkenobgfgmepaaDoor.Nm

/- The walk of smallMag: the number of a magnitude that is small. -/
namespace Go.Proofs.YtdkenobgfgmepaaDoor.Nm
open Go.RowKit Go.Shelf
attribute [local go_sem] Oper.semAt_some

/-- What the uint64 is when the digits at these places have come. -/
def accU (xs : List Int) (pre : List (Fin xs.length)) : Int := pre.foldl (fun s i => (s * 1000000000 + dg xs i.1) % 18446744073709551616) 0
theorem accU_snoc (xs : List Int) (pre : List (Fin xs.length)) (i : Fin xs.length) : accU xs (pre ++ [i]) = (accU xs pre * 1000000000 + dg xs i.1) % 18446744073709551616 := by simp [accU]
theorem accU_bd (xs : List Int) (pre : List (Fin xs.length)) : 0 ≤ accU xs pre ∧ accU xs pre < 18446744073709551616 := by
  rcases List.eq_nil_or_concat pre with rfl | ⟨q, i, rfl⟩
  · simp [accU]
  · rw [List.concat_eq_append, accU_snoc]; omega
theorem accU_take (xs : List Int) (k : Nat) (hk : k ≤ xs.length) : accU xs ((dn xs.length).take k) = val (xs.drop (xs.length - k)) % 18446744073709551616 := by
  induction k with
  | zero => simp [accU, val]
  | succ k ih =>
    rw [dn_take_succ _ _ (by omega), accU_snoc, ih (by omega)]
    have e : xs.drop (xs.length - (k + 1)) = (dg xs (xs.length - 1 - k)) :: xs.drop (xs.length - k) := by
      have h1 : xs.length - (k + 1) < xs.length := by omega
      rw [List.drop_eq_getElem_cons h1]
      rw [show xs.length - 1 - k = xs.length - (k + 1) by omega, dg, List.getElem?_eq_getElem h1, show xs.length - (k + 1) + 1 = xs.length - k by omega]
      simp
    rw [e]
    simp only [val]
    omega
theorem accU_all (xs : List Int) : accU xs (dn xs.length) = val xs % 18446744073709551616 := by
  have := accU_take xs xs.length (Nat.le_refl _)
  rw [List.take_of_length_le (by rw [dn_length]; omega)] at this
  simpa using this

set_option maxRecDepth 100000 in
set_option maxHeartbeats 1000000 in
theorem smallMag_yes (a : Option Addr) (cap : Nat) (xs : List Int) (w : World) (hat : xs ≠ [] → ∃ b off, a = some ⟨b, off, none⟩ ∧ b < w.heap.size ∧ At w b off xs) (hd : Dig xs) (hl : xs.length ≤ 3) (h9 : xs.length = 3 → xs[2]?.getD 0 ≤ 9) (hv : val xs < 18446744073709551616) :
    Calls Tryd.prog 116 #[.slice a xs.length cap] w fun e w' => e = .returned (.tuple #[.int .u64 (val xs), .bool true]) ∧ Below w.heap.size w w' := by
  refine (callsIn_wide (n := 10)).1 ?_
  refine callsIn_of_wp_marks Tryd.func116 rfl trivial ?_ rfl
  simp only [Tryd.ntmps116, List.size_toArray, List.length_cons, List.length_nil, Nat.reduceAdd, Nat.reduceSub, Array.replicate_succ, Array.replicate_zero, List.push_toArray, List.append_toArray, List.nil_append, List.cons_append]
  by_cases h3 : xs.length = 3
  · have h3' : ((xs.length : Int) == 3) = true := by simp; omega
    obtain ⟨b0, off0, rfl, hb0, hc0⟩ := hat (by intro e; subst e; simp at h3)
    have hc2 := hc0 2 (by omega)
    have h92 := h9 h3
    obtain ⟨d2, hd2, hd20, hd21⟩ := hd.get 2
    rw [hd2] at hc2 h92
    have H3 := hide h3
    clear h3 h9 hd2
    have h3i : (2 : Int) < (xs.length : Int) := by have := unhide H3; omega
    have h3j : ¬ (3 : Int) < (xs.length : Int) := by have := unhide H3; omega
    have hq : decide ((9 : Int) < d2) = false := by simp; omega
    gi_wp2_with fail
    refine ⟨trivial, (callsIn_wide.2 (back_any _ _ _ _)).mono ?_⟩
    rintro e w' ⟨rfl, rfl⟩
    gi_wp2
    generalize ha : some (⟨b0, off0, none⟩ : Addr) = a at *
    have bS := Boxed.new w 217 (.int .u64 0)
    have bN := Boxed.new (w.alloc (.cells #[.int .u64 0] 217)) 198 (.slice a xs.length cap)
    rw [World.size_alloc] at bN
    have hB0 : Below w.heap.size w ((w.alloc (.cells #[.int .u64 0] 217)).alloc (.cells #[.slice a xs.length cap] 198)) := ((Below.refl _ w).alloc (Nat.le_refl _) _).alloc (by simp) _
    obtain ⟨b, hbw, hI⟩ : ∃ b, b < w.heap.size + 1 + 1 ∧ b ≠ w.heap.size ∧ (xs ≠ [] → ∃ off, a = some ⟨b, off, none⟩ ∧ At ((w.alloc (.cells #[.int .u64 0] 217)).alloc (.cells #[.slice a xs.length cap] 198)) b off xs) := by
      by_cases hne : xs = []
      · exact ⟨w.heap.size + 1, by omega, by omega, fun h => absurd hne h⟩
      · obtain ⟨b, off, e, hb, hc⟩ := hat hne
        exact ⟨b, by omega, by omega, fun _ => ⟨off, e, fun j hj => (hB0.cell (p := ⟨b, off + j, none⟩) hb).trans (hc j hj)⟩⟩
    obtain ⟨hbn, hI⟩ := hI
    refine wpIn_rangeFunc_ownG rfl (by decide) (gf := 121) (lb := #[.pointer (some ⟨w.heap.size + 1, 0, none⟩)]) rfl trivial (enters_of Tryd.func121 (by kernel_rfl) rfl)
      (back_stops (w.heap.size + 1) b a cap xs (by omega) _ (by simp) (by simp; omega) bN.cell hI) kp2_t (kp2_b (by simp) (by simp; omega)) (Below.refl _ _) (fun _ => rfl)
      (fun pre W => (W.cell? ⟨w.heap.size, 0, none⟩ = some (.int .u64 (accU xs pre)) ∧ W.frozen? ⟨w.heap.size, 0, none⟩ = false) ∧ Below w.heap.size w W)
      (fun _ _ _ => False)
      (OwnFrom.and (Own.from (fun s A B row hs hg hr => ⟨cell_kept hs.1 hg hr, (frozen_kept hs.1 hg hr).trans hs.2⟩) _) (ownFrom_below (Nat.le_refl _) (by simp; omega)))
      (fun _ _ _ _ _ hs _ _ => hs)
      ⟨⟨(bS.alloc _).cell, (bS.alloc _).frozen⟩, hB0⟩
      (fun x => { tmps := #[.slice a xs.length cap, undef, .int .u64 0, .bool false, .pointer (some ⟨w.heap.size, 0, none⟩), undef, .int .u32 (dg xs x.1), .slice a xs.length cap, .int .i64 xs.length, .bool false, .bool false, .slice a xs.length cap, .int .i64 xs.length, .bool true, .bool true, .slice a xs.length cap, .pointer (some ⟨b0, off0 + 2, none⟩), .int .u32 d2, .bool false, .bool false, .bool false, .slice a xs.length cap, .func (.func 121) #[] #[.pointer (some ⟨w.heap.size + 1, 0, none⟩)], .int .i64 (x.1 : Int), .int .u32 (dg xs x.1), undef, undef, undef, undef, undef, undef], defers := [] }) ?assign ?body ?done ?stop
    case assign =>
      intro l x W K hK
      gi_wp2
      exact hK
    case body =>
      rintro l pre x W ⟨⟨hc, hf⟩, hB⟩ _
      obtain ⟨hd0, hd1⟩ := hd.dg x.1
      have hacc := accU_bd xs pre
      gi_wp2
      refine ⟨(KeepsOthers.setCell _ _ _).from _, (Kp2.refl _ _ _).setCell (by simp) (by simpa using hbn) _, ⟨?_, by rw [World.frozen?_setCell]; exact hf⟩, hB.setCell (p := ⟨w.heap.size, 0, none⟩) (Nat.le_refl _) _⟩
      rw [accU_snoc, World.cell?_setCell_same _ _ _ hc]
      congr 2
      simp only [IntKind.wrap_u64]
      omega
    case done =>
      rintro D ys W hD rfl ⟨⟨hc, _⟩, hB⟩ hK
      gi_wp2
      refine ⟨by simp, .inl ⟨_, _, rfl, run_takeDeferred hK, ?_⟩⟩
      refine ⟨_, results_tmp2 rfl _ _ _, ?_, hB.trans (belowK_b (w := w) (Nat.le_refl _) W D _ _ (by simp at hD; omega) hK rfl rfl)⟩
      have e : accU xs (dn xs.length) = val xs := by rw [accU_all]; have := val_nonneg hd; omega
      rw [← e]
      rfl
    case stop =>
      rintro D c pre W _ _ h _
      exact h.elim

  · have h3' : ((xs.length : Int) == 3) = false := by simp; omega
    have h3'' : ¬ (3 : Int) < (xs.length : Int) := by omega
    clear h9
    gi_wp2_with fail
    refine ⟨trivial, (callsIn_wide.2 (back_any _ _ _ _)).mono ?_⟩
    rintro e w' ⟨rfl, rfl⟩
    gi_wp2
    have bS := Boxed.new w 217 (.int .u64 0)
    have bN := Boxed.new (w.alloc (.cells #[.int .u64 0] 217)) 198 (.slice a xs.length cap)
    rw [World.size_alloc] at bN
    have hB0 : Below w.heap.size w ((w.alloc (.cells #[.int .u64 0] 217)).alloc (.cells #[.slice a xs.length cap] 198)) := ((Below.refl _ w).alloc (Nat.le_refl _) _).alloc (by simp) _
    obtain ⟨b, hbw, hI⟩ : ∃ b, b < w.heap.size + 1 + 1 ∧ b ≠ w.heap.size ∧ (xs ≠ [] → ∃ off, a = some ⟨b, off, none⟩ ∧ At ((w.alloc (.cells #[.int .u64 0] 217)).alloc (.cells #[.slice a xs.length cap] 198)) b off xs) := by
      by_cases hne : xs = []
      · exact ⟨w.heap.size + 1, by omega, by omega, fun h => absurd hne h⟩
      · obtain ⟨b, off, e, hb, hc⟩ := hat hne
        exact ⟨b, by omega, by omega, fun _ => ⟨off, e, fun j hj => (hB0.cell (p := ⟨b, off + j, none⟩) hb).trans (hc j hj)⟩⟩
    obtain ⟨hbn, hI⟩ := hI
    refine wpIn_rangeFunc_ownG rfl (by decide) (gf := 121) (lb := #[.pointer (some ⟨w.heap.size + 1, 0, none⟩)]) rfl trivial (enters_of Tryd.func121 (by kernel_rfl) rfl)
      (back_stops (w.heap.size + 1) b a cap xs (by omega) _ (by simp) (by simp; omega) bN.cell hI) kp2_t (kp2_b (by simp) (by simp; omega)) (Below.refl _ _) (fun _ => rfl)
      (fun pre W => (W.cell? ⟨w.heap.size, 0, none⟩ = some (.int .u64 (accU xs pre)) ∧ W.frozen? ⟨w.heap.size, 0, none⟩ = false) ∧ Below w.heap.size w W)
      (fun _ _ _ => False)
      (OwnFrom.and (Own.from (fun s A B row hs hg hr => ⟨cell_kept hs.1 hg hr, (frozen_kept hs.1 hg hr).trans hs.2⟩) _) (ownFrom_below (Nat.le_refl _) (by simp; omega)))
      (fun _ _ _ _ _ hs _ _ => hs)
      ⟨⟨(bS.alloc _).cell, (bS.alloc _).frozen⟩, hB0⟩
      (fun x => { tmps := #[.slice a xs.length cap, undef, .int .u64 0, .bool false, .pointer (some ⟨w.heap.size, 0, none⟩), undef, .int .u32 (dg xs x.1), .slice a xs.length cap, .int .i64 xs.length, .bool false, .bool false, .slice a xs.length cap, .int .i64 xs.length, .bool false, .bool false, undef, undef, undef, undef, .bool false, .bool false, .slice a xs.length cap, .func (.func 121) #[] #[.pointer (some ⟨w.heap.size + 1, 0, none⟩)], .int .i64 (x.1 : Int), .int .u32 (dg xs x.1), undef, undef, undef, undef, undef, undef], defers := [] }) ?assign ?body ?done ?stop
    case assign =>
      intro l x W K hK
      gi_wp2
      exact hK
    case body =>
      rintro l pre x W ⟨⟨hc, hf⟩, hB⟩ _
      obtain ⟨hd0, hd1⟩ := hd.dg x.1
      have hacc := accU_bd xs pre
      gi_wp2
      refine ⟨(KeepsOthers.setCell _ _ _).from _, (Kp2.refl _ _ _).setCell (by simp) (by simpa using hbn) _, ⟨?_, by rw [World.frozen?_setCell]; exact hf⟩, hB.setCell (p := ⟨w.heap.size, 0, none⟩) (Nat.le_refl _) _⟩
      rw [accU_snoc, World.cell?_setCell_same _ _ _ hc]
      congr 2
      simp only [IntKind.wrap_u64]
      omega
    case done =>
      rintro D ys W hD rfl ⟨⟨hc, _⟩, hB⟩ hK
      gi_wp2
      refine ⟨by simp, .inl ⟨_, _, rfl, run_takeDeferred hK, ?_⟩⟩
      refine ⟨_, results_tmp2 rfl _ _ _, ?_, hB.trans (belowK_b (w := w) (Nat.le_refl _) W D _ _ (by simp at hD; omega) hK rfl rfl)⟩
      have e : accU xs (dn xs.length) = val xs := by rw [accU_all]; have := val_nonneg hd; omega
      rw [← e]
      rfl
    case stop =>
      rintro D c pre W _ _ h _
      exact h.elim

end Go.Proofs.YtdkenobgfgmepaaDoor.Nm

namespace Go.Proofs.YtdkenobgfgmepaaDoor.Nm
open Go.RowKit Go.Shelf
attribute [local go_sem] Oper.semAt_some

theorem mem_dn_take (n k j : Nat) (hk : k ≤ n) (hj : j < n) (h : n - k ≤ j) : (⟨j, hj⟩ : Fin n) ∈ (dn n).take k := by
  induction k with
  | zero => omega
  | succ k ih =>
    rw [dn_take_succ n k (by omega)]
    by_cases e : j = n - 1 - k
    · subst e; simp
    · exact List.mem_append_left _ (ih (by omega) (by omega))
theorem val_lt_of_len {xs ys : List Int} (hx : Dig xs) (hy : Dig ys) (ny : Norm ys) (h : xs.length < ys.length) : val xs < val ys := by
  have h1 := val_lt hx
  have h2 := le_val hy ny (by intro e; subst e; simp at h)
  have h3 : pw xs.length ≤ pw (ys.length - 1) := pw_mono (by omega)
  omega
theorem val_split (xs : List Int) (k : Nat) (hk : k < xs.length) : val xs = val (xs.take k) + pw k * dg xs k + pw (k + 1) * val (xs.drop (k + 1)) := by
  have h1 := val_append (xs.take (k + 1)) (xs.drop (k + 1))
  rw [List.take_append_drop, List.length_take, Nat.min_eq_left (by omega), val_take_succ xs k hk] at h1
  exact h1
theorem drop_eq {xs ys : List Int} (hl : xs.length = ys.length) (k : Nat) (h : ∀ j, k ≤ j → j < xs.length → dg xs j = dg ys j) : xs.drop k = ys.drop k := by
  apply List.ext_getElem
  · simp [hl]
  · intro i h1 h2
    have := h (k + i) (by omega) (by simp at h1; omega)
    simp only [dg] at this
    rw [List.getElem?_eq_getElem (by simp at h1; omega), List.getElem?_eq_getElem (by simp at h1; omega)] at this
    simpa using this
theorem cmp_digit {xs ys : List Int} (hx : Dig xs) (hy : Dig ys) (hl : xs.length = ys.length) (k : Nat) (hk : k < xs.length) (h : ∀ j, k + 1 ≤ j → j < xs.length → dg xs j = dg ys j) (hlt : dg xs k < dg ys k) : val xs < val ys := by
  have h1 := val_split xs k hk
  have h2 := val_split ys k (by omega)
  rw [drop_eq hl (k + 1) h] at h1
  have h3 := val_lt (hx.take k)
  have h4 := val_nonneg (hy.take k)
  rw [List.length_take, Nat.min_eq_left (by omega)] at h3
  have h5 := Int.mul_le_mul_of_nonneg_left (show dg xs k + 1 ≤ dg ys k by omega) (Int.le_of_lt (pw_pos k))
  rw [Int.mul_add] at h5
  omega
theorem cmpI_lt {x y : Int} (h : x < y) : cmpI x y = -1 := by unfold cmpI; rw [if_pos h]
theorem cmpI_gt {x y : Int} (h : y < x) : cmpI x y = 1 := by unfold cmpI; rw [if_neg (by omega), if_pos h]
theorem cmpI_eq {x y : Int} (h : x = y) : cmpI x y = 0 := by unfold cmpI; rw [if_neg (by omega), if_neg (by omega)]

end Go.Proofs.YtdkenobgfgmepaaDoor.Nm
