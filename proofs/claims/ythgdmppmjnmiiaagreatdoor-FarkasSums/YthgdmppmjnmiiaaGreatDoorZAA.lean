/- The walk of addMag: two magnitudes together. -/
import Derived.Test.YthgdmppmjnmiiaaGreatDoorRows
import Derived.WalkKit
import Derived.WalkSpells
import Derived.WalkLawsBesides
set_option linter.unusedVariables false
set_option linter.unusedSimpArgs false

/- Plain facts on digits to the base of a thousand millions, the least first: their value, noughts at the top, how many there are. No program. -/
namespace Go.Proofs.YthgdmppmjnmiiaaGreatDoor.Nm

/-- The number of the digits xs, the least first. -/
def val : List Int → Int
  | [] => 0
  | x :: xs => x + 1000000000 * val xs
/-- Each is a digit. -/
def Dig (xs : List Int) : Prop := ∀ x ∈ xs, 0 ≤ x ∧ x < 1000000000
/-- No nought at the top. -/
def Norm (xs : List Int) : Prop := ∀ h : xs ≠ [], xs.getLast h ≠ 0
/-- The base to the k. -/
def pw : Nat → Int
  | 0 => 1
  | k + 1 => 1000000000 * pw k

theorem pw_pos (k : Nat) : 0 < pw k := by
  induction k with
  | zero => decide
  | succ k ih => simp only [pw]; omega
theorem pw_add (a b : Nat) : pw (a + b) = pw a * pw b := by
  induction a with
  | zero => simp [pw]
  | succ a ih => rw [Nat.succ_add]; simp only [pw]; rw [ih, Int.mul_assoc]
theorem pw_mono {a b : Nat} (h : a ≤ b) : pw a ≤ pw b := by
  obtain ⟨c, rfl⟩ := Nat.exists_eq_add_of_le h
  rw [pw_add]
  have h1 := pw_pos a
  have h2 := pw_pos c
  have h3 := Int.mul_le_mul_of_nonneg_left (show (1 : Int) ≤ pw c by omega) (Int.le_of_lt h1)
  omega
theorem val_append (xs ys : List Int) : val (xs ++ ys) = val xs + pw xs.length * val ys := by
  induction xs with
  | nil => simp [val, pw]
  | cons x xs ih =>
    simp only [List.cons_append, val, List.length_cons, pw]
    rw [ih, Int.mul_add, Int.mul_assoc]; omega
theorem val_snoc (xs : List Int) (d : Int) : val (xs ++ [d]) = val xs + pw xs.length * d := by
  rw [val_append]; simp [val]
theorem Dig.append {xs ys : List Int} (h : Dig xs) (k : Dig ys) : Dig (xs ++ ys) := by
  intro x hx
  rcases List.mem_append.1 hx with hx | hx
  · exact h x hx
  · exact k x hx
theorem Dig.one {d : Int} (h0 : 0 ≤ d) (h1 : d < 1000000000) : Dig [d] := by
  intro x hx
  simp at hx; subst hx; exact ⟨h0, h1⟩
theorem Dig.nil : Dig [] := by intro x hx; cases hx
theorem Dig.take {xs : List Int} (h : Dig xs) (k : Nat) : Dig (xs.take k) := fun x hx => h x (List.mem_of_mem_take hx)
theorem Dig.drop {xs : List Int} (h : Dig xs) (k : Nat) : Dig (xs.drop k) := fun x hx => h x (List.mem_of_mem_drop hx)
theorem Dig.at {xs : List Int} (h : Dig xs) (k : Nat) : 0 ≤ xs[k]?.getD 0 ∧ xs[k]?.getD 0 < 1000000000 := by
  cases e : xs[k]? with
  | none => simp
  | some v => exact h v (List.mem_of_getElem? e)
theorem Dig.get {xs : List Int} (h : Dig xs) (k : Nat) : ∃ x, xs[k]?.getD 0 = x ∧ 0 ≤ x ∧ x < 1000000000 := ⟨_, rfl, h.at k⟩
theorem take_snoc (xs : List Int) (k : Nat) (h : k < xs.length) : xs.take (k + 1) = xs.take k ++ [xs[k]?.getD 0] := by
  rw [List.take_add_one, List.getElem?_eq_getElem h]; rfl
theorem val_take_succ (xs : List Int) (k : Nat) (h : k < xs.length) : val (xs.take (k + 1)) = val (xs.take k) + pw k * (xs[k]?.getD 0) := by
  rw [take_snoc xs k h, val_snoc, List.length_take, Nat.min_eq_left (Nat.le_of_lt h)]
theorem val_take_succ' (xs : List Int) (k : Nat) : val (xs.take (k + 1)) = val (xs.take k) + pw k * (xs[k]?.getD 0) := by
  by_cases h : k < xs.length
  · exact val_take_succ xs k h
  · rw [List.take_of_length_le (by omega), List.take_of_length_le (by omega), List.getElem?_eq_none (by omega)]
    simp
theorem val_nonneg {xs : List Int} (h : Dig xs) : 0 ≤ val xs := by
  induction xs with
  | nil => simp [val]
  | cons x xs ih =>
    have h1 := h x (by simp)
    have h2 := ih (fun y hy => h y (by simp [hy]))
    simp only [val]; omega
theorem val_lt {xs : List Int} (h : Dig xs) : val xs < pw xs.length := by
  induction xs with
  | nil => simp [val, pw]
  | cons x xs ih =>
    have h1 := h x (by simp)
    have h2 := ih (fun y hy => h y (by simp [hy]))
    simp only [val, List.length_cons, pw]; omega
/-- As many digits as the number wants. -/
theorem le_val {xs : List Int} (h : Dig xs) (hn : Norm xs) (hne : xs ≠ []) : pw (xs.length - 1) ≤ val xs := by
  have e := List.dropLast_concat_getLast hne
  have hl : xs.dropLast.length = xs.length - 1 := by simp
  have h1 := hn hne
  have h2 := h _ (List.getLast_mem hne)
  have h3 := val_nonneg (xs := xs.dropLast) (fun y hy => h y (List.dropLast_subset xs hy))
  rw [← e, val_snoc]
  simp only [List.length_append, List.length_cons, List.length_nil, hl]
  rw [show xs.length - 1 + (0 + 1) - 1 = xs.length - 1 by omega]
  have h4 := Int.mul_le_mul_of_nonneg_left (show (1 : Int) ≤ xs.getLast hne by omega) (Int.le_of_lt (pw_pos (xs.length - 1)))
  omega
theorem pw_lt_imp {a b : Nat} (h : pw a < pw b) : a < b := by
  apply Nat.lt_of_not_le
  intro hc
  have := pw_mono hc
  omega
theorem len_le {xs : List Int} (h : Dig xs) (hn : Norm xs) {k : Nat} (hk : val xs < pw k) : xs.length ≤ k := by
  by_cases hne : xs = []
  · simp [hne]
  · have h1 := le_val h hn hne
    have h2 := pw_lt_imp (Int.lt_of_le_of_lt h1 hk)
    omega
theorem val_replicate (n : Nat) : val (List.replicate n 0) = 0 := by
  induction n with
  | zero => rfl
  | succ n ih => simp only [List.replicate_succ, val, ih]; omega
theorem Dig.replicate (n : Nat) : Dig (List.replicate n 0) := by
  intro x hx
  rw [List.eq_of_mem_replicate hx]; omega
/-- All digits from k on are noughts. -/
theorem val_take_of_zero (xs : List Int) (k : Nat) (h : ∀ j, k ≤ j → j < xs.length → xs[j]?.getD 0 = 0) : val (xs.take k) = val xs := by
  by_cases hk : xs.length ≤ k
  · rw [List.take_of_length_le hk]
  · have e : xs = xs.take k ++ List.replicate (xs.length - k) 0 := by
      apply List.ext_getElem
      · simp; omega
      · intro i h1 h2
        by_cases hi : i < k
        · rw [List.getElem_append_left (by simp; omega)]; simp
        · rw [List.getElem_append_right (by simp; omega)]
          have := h i (by omega) h1
          rw [List.getElem?_eq_getElem h1] at this
          simpa using this
    have h2 := val_append (xs.take k) (List.replicate (xs.length - k) 0)
    rw [← e, val_replicate] at h2
    omega
theorem Norm.nil : Norm [] := fun h => absurd rfl h
theorem Norm.take {xs : List Int} {k : Nat} (hk : k ≤ xs.length) (h : 0 < k → xs[k - 1]?.getD 0 ≠ 0) : Norm (xs.take k) := by
  intro hne
  have hk0 : 0 < k := by
    apply Nat.pos_of_ne_zero
    intro e
    subst e
    exact hne rfl
  have h1 := h hk0
  rw [List.getElem?_eq_getElem (by omega)] at h1
  rw [List.getLast_eq_getElem]
  simp only [List.length_take, Nat.min_eq_left hk, List.getElem_take]
  exact h1

end Go.Proofs.YthgdmppmjnmiiaaGreatDoor.Nm

/- Plain facts on decimal texts and their digits to the base of a thousand millions. No program. -/
namespace Go.Proofs.YthgdmppmjnmiiaaGreatDoor.Nm

/-- The number of a decimal text, its letters as bytes. -/
def dec (l : List UInt8) : Int := l.foldl (fun a b => 10 * a + ((b.toNat : Int) - 48)) 0
theorem dec_snoc (l : List UInt8) (b : UInt8) : dec (l ++ [b]) = 10 * dec l + ((b.toNat : Int) - 48) := by simp [dec]
/-- Decimal digits all. -/
def Dg (l : List UInt8) : Prop := ∀ b ∈ l, 48 ≤ b.toNat ∧ b.toNat ≤ 57
theorem dec_nonneg_aux (n : Nat) : ∀ l : List UInt8, l.length = n → Dg l → 0 ≤ dec l ∧ dec l < (10 : Int) ^ n := by
  induction n with
  | zero => intro l hl _; rw [List.eq_nil_of_length_eq_zero hl]; simp [dec]
  | succ n ih =>
    intro l hl hd
    rcases List.eq_nil_or_concat l with rfl | ⟨q, b, rfl⟩
    · simp at hl
    · rw [List.concat_eq_append] at *
      have h1 := ih q (by simpa using hl) (fun x hx => hd x (by simp [hx]))
      have h2 := hd b (by simp)
      rw [dec_snoc, Int.pow_succ]
      omega
theorem dec_nonneg {l : List UInt8} (h : Dg l) : 0 ≤ dec l := (dec_nonneg_aux _ l rfl h).1
theorem dec_lt {l : List UInt8} (h : Dg l) : dec l < (10 : Int) ^ l.length := (dec_nonneg_aux _ l rfl h).2
theorem pow_mono10 {a b : Nat} (h : a ≤ b) : (10 : Int) ^ a ≤ (10 : Int) ^ b := by
  obtain ⟨c, rfl⟩ := Nat.exists_eq_add_of_le h
  clear h
  induction c with
  | zero => exact Int.le_refl _
  | succ c ih =>
    rw [← Nat.add_assoc, Int.pow_succ]
    have : (0 : Int) < 10 ^ (a + c) := Int.pow_pos (by decide)
    omega
theorem pw_eq (k : Nat) : pw k = (10 : Int) ^ (9 * k) := by
  induction k with
  | zero => rfl
  | succ k ih =>
    rw [show 9 * (k + 1) = 9 * k + 9 by omega, Int.pow_add, ← ih]
    simp only [pw]
    rw [show ((10 : Int) ^ 9) = 1000000000 by decide]
    exact Int.mul_comm _ _
theorem take_snoc8 (l : List UInt8) (k : Nat) (h : k < l.length) : l.take (k + 1) = l.take k ++ [l[k]] := by
  rw [List.take_add_one, List.getElem?_eq_getElem h]; rfl
/-- What has been made of the first i of n decimal digits. -/
def PM (D : List UInt8) (n i : Nat) (O : List Int) : Prop :=
  ∃ L : List Int, O = List.replicate ((n - i) / 9) 0 ++ L ∧ ((n - i) % 9 = 0 → val L = dec (D.take i) ∧ Dig L) ∧
    ((n - i) % 9 ≠ 0 → ∃ x T, L = x :: T ∧ dec (D.take i) = x + (10 : Int) ^ (9 - (n - i) % 9) * val T ∧ 0 ≤ x ∧ x < (10 : Int) ^ (9 - (n - i) % 9) ∧ Dig T)
theorem PM.start (D : List UInt8) (n : Nat) : PM D n 0 (List.replicate ((n + 8) / 9) 0) := by
  by_cases h : n % 9 = 0
  · refine ⟨[], ?_, fun _ => ⟨by simp [val, dec], Dig.nil⟩, fun h' => absurd h h'⟩
    rw [show (n + 8) / 9 = (n - 0) / 9 by omega]; simp
  · refine ⟨[0], ?_, fun h' => absurd h' h, fun _ => ⟨0, [], rfl, by simp [val, dec], by omega, Int.pow_pos (by decide), Dig.nil⟩⟩
    rw [show (n + 8) / 9 = (n - 0) / 9 + 1 by omega, List.replicate_succ']
theorem p10_le {r : Nat} (h : 1 ≤ r) (h8 : r ≤ 8) : (10 : Int) ^ (9 - r) ≤ 100000000 := by
  have := pow_mono10 (show 9 - r ≤ 8 by omega)
  rw [show ((10 : Int) ^ 8) = 100000000 by decide] at this
  exact this
theorem PM.step {D : List UInt8} {n i : Nat} {O : List Int} (h : PM D n i O) (hi : i < n) (hn : D.length = n) {d : Int} (hd : ((D[i]'(by omega)).toNat : Int) - 48 = d) (d0 : 0 ≤ d) (d1 : d ≤ 9) :
    ∃ x, O[(n - 1 - i) / 9]?.getD 0 = x ∧ 0 ≤ x ∧ x ≤ 99999999 ∧ (n - 1 - i) / 9 < O.length ∧ PM D n (i + 1) (O.set ((n - 1 - i) / 9) (x * 10 + d)) := by
  obtain ⟨L, rfl, h0, h1⟩ := h
  have hdec : dec (D.take (i + 1)) = 10 * dec (D.take i) + d := by
    rw [take_snoc8 D i (by omega), dec_snoc, hd]
  by_cases hr : (n - i) % 9 = 0
  · obtain ⟨v, hL⟩ := h0 hr
    clear h0 h1
    have ha : (n - i) / 9 = (n - 1 - i) / 9 + 1 := by omega
    have e : List.replicate ((n - i) / 9) (0 : Int) ++ L = List.replicate ((n - 1 - i) / 9) 0 ++ 0 :: L := by
      rw [ha, List.replicate_succ', List.append_assoc]; rfl
    rw [e]
    refine ⟨0, ?_, by omega, by omega, by simp, ?_⟩
    · rw [List.getElem?_append_right (by simp)]; simp
    · rw [List.set_append_right _ _ (by simp)]
      simp only [List.length_replicate, Nat.sub_self, List.set_cons_zero]
      refine ⟨(0 * 10 + d) :: L, by rw [show (n - (i + 1)) / 9 = (n - 1 - i) / 9 by omega], fun h' => absurd h' (by omega), fun _ => ⟨_, L, rfl, ?_, by omega, ?_, hL⟩⟩
      · rw [hdec, ← v, show 9 - (n - (i + 1)) % 9 = 1 by omega]; omega
      · rw [show 9 - (n - (i + 1)) % 9 = 1 by omega]; omega
  · obtain ⟨x, T, rfl, v, x0, x1, hT⟩ := h1 hr
    clear h0 h1
    have ha : (n - i) / 9 = (n - 1 - i) / 9 := by omega
    have hx8 := p10_le (r := (n - i) % 9) (by omega) (by omega)
    rw [ha]
    refine ⟨x, ?_, x0, by omega, by simp, ?_⟩
    · rw [List.getElem?_append_right (by simp)]; simp
    · rw [List.set_append_right _ _ (by simp)]
      simp only [List.length_replicate, Nat.sub_self, List.set_cons_zero]
      have hp : (10 : Int) ^ (9 - ((n - i) % 9 - 1)) = 10 ^ (9 - (n - i) % 9) * 10 := by
        rw [show 9 - ((n - i) % 9 - 1) = (9 - (n - i) % 9) + 1 by omega, Int.pow_succ]
      generalize (10 : Int) ^ (9 - (n - i) % 9) = q at *
      have hval : dec (D.take (i + 1)) = (x * 10 + d) + q * 10 * val T := by
        rw [hdec, v]; grind
      refine ⟨(x * 10 + d) :: T, by rw [show (n - (i + 1)) / 9 = (n - 1 - i) / 9 by omega], fun h' => ?_, fun h' => ⟨_, T, rfl, ?_, by omega, ?_, hT⟩⟩
      · have h9 : (n - i) % 9 = 1 := by omega
        rw [h9] at hp
        have hq : q * 10 = 1000000000 := by rw [← hp]; decide
        rw [hq] at hval
        refine ⟨by rw [hval]; rfl, ?_⟩
        intro y hy
        rcases List.mem_cons.1 hy with rfl | hy
        · omega
        · exact hT y hy
      · rw [show (n - (i + 1)) % 9 = (n - i) % 9 - 1 by omega, hp]; exact hval
      · rw [show (n - (i + 1)) % 9 = (n - i) % 9 - 1 by omega, hp]; omega
theorem PM.done {D : List UInt8} {n : Nat} {O : List Int} (h : PM D n n O) (hn : D.length = n) : val O = dec D ∧ Dig O := by
  obtain ⟨L, rfl, h0, _⟩ := h
  obtain ⟨v, hL⟩ := h0 (by omega)
  rw [List.take_of_length_le (by omega)] at v
  simp only [Nat.sub_self, Nat.zero_div, List.replicate_zero, List.nil_append]
  exact ⟨v, hL⟩

end Go.Proofs.YthgdmppmjnmiiaaGreatDoor.Nm

/- Closed facts of the loaded program, and the walks of the leaves of package num: signs, sizes, comparisons. -/
namespace Go.Proofs.YthgdmppmjnmiiaaGreatDoor.Nm
open Go.RowKit

theorem info32 : (Tryz.prog.info? 118).map (fun i => (i.zero, i.size, i.bytes)) = some (some (.int .u32 0), 1, 4) := by kernel_rfl
theorem hide {p : Prop} (h : p) : Hid p := h
theorem unhide {p : Prop} (h : Hid p) : p := h
theorem ret_int {k : IntKind} {a b : Int} (h : a = b) : Ending.returned (.int k a) = .returned (.int k b) := by rw [h]

theorem eqnil_some (w : World) (a : Addr) (n c : Nat) : (binOp .eql 47 (.slice (some a) n c) (.slice none 0 0)).run Tryz.prog w = .ok (.bool false) w := Lib.run_eql_slice_nil w _ _ _ _ _ _ _ Tryz.underlying47
theorem eqnil_none (w : World) (n c : Nat) : (binOp .eql 47 (.slice none n c) (.slice none 0 0)).run Tryz.prog w = .ok (.bool true) w := Lib.run_eql_slice_nil w _ _ _ _ _ _ _ Tryz.underlying47
theorem nenil_some (w : World) (a : Addr) (n c : Nat) : (binOp .neq 47 (.slice (some a) n c) (.slice none 0 0)).run Tryz.prog w = .ok (.bool true) w := run_neq_slice_nil_any w _ _ _ _ _ _ _ Tryz.underlying47
theorem nenil_none (w : World) (n c : Nat) : (binOp .neq 47 (.slice none n c) (.slice none 0 0)).run Tryz.prog w = .ok (.bool false) w := run_neq_slice_nil_any w _ _ _ _ _ _ _ Tryz.underlying47

/-- The slice value v reads as the uint32s xs. -/
def Mg (w : World) (v : Value) (xs : List Int) : Prop :=
  ∃ a cap, v = .slice a xs.length cap ∧ xs.length ≤ cap ∧ (xs ≠ [] → ∃ b off, a = some ⟨b, off, none⟩ ∧ b < w.heap.size ∧ ∀ j, j < xs.length → w.cell? ⟨b, off + j, none⟩ = some (.int .u32 (xs[j]?.getD 0)))
theorem Mg.below {w w' : World} {v : Value} {xs : List Int} (h : Mg w v xs) (hb : Below w.heap.size w w') : Mg w' v xs := by
  obtain ⟨a, cap, e, hc, hr⟩ := h
  refine ⟨a, cap, e, hc, fun hne => ?_⟩
  obtain ⟨b, off, ea, hlt, hcell⟩ := hr hne
  exact ⟨b, off, ea, Nat.lt_of_lt_of_le hlt hb.size, fun j hj => (hb.cell (p := ⟨b, off + j, none⟩) hlt).trans (hcell j hj)⟩
theorem Mg.nil (w : World) (a : Option Addr) (cap : Nat) : Mg w (.slice a 0 cap) [] := ⟨a, cap, rfl, Nat.zero_le _, fun h => absurd rfl h⟩
theorem Mg.of_owns {w : World} {base : Nat} {v : Value} {xs : List Int} (h : w.ownsRow base 118 1 v xs.length (xs.map (Value.int .u32))) : Mg w v xs := by
  rcases h.2 with ⟨rfl, h0⟩ | ⟨g, cap, cur, rfl, hb, hg, hn, hc, hs, ht⟩
  · rw [List.eq_nil_of_length_eq_zero h0]; exact Mg.nil _ _ _
  · refine ⟨_, cap, rfl, hn, fun hne => ⟨g, 0, rfl, (Array.getElem?_eq_some_iff.1 hg).1, fun j hj => ?_⟩⟩
    have := h.cells (g := g) rfl j (.int .u32 (xs[j]?.getD 0)) (by simp [hj])
    have e : (⟨g, 0, none⟩ : Addr).add j = ⟨g, 0 + j, none⟩ := by unfold Addr.add; split <;> simp_all
    rw [e] at this
    exact this

set_option maxHeartbeats 400000 in
theorem unsigned_any (n : Int) (w : World) (h1 : -9223372036854775808 ≤ n) (h2 : n ≤ 9223372036854775807) :
    Calls Tryz.prog 65 #[.int .i64 n] w fun e w' => e = .returned (.int .u64 n.natAbs) ∧ w' = w := by
  by_cases h : n < 0
  · go_enter Tryz.func65, Tryz.ntmps65
    go_wp2
    go_ret
    exact ⟨ret_int (by simp only [IntKind.wrap_u64]; omega), rfl⟩
  · go_enter Tryz.func65, Tryz.ntmps65
    go_wp2
    go_ret
    exact ⟨ret_int (by omega), rfl⟩

/-- What cmp.Compare tells. -/
def cmpI (x y : Int) : Int := if x < y then -1 else if y < x then 1 else 0

set_option maxHeartbeats 400000 in
theorem cmp64_any (x y : Int) (w : World) :
    Calls Tryz.prog 44 #[.int .i64 x, .int .i64 y] w fun e w' => e = .returned (.int .i64 (cmpI x y)) ∧ w' = w := by
  by_cases h : x < y
  · go_enter Tryz.func44, Tryz.ntmps44
    go_wp2
    go_ret
    exact ⟨ret_int (by simp [cmpI, h]), rfl⟩
  · by_cases h' : y < x
    · go_enter Tryz.func44, Tryz.ntmps44
      go_wp2
      go_ret
      exact ⟨ret_int (by unfold cmpI; rw [if_neg (by omega)]; first | rw [if_pos (by omega)] | rw [if_neg (by omega)]), rfl⟩
    · go_enter Tryz.func44, Tryz.ntmps44
      go_wp2
      go_ret
      exact ⟨ret_int (by unfold cmpI; rw [if_neg (by omega)]; first | rw [if_pos (by omega)] | rw [if_neg (by omega)]), rfl⟩
set_option maxHeartbeats 400000 in
theorem cmpInt_any (x y : Int) (w : World) :
    Calls Tryz.prog 82 #[.int .i64 x, .int .i64 y] w fun e w' => e = .returned (.int .i64 (cmpI x y)) ∧ w' = w := by
  by_cases h : x < y
  · go_enter Tryz.func82, Tryz.ntmps82
    go_wp2
    go_ret
    exact ⟨ret_int (by simp [cmpI, h]), rfl⟩
  · by_cases h' : y < x
    · go_enter Tryz.func82, Tryz.ntmps82
      go_wp2
      go_ret
      exact ⟨ret_int (by unfold cmpI; rw [if_neg (by omega)]; first | rw [if_pos (by omega)] | rw [if_neg (by omega)]), rfl⟩
    · go_enter Tryz.func82, Tryz.ntmps82
      go_wp2
      go_ret
      exact ⟨ret_int (by unfold cmpI; rw [if_neg (by omega)]; first | rw [if_pos (by omega)] | rw [if_neg (by omega)]), rfl⟩
set_option maxHeartbeats 400000 in
theorem cmp32_any (x y : Int) (w : World) :
    Calls Tryz.prog 83 #[.int .u32 x, .int .u32 y] w fun e w' => e = .returned (.int .i64 (cmpI x y)) ∧ w' = w := by
  by_cases h : x < y
  · go_enter Tryz.func83, Tryz.ntmps83
    go_wp2
    go_ret
    exact ⟨ret_int (by simp [cmpI, h]), rfl⟩
  · by_cases h' : y < x
    · go_enter Tryz.func83, Tryz.ntmps83
      go_wp2
      go_ret
      exact ⟨ret_int (by unfold cmpI; rw [if_neg (by omega)]; first | rw [if_pos (by omega)] | rw [if_neg (by omega)]), rfl⟩
    · go_enter Tryz.func83, Tryz.ntmps83
      go_wp2
      go_ret
      exact ⟨ret_int (by unfold cmpI; rw [if_neg (by omega)]; first | rw [if_pos (by omega)] | rw [if_neg (by omega)]), rfl⟩

set_option maxHeartbeats 400000 in
theorem signed_no (below : Bool) (n : Int) (w : World) (h0 : 0 ≤ n) (h1 : n < 18446744073709551616) (h : if below then 9223372036854775808 < n else 9223372036854775808 ≤ n) :
    Calls Tryz.prog 66 #[.bool below, .int .u64 n] w fun e w' => e = .returned (.tuple #[.int .i64 0, .bool false]) ∧ w' = w := by
  cases below with
  | false =>
    simp at h
    go_enter Tryz.func66, Tryz.ntmps66
    go_wp2
    go_ret2
    exact ⟨rfl, rfl⟩
  | true =>
    simp at h
    go_enter Tryz.func66, Tryz.ntmps66
    go_wp2
    go_ret2
    exact ⟨rfl, rfl⟩
theorem ret_ib {k : IntKind} {a b : Int} {t : Bool} (h : a = b) : Ending.returned (.tuple #[.int k a, .bool t]) = .returned (.tuple #[.int k b, .bool t]) := by rw [h]
set_option maxHeartbeats 400000 in
theorem signed_yes (below : Bool) (n : Int) (w : World) (h0 : 0 ≤ n) (h : if below then n ≤ 9223372036854775808 else n < 9223372036854775808) :
    Calls Tryz.prog 66 #[.bool below, .int .u64 n] w fun e w' => e = .returned (.tuple #[.int .i64 (if below then -n else n), .bool true]) ∧ w' = w := by
  cases below with
  | false =>
    simp at h
    go_enter Tryz.func66, Tryz.ntmps66
    go_wp2
    go_ret2
    exact ⟨rfl, rfl⟩
  | true =>
    simp at h
    go_enter Tryz.func66, Tryz.ntmps66
    go_wp2
    go_ret2
    exact ⟨ret_ib (by simp only [IntKind.wrap_u64, wrap64]; omega), rfl⟩

set_option maxHeartbeats 400000 in
theorem of_any (n : Int) (w : World) :
    Calls Tryz.prog 59 #[.int .i64 n] w fun e w' => e = .returned (.agg #[.int .i64 n, .slice none 0 0]) ∧ Below w.heap.size w w' := by
  go_enter Tryz.func59, Tryz.ntmps59
  go_wp2
  exact bodyPost_ret (v := .agg #[.int .i64 n, .slice none 0 0]) (by simp [results, Tryz.results59, go_sem]) rfl ⟨rfl, (Below.refl _ _).alloc (Nat.le_refl _) _⟩

end Go.Proofs.YthgdmppmjnmiiaaGreatDoor.Nm

/- The walks of trim, magOf, slices.Clone: magnitudes that are made and cut. -/
namespace Go.Proofs.YthgdmppmjnmiiaaGreatDoor.Nm
open Go.RowKit

/-- The length in a slot that holds a slice. -/
def lenOf : Value → Nat | .slice _ n _ => n | _ => 0

theorem Mg.take {w : World} {a : Option Addr} {n cap : Nat} {xs : List Int} (h : Mg w (.slice a n cap) xs) {k : Nat} (hk : k ≤ xs.length) : Mg w (.slice a k cap) (xs.take k) := by
  obtain ⟨a', cap', e, hc, hr⟩ := h
  simp only [Value.slice.injEq] at e
  obtain ⟨rfl, rfl, rfl⟩ := e
  have hlen : (xs.take k).length = k := by simp; omega
  refine ⟨a, cap, by rw [hlen], by omega, fun hne => ?_⟩
  obtain ⟨b, off, ea, hlt, hcell⟩ := hr (by intro e; subst e; exact hne (by simp))
  refine ⟨b, off, ea, hlt, fun j hj => ?_⟩
  rw [hlen] at hj
  rw [hcell j (by omega), List.getElem?_take, if_pos hj]

/-- How many of the first k digits are left without the noughts at the top. -/
def tl : Nat → List Int → Nat
  | 0, _ => 0
  | k + 1, xs => if xs[k]?.getD 0 = 0 then tl k xs else k + 1
theorem tl_le (k : Nat) (xs : List Int) : tl k xs ≤ k := by
  induction k with
  | zero => exact Nat.le_refl _
  | succ k ih =>
    unfold tl
    split
    · omega
    · exact Nat.le_refl _
theorem tl_top (k : Nat) (xs : List Int) (h : 0 < tl k xs) : xs[tl k xs - 1]?.getD 0 ≠ 0 := by
  induction k with
  | zero => simp [tl] at h
  | succ k ih =>
    unfold tl at h ⊢
    split
    · rename_i e
      rw [if_pos e] at h
      exact ih h
    · rename_i e
      simpa using e
theorem tl_zero (k : Nat) (xs : List Int) : ∀ j, tl k xs ≤ j → j < k → xs[j]?.getD 0 = 0 := by
  induction k with
  | zero => intro j _ h; omega
  | succ k ih =>
    intro j h1 h2
    unfold tl at h1
    split at h1
    · rename_i e
      by_cases hj : j = k
      · rw [hj]; exact e
      · exact ih j h1 (by omega)
    · omega

set_option maxHeartbeats 800000 in
theorem trim_val (a : Option Addr) (cap : Nat) (xs : List Int) (w : World) (hm : Mg w (.slice a xs.length cap) xs) (_hd : Dig xs) (hl : xs.length ≤ 1000000) :
    Calls Tryz.prog 80 #[.slice a xs.length cap] w fun e w' => e = .returned (.slice a (tl xs.length xs) cap) ∧ w' = w := by
  obtain ⟨a', cap', e', hcap, hat⟩ := hm
  simp only [Value.slice.injEq] at e'
  obtain ⟨rfl, _, rfl⟩ := e'
  go_enter Tryz.func80, Tryz.ntmps80
  go_wp2
  go_loop [0] (fun s => ∃ k : Nat, k ≤ xs.length ∧ s = .slice a k cap ∧ tl xs.length xs = tl k xs) (fun s => lenOf s)
  case atStart => exact ⟨xs.length, Nat.le_refl _, rfl, rfl⟩
  case round =>
    obtain ⟨k, hk, rfl, hz⟩ := hrel
    have HZ := hide hz
    clear hz
    have hcap' : k ≤ cap := by omega
    by_cases hk0 : 0 < k
    · obtain ⟨b, off, rfl, hb, hc⟩ := hat (by intro e; subst e; simp at hk; omega)
      have hck := hc (k - 1) (by omega)
      have hin : (k : Int) - 1 = ((k - 1 : Nat) : Int) := by omega
      have hst : Hid (tl k xs = if xs[k - 1]?.getD 0 = 0 then tl (k - 1) xs else k) := by
        obtain ⟨m, rfl⟩ : ∃ m, k = m + 1 := ⟨k - 1, by omega⟩
        show tl (m + 1) xs = _
        rfl
      by_cases hv : xs[k - 1]?.getD 0 = 0
      · have hv' : (xs[k - 1]?.getD 0 == 0) = true := by simp [hv]
        have hst' : Hid (tl xs.length xs = tl (k - 1) xs) := by
          show _ = _
          rw [unhide HZ, unhide hst, if_pos hv]
        go_wp2
        exact ⟨⟨k - 1, by omega, rfl, unhide hst'⟩, by simp [lenOf]; omega⟩
      · have hv' : (xs[k - 1]?.getD 0 == 0) = false := by simp [hv]
        have hst' : Hid (tl xs.length xs = k) := by
          show _ = _
          rw [unhide HZ, unhide hst, if_neg hv]
        go_wp2
        go_ret
        exact ⟨by rw [unhide hst']; rfl, rfl⟩
    · obtain rfl : k = 0 := by omega
      go_wp2
      go_ret
      exact ⟨by rw [unhide HZ]; rfl, rfl⟩

/-- What is left of a magnitude without the noughts at its top. -/
theorem tl_spec {w : World} {a : Option Addr} {cap : Nat} {xs : List Int} (hm : Mg w (.slice a xs.length cap) xs) (hd : Dig xs) :
    Mg w (.slice a (tl xs.length xs) cap) (xs.take (tl xs.length xs)) ∧ Dig (xs.take (tl xs.length xs)) ∧ Norm (xs.take (tl xs.length xs)) ∧ val (xs.take (tl xs.length xs)) = val xs ∧ (xs.take (tl xs.length xs)).length ≤ xs.length :=
  ⟨hm.take (tl_le _ _), hd.take _, Norm.take (tl_le _ _) (tl_top _ _), val_take_of_zero xs _ (tl_zero _ _), by simp; omega⟩
theorem trim_any (v : Value) (xs : List Int) (w : World) (hm : Mg w v xs) (hd : Dig xs) (hl : xs.length ≤ 1000000) :
    Calls Tryz.prog 80 #[v] w fun e w' => ∃ v' ys, e = .returned v' ∧ w' = w ∧ Mg w v' ys ∧ Dig ys ∧ Norm ys ∧ val ys = val xs ∧ ys.length ≤ xs.length := by
  have hm' := hm
  obtain ⟨a, cap, rfl, hcap, hat⟩ := hm
  refine (trim_val a cap xs w hm' hd hl).mono ?_
  rintro e w1 ⟨rfl, rfl⟩
  exact ⟨_, _, rfl, rfl, tl_spec hm' hd⟩

theorem Norm.snoc {xs : List Int} {d : Int} (h : d ≠ 0) : Norm (xs ++ [d]) := by
  intro hne
  simpa using h
theorem one32 (d : Int) : ∀ u ∈ [Value.int .u32 d], u.oneCell' = true := by
  intro u hu
  simp at hu
  subst hu
  rfl
theorem own_snoc {w : World} {base : Nat} {v : Value} {xs : List Int} {d : Int} (h : w.ownsRow base 118 1 v (xs.length + 1) (xs.map (Value.int .u32) ++ [.int .u32 d])) :
    w.ownsRow base 118 1 v (xs ++ [d]).length ((xs ++ [d]).map (Value.int .u32)) := by simpa using h

set_option maxHeartbeats 800000 in
theorem magOf_any (n : Int) (w : World) (h0 : 0 ≤ n) (h1 : n < 18446744073709551616) :
    Calls Tryz.prog 81 #[.int .u64 n] w fun e w' => ∃ v xs, e = .returned v ∧ Below w.heap.size w w' ∧ Mg w' v xs ∧ Dig xs ∧ Norm xs ∧ val xs = n ∧ xs.length ≤ 3 := by
  obtain ⟨i0, hi, hz0, hz1, hz2⟩ := info_parts info32
  go_enter Tryz.func81, Tryz.ntmps81
  go_wp2
  go_loopw [0, 3] (fun s v wr => ∃ (m : Int) (xs : List Int), 0 ≤ m ∧ m < 18446744073709551616 ∧ s = .int .u64 m ∧ wr.ownsRow w.heap.size 118 1 v xs.length (xs.map (Value.int .u32)) ∧ Below w.heap.size w wr ∧ Dig xs ∧ n = val xs + pw xs.length * m ∧ (m = 0 → Norm xs)) (fun s _ _ => (intOf s).toNat)
  case atStart => exact ⟨n, [], h0, h1, rfl, World.ownsRow_nil _ _ _ _, Below.refl _ _, Dig.nil, by simp [val, pw], fun _ => Norm.nil⟩
  case round =>
    obtain ⟨m, xs, hm0, hm1, rfl, hown, hbel, hd, hn, hno⟩ := hrel
    have hlen : xs.length ≤ 3 := by
      have hp3 : (18446744073709551616 : Int) < pw 3 := by decide
      by_cases hm : 0 < m
      · have h2 := val_nonneg hd
        have h3 := Int.mul_le_mul_of_nonneg_left (show (1 : Int) ≤ m by omega) (Int.le_of_lt (pw_pos xs.length))
        have h4 : pw xs.length < pw 3 := by omega
        have := pw_lt_imp h4
        omega
      · obtain rfl : m = 0 := by omega
        exact len_le hd (hno rfl) (by simp at hn; omega)
    by_cases hm : 0 < m
    · clear hno
      have HN := hide hn
      clear hn
      go_wp2_with (at_builtin; refine wpList_append_own _ rfl _ _ 47 rfl w.heap.size 118 i0 (.int .u32 0) 1 4 Tryz.underlying47 hi hz0 hz1 hz2 rfl (by decide) _ _ _ rfl (hown.alloc _) ⟨wr.heap.size, 0, none⟩ 1 1 [.int .u32 (m % 1000000000)] rfl rfl (cell_one_new _ _ _) (one32 _) ?c3 ?c4 ?c5 ?_)
      case c3 => unfold maxLen; omega
      case c4 => omega
      case c5 => have := hbel.size; simp; omega
      intro v' w1 hown' hgrow _
      have hB := (hbel.alloc hbel.size (.cells #[.int .u32 (m % 1000000000)] 118)).grown hgrow (by have := hbel.size; simp; omega) (fun k hk => (hown.lt k hk).1)
      have hO := own_snoc hown'
      clear hown' hgrow hown hbel
      go_wp2
      refine ⟨⟨m / 1000000000, xs ++ [m % 1000000000], by omega, by omega, rfl, hO, hB, hd.append (Dig.one (by omega) (by omega)), ?_, fun h => Norm.snoc (by omega)⟩, by simp [intOf]; omega⟩
      rw [unhide HN, val_snoc]
      simp only [List.length_append, List.length_cons, List.length_nil, Nat.zero_add, pw]
      have e : m = m % 1000000000 + 1000000000 * (m / 1000000000) := by omega
      have e2 : pw xs.length * m = pw xs.length * (m % 1000000000) + pw xs.length * (1000000000 * (m / 1000000000)) := by rw [← Int.mul_add, ← e]
      rw [e2, Int.add_assoc, Int.mul_assoc 1000000000, ← Int.mul_assoc (pw xs.length), Int.mul_comm (pw xs.length) 1000000000, Int.mul_assoc]
    · obtain rfl : m = 0 := by omega
      have F : Mg wr u3 xs := Mg.of_owns hown
      have hv : val xs = n := by simp at hn; omega
      have hN := hno rfl
      clear hn hno
      have HV := hide hv
      clear hv
      go_wp2
      go_ret
      exact ⟨_, rfl, hbel, xs, F, hd, hN, unhide HV, hlen⟩

end Go.Proofs.YthgdmppmjnmiiaaGreatDoor.Nm

namespace Go.Proofs.YthgdmppmjnmiiaaGreatDoor.Nm
open Go.RowKit

theorem add_step (X Y zs : List Int) (k : Nat) (cr x y : Int) (hz : zs.length = k) (hx : X[k]?.getD 0 = x) (hy : Y[k]?.getD 0 = y) (h : val zs + pw k * cr = val (X.take k) + val (Y.take k)) :
    ∀ d c : Int, x + cr + y = d + 1000000000 * c → val (zs ++ [d]) + pw (k + 1) * c = val (X.take (k + 1)) + val (Y.take (k + 1)) := by
  intro d c e
  rw [val_snoc, hz, val_take_succ', val_take_succ', hx, hy]
  simp only [pw]
  have e2 : pw k * x + pw k * cr + pw k * y = pw k * d + pw k * (1000000000 * c) := by
    rw [← Int.mul_add, ← Int.mul_add, ← Int.mul_add, e]
  have e3 : pw k * (1000000000 * c) = 1000000000 * pw k * c := by rw [← Int.mul_assoc, Int.mul_comm (pw k)]
  omega

set_option maxRecDepth 100000 in
set_option maxHeartbeats 1600000 in
theorem addMag_any (vx vy : Value) (xs ys : List Int) (w : World) (hmx : Mg w vx xs) (hmy : Mg w vy ys) (hdxs : Dig xs) (hdys : Dig ys) (hlx : xs.length ≤ 10000) (hly : ys.length ≤ 10000) :
    Calls Tryz.prog 61 #[vx, vy] w fun e w' => ∃ v zs, e = .returned v ∧ Below w.heap.size w w' ∧ Mg w' v zs ∧ Dig zs ∧ Norm zs ∧ val zs = val xs + val ys ∧ zs.length ≤ xs.length + ys.length + 1 := by
  obtain ⟨i0, hi, hz0, hz1, hz2⟩ := info_parts info32
  obtain ⟨ax, capx, rfl, hcx, hatxs⟩ := hmx
  obtain ⟨ay, capy, rfl, hcy, hatys⟩ := hmy
  by_cases hsw : xs.length < ys.length
  · go_enter Tryz.func61, Tryz.ntmps61
    go_wp2_with (at_make; refine wpList_make_own _ rfl _ _ 47 rfl w.heap.size 118 i0 (.int .u32 0) 1 Tryz.underlying47 hi hz0 hz1 _ _ _ (ys.length + 1) rfl rfl (by omega) ?b2 ?b3 ?b4 ?_)
    case b2 => rw [hz2]; omega
    case b3 => unfold maxLen; omega
    case b4 => exact Nat.le_refl _
    intro w0 hown0 hgrow0
    have hbel0 := (Below.refl w.heap.size w).grown hgrow0 (Nat.le_refl _) (fun k hk => by cases hk)
    clear hgrow0
    go_wp2
    go_loopw [5, 6, 23] (fun o c i wr => ∃ (k : Nat) (cr : Int) (zs : List Int), k ≤ ys.length ∧ i = .int .i64 k ∧ c = .int .u32 cr ∧ 0 ≤ cr ∧ cr ≤ 1 ∧ zs.length = k ∧ wr.ownsRow w.heap.size 118 1 o zs.length (zs.map (Value.int .u32)) ∧ Below w.heap.size w wr ∧ Dig zs ∧ val zs + pw k * cr = val (ys.take k) + val (xs.take k)) (fun _ _ i _ => ys.length - (intOf i).toNat)
    case atStart => exact ⟨0, 0, [], Nat.zero_le _, rfl, rfl, by omega, by omega, rfl, hown0, hbel0, Dig.nil, by simp [val, pw]⟩
    case round =>
      obtain ⟨k, cr, zs, hk, rfl, rfl, hc0, hc1, hzl, hown, hbel, hdz, hval⟩ := hrel
      obtain ⟨x, hx, hx0, hx1⟩ := hdys.get k
      obtain ⟨y, hy, hy0, hy1⟩ := hdxs.get k
      have HV := hide hval
      have hzle : zs.length ≤ 100000 := by omega
      have HZ := hide hzl
      have HX := hide hx
      have HY := hide hy
      clear hval hzl hx hy
      by_cases hlt : k < ys.length
      · obtain ⟨bx, ox, rfl, hbx, hcx⟩ := hatys (by intro e; subst e; simp at hlt)
        have hcxk : wr.cell? ⟨bx, ox + k, none⟩ = some (.int .u32 x) := by rw [← unhide HX]; exact (hbel.cell (p := ⟨bx, ox + k, none⟩) hbx).trans (hcx k hlt)
        have key := hide (add_step ys xs zs k cr x y (unhide HZ) (unhide HX) (unhide HY) (unhide HV))
        by_cases hly : k < xs.length
        · obtain ⟨yb, oy, rfl, hby, hcy⟩ := hatxs (by intro e; subst e; simp at hly)
          have hcyk : wr.cell? ⟨yb, oy + k, none⟩ = some (.int .u32 y) := by rw [← unhide HY]; exact (hbel.cell (p := ⟨yb, oy + k, none⟩) hby).trans (hcy k hly)
          by_cases hge : 1000000000 ≤ x + cr + y
          · go_wp2_with (at_builtin; refine wpList_append_own _ rfl _ _ 47 rfl w.heap.size 118 i0 (.int .u32 0) 1 4 Tryz.underlying47 hi hz0 hz1 hz2 rfl (by decide) _ _ _ rfl (hown.alloc _) ⟨wr.heap.size, 0, none⟩ 1 1 [.int .u32 (x + cr + y - 1000000000)] rfl rfl (cell_one_new _ _ _) (one32 _) ?c3 ?c4 ?c5 ?_)
            case c3 => unfold maxLen; omega
            case c4 => omega
            case c5 => have := hbel.size; simp; omega
            intro v' w1 hown' hgrow _
            have hB := (hbel.alloc hbel.size (.cells #[.int .u32 (x + cr + y - 1000000000)] 118)).grown hgrow (by have := hbel.size; simp; omega) (fun k hk => (hown.lt k hk).1)
            have hO := own_snoc hown'
            clear hown' hgrow hown hbel
            go_wp2
            exact ⟨⟨k + 1, 1, zs ++ [x + cr + y - 1000000000], by omega, by simp, rfl, by omega, by omega, by simp [unhide HZ], hO, hB, hdz.append (Dig.one (by omega) (by omega)), unhide key _ 1 (by omega)⟩, by simp [intOf]; omega⟩

          · go_wp2_with (at_builtin; refine wpList_append_own _ rfl _ _ 47 rfl w.heap.size 118 i0 (.int .u32 0) 1 4 Tryz.underlying47 hi hz0 hz1 hz2 rfl (by decide) _ _ _ rfl (hown.alloc _) ⟨wr.heap.size, 0, none⟩ 1 1 [.int .u32 (x + cr + y)] rfl rfl (cell_one_new _ _ _) (one32 _) ?c3 ?c4 ?c5 ?_)
            case c3 => unfold maxLen; omega
            case c4 => omega
            case c5 => have := hbel.size; simp; omega
            intro v' w1 hown' hgrow _
            have hB := (hbel.alloc hbel.size (.cells #[.int .u32 (x + cr + y)] 118)).grown hgrow (by have := hbel.size; simp; omega) (fun k hk => (hown.lt k hk).1)
            have hO := own_snoc hown'
            clear hown' hgrow hown hbel
            go_wp2
            exact ⟨⟨k + 1, 0, zs ++ [x + cr + y], by omega, by simp, rfl, by omega, by omega, by simp [unhide HZ], hO, hB, hdz.append (Dig.one (by omega) (by omega)), unhide key _ 0 (by omega)⟩, by simp [intOf]; omega⟩

        · have hye : y = 0 := by rw [← unhide HY, List.getElem?_eq_none (by omega)]; rfl
          have HE := hide hye
          clear hye
          by_cases hge : 1000000000 ≤ x + cr
          · go_wp2_with (at_builtin; refine wpList_append_own _ rfl _ _ 47 rfl w.heap.size 118 i0 (.int .u32 0) 1 4 Tryz.underlying47 hi hz0 hz1 hz2 rfl (by decide) _ _ _ rfl (hown.alloc _) ⟨wr.heap.size, 0, none⟩ 1 1 [.int .u32 (x + cr - 1000000000)] rfl rfl (cell_one_new _ _ _) (one32 _) ?c3 ?c4 ?c5 ?_)
            case c3 => unfold maxLen; omega
            case c4 => omega
            case c5 => have := hbel.size; simp; omega
            intro v' w1 hown' hgrow _
            have hB := (hbel.alloc hbel.size (.cells #[.int .u32 (x + cr - 1000000000)] 118)).grown hgrow (by have := hbel.size; simp; omega) (fun k hk => (hown.lt k hk).1)
            have hO := own_snoc hown'
            clear hown' hgrow hown hbel
            go_wp2
            exact ⟨⟨k + 1, 1, zs ++ [x + cr - 1000000000], by omega, by simp, rfl, by omega, by omega, by simp [unhide HZ], hO, hB, hdz.append (Dig.one (by omega) (by omega)), unhide key _ 1 (by have := unhide HE; omega)⟩, by simp [intOf]; omega⟩

          · go_wp2_with (at_builtin; refine wpList_append_own _ rfl _ _ 47 rfl w.heap.size 118 i0 (.int .u32 0) 1 4 Tryz.underlying47 hi hz0 hz1 hz2 rfl (by decide) _ _ _ rfl (hown.alloc _) ⟨wr.heap.size, 0, none⟩ 1 1 [.int .u32 (x + cr)] rfl rfl (cell_one_new _ _ _) (one32 _) ?c3 ?c4 ?c5 ?_)
            case c3 => unfold maxLen; omega
            case c4 => omega
            case c5 => have := hbel.size; simp; omega
            intro v' w1 hown' hgrow _
            have hB := (hbel.alloc hbel.size (.cells #[.int .u32 (x + cr)] 118)).grown hgrow (by have := hbel.size; simp; omega) (fun k hk => (hown.lt k hk).1)
            have hO := own_snoc hown'
            clear hown' hgrow hown hbel
            go_wp2
            exact ⟨⟨k + 1, 0, zs ++ [x + cr], by omega, by simp, rfl, by omega, by omega, by simp [unhide HZ], hO, hB, hdz.append (Dig.one (by omega) (by omega)), unhide key _ 0 (by have := unhide HE; omega)⟩, by simp [intOf]; omega⟩

      · obtain rfl : k = ys.length := by omega
        go_wp2_with (at_builtin; refine wpList_append_own _ rfl _ _ 47 rfl w.heap.size 118 i0 (.int .u32 0) 1 4 Tryz.underlying47 hi hz0 hz1 hz2 rfl (by decide) _ _ _ rfl (hown.alloc _) ⟨wr.heap.size, 0, none⟩ 1 1 [.int .u32 (cr)] rfl rfl (cell_one_new _ _ _) (one32 _) ?c3 ?c4 ?c5 ?_)
        case c3 => unfold maxLen; omega
        case c4 => omega
        case c5 => have := hbel.size; simp; omega
        intro v' w1 hown' hgrow _
        have hB := (hbel.alloc hbel.size (.cells #[.int .u32 (cr)] 118)).grown hgrow (by have := hbel.size; simp; omega) (fun k hk => (hown.lt k hk).1)
        have hO := own_snoc hown'
        clear hown' hgrow hown hbel
        have hdz' : Dig (zs ++ [cr]) := hdz.append (Dig.one (by omega) (by omega))
        have hv' : Hid (val (zs ++ [cr]) = val xs + val ys) := by
          have := unhide HV
          rw [List.take_of_length_le (Nat.le_refl _), List.take_of_length_le (by omega)] at this
          show _ = _
          rw [val_snoc, unhide HZ]
          omega
        have hl' : (zs ++ [cr]).length ≤ ys.length + 1 := by simp [unhide HZ]
        go_wp2_with (go_at_call 80; refine (trim_any _ _ _ (Mg.of_owns hO) hdz' (by omega)).mono ?_)
        rintro e w2 ⟨v2, ys2, rfl, rfl, hm2, hd2, hn2, hv2, hl2⟩
        have hv3 : Hid (val ys2 = val xs + val ys) := by show _ = _; rw [hv2]; exact hv'
        clear hv2 hv'
        go_wp2
        go_ret
        exact ⟨_, _, rfl, hB, hm2, hd2, hn2, unhide hv3, by omega⟩

  · go_enter Tryz.func61, Tryz.ntmps61
    go_wp2_with (at_make; refine wpList_make_own _ rfl _ _ 47 rfl w.heap.size 118 i0 (.int .u32 0) 1 Tryz.underlying47 hi hz0 hz1 _ _ _ (xs.length + 1) rfl rfl (by omega) ?b2 ?b3 ?b4 ?_)
    case b2 => rw [hz2]; omega
    case b3 => unfold maxLen; omega
    case b4 => exact Nat.le_refl _
    intro w0 hown0 hgrow0
    have hbel0 := (Below.refl w.heap.size w).grown hgrow0 (Nat.le_refl _) (fun k hk => by cases hk)
    clear hgrow0
    go_wp2
    go_loopw [5, 6, 23] (fun o c i wr => ∃ (k : Nat) (cr : Int) (zs : List Int), k ≤ xs.length ∧ i = .int .i64 k ∧ c = .int .u32 cr ∧ 0 ≤ cr ∧ cr ≤ 1 ∧ zs.length = k ∧ wr.ownsRow w.heap.size 118 1 o zs.length (zs.map (Value.int .u32)) ∧ Below w.heap.size w wr ∧ Dig zs ∧ val zs + pw k * cr = val (xs.take k) + val (ys.take k)) (fun _ _ i _ => xs.length - (intOf i).toNat)
    case atStart => exact ⟨0, 0, [], Nat.zero_le _, rfl, rfl, by omega, by omega, rfl, hown0, hbel0, Dig.nil, by simp [val, pw]⟩
    case round =>
      obtain ⟨k, cr, zs, hk, rfl, rfl, hc0, hc1, hzl, hown, hbel, hdz, hval⟩ := hrel
      obtain ⟨x, hx, hx0, hx1⟩ := hdxs.get k
      obtain ⟨y, hy, hy0, hy1⟩ := hdys.get k
      have HV := hide hval
      have hzle : zs.length ≤ 100000 := by omega
      have HZ := hide hzl
      have HX := hide hx
      have HY := hide hy
      clear hval hzl hx hy
      by_cases hlt : k < xs.length
      · obtain ⟨bx, ox, rfl, hbx, hcx⟩ := hatxs (by intro e; subst e; simp at hlt)
        have hcxk : wr.cell? ⟨bx, ox + k, none⟩ = some (.int .u32 x) := by rw [← unhide HX]; exact (hbel.cell (p := ⟨bx, ox + k, none⟩) hbx).trans (hcx k hlt)
        have key := hide (add_step xs ys zs k cr x y (unhide HZ) (unhide HX) (unhide HY) (unhide HV))
        by_cases hly : k < ys.length
        · obtain ⟨yb, oy, rfl, hby, hcy⟩ := hatys (by intro e; subst e; simp at hly)
          have hcyk : wr.cell? ⟨yb, oy + k, none⟩ = some (.int .u32 y) := by rw [← unhide HY]; exact (hbel.cell (p := ⟨yb, oy + k, none⟩) hby).trans (hcy k hly)
          by_cases hge : 1000000000 ≤ x + cr + y
          · go_wp2_with (at_builtin; refine wpList_append_own _ rfl _ _ 47 rfl w.heap.size 118 i0 (.int .u32 0) 1 4 Tryz.underlying47 hi hz0 hz1 hz2 rfl (by decide) _ _ _ rfl (hown.alloc _) ⟨wr.heap.size, 0, none⟩ 1 1 [.int .u32 (x + cr + y - 1000000000)] rfl rfl (cell_one_new _ _ _) (one32 _) ?c3 ?c4 ?c5 ?_)
            case c3 => unfold maxLen; omega
            case c4 => omega
            case c5 => have := hbel.size; simp; omega
            intro v' w1 hown' hgrow _
            have hB := (hbel.alloc hbel.size (.cells #[.int .u32 (x + cr + y - 1000000000)] 118)).grown hgrow (by have := hbel.size; simp; omega) (fun k hk => (hown.lt k hk).1)
            have hO := own_snoc hown'
            clear hown' hgrow hown hbel
            go_wp2
            exact ⟨⟨k + 1, 1, zs ++ [x + cr + y - 1000000000], by omega, by simp, rfl, by omega, by omega, by simp [unhide HZ], hO, hB, hdz.append (Dig.one (by omega) (by omega)), unhide key _ 1 (by omega)⟩, by simp [intOf]; omega⟩

          · go_wp2_with (at_builtin; refine wpList_append_own _ rfl _ _ 47 rfl w.heap.size 118 i0 (.int .u32 0) 1 4 Tryz.underlying47 hi hz0 hz1 hz2 rfl (by decide) _ _ _ rfl (hown.alloc _) ⟨wr.heap.size, 0, none⟩ 1 1 [.int .u32 (x + cr + y)] rfl rfl (cell_one_new _ _ _) (one32 _) ?c3 ?c4 ?c5 ?_)
            case c3 => unfold maxLen; omega
            case c4 => omega
            case c5 => have := hbel.size; simp; omega
            intro v' w1 hown' hgrow _
            have hB := (hbel.alloc hbel.size (.cells #[.int .u32 (x + cr + y)] 118)).grown hgrow (by have := hbel.size; simp; omega) (fun k hk => (hown.lt k hk).1)
            have hO := own_snoc hown'
            clear hown' hgrow hown hbel
            go_wp2
            exact ⟨⟨k + 1, 0, zs ++ [x + cr + y], by omega, by simp, rfl, by omega, by omega, by simp [unhide HZ], hO, hB, hdz.append (Dig.one (by omega) (by omega)), unhide key _ 0 (by omega)⟩, by simp [intOf]; omega⟩

        · have hye : y = 0 := by rw [← unhide HY, List.getElem?_eq_none (by omega)]; rfl
          have HE := hide hye
          clear hye
          by_cases hge : 1000000000 ≤ x + cr
          · go_wp2_with (at_builtin; refine wpList_append_own _ rfl _ _ 47 rfl w.heap.size 118 i0 (.int .u32 0) 1 4 Tryz.underlying47 hi hz0 hz1 hz2 rfl (by decide) _ _ _ rfl (hown.alloc _) ⟨wr.heap.size, 0, none⟩ 1 1 [.int .u32 (x + cr - 1000000000)] rfl rfl (cell_one_new _ _ _) (one32 _) ?c3 ?c4 ?c5 ?_)
            case c3 => unfold maxLen; omega
            case c4 => omega
            case c5 => have := hbel.size; simp; omega
            intro v' w1 hown' hgrow _
            have hB := (hbel.alloc hbel.size (.cells #[.int .u32 (x + cr - 1000000000)] 118)).grown hgrow (by have := hbel.size; simp; omega) (fun k hk => (hown.lt k hk).1)
            have hO := own_snoc hown'
            clear hown' hgrow hown hbel
            go_wp2
            exact ⟨⟨k + 1, 1, zs ++ [x + cr - 1000000000], by omega, by simp, rfl, by omega, by omega, by simp [unhide HZ], hO, hB, hdz.append (Dig.one (by omega) (by omega)), unhide key _ 1 (by have := unhide HE; omega)⟩, by simp [intOf]; omega⟩

          · go_wp2_with (at_builtin; refine wpList_append_own _ rfl _ _ 47 rfl w.heap.size 118 i0 (.int .u32 0) 1 4 Tryz.underlying47 hi hz0 hz1 hz2 rfl (by decide) _ _ _ rfl (hown.alloc _) ⟨wr.heap.size, 0, none⟩ 1 1 [.int .u32 (x + cr)] rfl rfl (cell_one_new _ _ _) (one32 _) ?c3 ?c4 ?c5 ?_)
            case c3 => unfold maxLen; omega
            case c4 => omega
            case c5 => have := hbel.size; simp; omega
            intro v' w1 hown' hgrow _
            have hB := (hbel.alloc hbel.size (.cells #[.int .u32 (x + cr)] 118)).grown hgrow (by have := hbel.size; simp; omega) (fun k hk => (hown.lt k hk).1)
            have hO := own_snoc hown'
            clear hown' hgrow hown hbel
            go_wp2
            exact ⟨⟨k + 1, 0, zs ++ [x + cr], by omega, by simp, rfl, by omega, by omega, by simp [unhide HZ], hO, hB, hdz.append (Dig.one (by omega) (by omega)), unhide key _ 0 (by have := unhide HE; omega)⟩, by simp [intOf]; omega⟩

      · obtain rfl : k = xs.length := by omega
        go_wp2_with (at_builtin; refine wpList_append_own _ rfl _ _ 47 rfl w.heap.size 118 i0 (.int .u32 0) 1 4 Tryz.underlying47 hi hz0 hz1 hz2 rfl (by decide) _ _ _ rfl (hown.alloc _) ⟨wr.heap.size, 0, none⟩ 1 1 [.int .u32 (cr)] rfl rfl (cell_one_new _ _ _) (one32 _) ?c3 ?c4 ?c5 ?_)
        case c3 => unfold maxLen; omega
        case c4 => omega
        case c5 => have := hbel.size; simp; omega
        intro v' w1 hown' hgrow _
        have hB := (hbel.alloc hbel.size (.cells #[.int .u32 (cr)] 118)).grown hgrow (by have := hbel.size; simp; omega) (fun k hk => (hown.lt k hk).1)
        have hO := own_snoc hown'
        clear hown' hgrow hown hbel
        have hdz' : Dig (zs ++ [cr]) := hdz.append (Dig.one (by omega) (by omega))
        have hv' : Hid (val (zs ++ [cr]) = val xs + val ys) := by
          have := unhide HV
          rw [List.take_of_length_le (Nat.le_refl _), List.take_of_length_le (by omega)] at this
          show _ = _
          rw [val_snoc, unhide HZ]
          omega
        have hl' : (zs ++ [cr]).length ≤ xs.length + 1 := by simp [unhide HZ]
        go_wp2_with (go_at_call 80; refine (trim_any _ _ _ (Mg.of_owns hO) hdz' (by omega)).mono ?_)
        rintro e w2 ⟨v2, ys2, rfl, rfl, hm2, hd2, hn2, hv2, hl2⟩
        have hv3 : Hid (val ys2 = val xs + val ys) := by show _ = _; rw [hv2]; exact hv'
        clear hv2 hv'
        go_wp2
        go_ret
        exact ⟨_, _, rfl, hB, hm2, hd2, hn2, unhide hv3, by omega⟩

end Go.Proofs.YthgdmppmjnmiiaaGreatDoor.Nm
