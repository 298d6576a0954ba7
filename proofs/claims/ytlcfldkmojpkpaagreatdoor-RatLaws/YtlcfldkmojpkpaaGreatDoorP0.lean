/- Plain facts on decimal texts and their digits to the base of a thousand millions. No program. -/
import Derived.Test.YtlcfldkmojpkpaaGreatDoorM
namespace Go.Proofs.YtlcfldkmojpkpaaGreatDoor

/-- The number of a decimal text, its letters as bytes. -/
def dec (l : List UInt8) : Int := l.foldl (fun a b => 10 * a + ((b.toNat : Int) - 48)) 0
theorem dec_snoc (l : List UInt8) (b : UInt8) : dec (l ++ [b]) = 10 * dec l + ((b.toNat : Int) - 48) := by simp [dec]
/-- Decimal digits all. -/
def Dg (l : List UInt8) : Prop := ∀ b ∈ l, 48 ≤ b.toNat ∧ b.toNat ≤ 57
theorem dec_nonneg_aux (n : Nat) : ∀ l : List UInt8, l.length = n → Dg l → 0 ≤ dec l ∧ dec l < (10 : Int) ^ n := by
  induction n with
  | zero => intro l hl _; rw [List.eq_nil_of_length_eq_zero hl]; simp [dec]
  | succ n ih =>
    intro l hl hd
    rcases List.eq_nil_or_concat l with rfl | ⟨q, b, rfl⟩
    · simp at hl
    · rw [List.concat_eq_append] at *
      have h1 := ih q (by simpa using hl) (fun x hx => hd x (by simp [hx]))
      have h2 := hd b (by simp)
      rw [dec_snoc, Int.pow_succ]
      omega
theorem dec_nonneg {l : List UInt8} (h : Dg l) : 0 ≤ dec l := (dec_nonneg_aux _ l rfl h).1
theorem dec_lt {l : List UInt8} (h : Dg l) : dec l < (10 : Int) ^ l.length := (dec_nonneg_aux _ l rfl h).2
theorem pow_mono10 {a b : Nat} (h : a ≤ b) : (10 : Int) ^ a ≤ (10 : Int) ^ b := by
  obtain ⟨c, rfl⟩ := Nat.exists_eq_add_of_le h
  clear h
  induction c with
  | zero => exact Int.le_refl _
  | succ c ih =>
    rw [← Nat.add_assoc, Int.pow_succ]
    have : (0 : Int) < 10 ^ (a + c) := Int.pow_pos (by decide)
    omega
theorem pw_eq (k : Nat) : pw k = (10 : Int) ^ (9 * k) := by
  induction k with
  | zero => rfl
  | succ k ih =>
    rw [show 9 * (k + 1) = 9 * k + 9 by omega, Int.pow_add, ← ih]
    simp only [pw]
    rw [show ((10 : Int) ^ 9) = 1000000000 by decide]
    exact Int.mul_comm _ _
theorem dec_pw {l : List UInt8} (h : Dg l) (hl : l.length ≤ 400) : dec l < pw 4000 := by
  have := dec_lt h
  have h2 := pow_mono10 (show l.length ≤ 9 * 4000 by omega)
  rw [← pw_eq] at h2
  omega
theorem take_snoc8 (l : List UInt8) (k : Nat) (h : k < l.length) : l.take (k + 1) = l.take k ++ [l[k]] := by
  rw [List.take_add_one, List.getElem?_eq_getElem h]; rfl
/-- What has been made of the first i of n decimal digits. -/
def PM (D : List UInt8) (n i : Nat) (O : List Int) : Prop :=
  ∃ L : List Int, O = List.replicate ((n - i) / 9) 0 ++ L ∧ ((n - i) % 9 = 0 → val L = dec (D.take i) ∧ Dig L) ∧
    ((n - i) % 9 ≠ 0 → ∃ x T, L = x :: T ∧ dec (D.take i) = x + (10 : Int) ^ (9 - (n - i) % 9) * val T ∧ 0 ≤ x ∧ x < (10 : Int) ^ (9 - (n - i) % 9) ∧ Dig T)
theorem PM.start (D : List UInt8) (n : Nat) : PM D n 0 (List.replicate ((n + 8) / 9) 0) := by
  by_cases h : n % 9 = 0
  · refine ⟨[], ?_, fun _ => ⟨by simp [val, dec], Dig.nil⟩, fun h' => absurd h h'⟩
    rw [show (n + 8) / 9 = (n - 0) / 9 by omega]; simp
  · refine ⟨[0], ?_, fun h' => absurd h' h, fun _ => ⟨0, [], rfl, by simp [val, dec], by omega, Int.pow_pos (by decide), Dig.nil⟩⟩
    rw [show (n + 8) / 9 = (n - 0) / 9 + 1 by omega, List.replicate_succ']
theorem p10_le {r : Nat} (h : 1 ≤ r) (h8 : r ≤ 8) : (10 : Int) ^ (9 - r) ≤ 100000000 := by
  have := pow_mono10 (show 9 - r ≤ 8 by omega)
  rw [show ((10 : Int) ^ 8) = 100000000 by decide] at this
  exact this
theorem PM.step {D : List UInt8} {n i : Nat} {O : List Int} (h : PM D n i O) (hi : i < n) (hn : D.length = n) {d : Int} (hd : ((D[i]'(by omega)).toNat : Int) - 48 = d) (d0 : 0 ≤ d) (d1 : d ≤ 9) :
    ∃ x, O[(n - 1 - i) / 9]?.getD 0 = x ∧ 0 ≤ x ∧ x ≤ 99999999 ∧ (n - 1 - i) / 9 < O.length ∧ PM D n (i + 1) (O.set ((n - 1 - i) / 9) (x * 10 + d)) := by
  obtain ⟨L, rfl, h0, h1⟩ := h
  have hdec : dec (D.take (i + 1)) = 10 * dec (D.take i) + d := by
    rw [take_snoc8 D i (by omega), dec_snoc, hd]
  by_cases hr : (n - i) % 9 = 0
  · obtain ⟨v, hL⟩ := h0 hr
    clear h0 h1
    have ha : (n - i) / 9 = (n - 1 - i) / 9 + 1 := by omega
    have e : List.replicate ((n - i) / 9) (0 : Int) ++ L = List.replicate ((n - 1 - i) / 9) 0 ++ 0 :: L := by
      rw [ha, List.replicate_succ', List.append_assoc]; rfl
    rw [e]
    refine ⟨0, ?_, by omega, by omega, by simp, ?_⟩
    · rw [List.getElem?_append_right (by simp)]; simp
    · rw [List.set_append_right _ _ (by simp)]
      simp only [List.length_replicate, Nat.sub_self, List.set_cons_zero]
      refine ⟨(0 * 10 + d) :: L, by rw [show (n - (i + 1)) / 9 = (n - 1 - i) / 9 by omega], fun h' => absurd h' (by omega), fun _ => ⟨_, L, rfl, ?_, by omega, ?_, hL⟩⟩
      · rw [hdec, ← v, show 9 - (n - (i + 1)) % 9 = 1 by omega]; omega
      · rw [show 9 - (n - (i + 1)) % 9 = 1 by omega]; omega
  · obtain ⟨x, T, rfl, v, x0, x1, hT⟩ := h1 hr
    clear h0 h1
    have ha : (n - i) / 9 = (n - 1 - i) / 9 := by omega
    have hx8 := p10_le (r := (n - i) % 9) (by omega) (by omega)
    rw [ha]
    refine ⟨x, ?_, x0, by omega, by simp, ?_⟩
    · rw [List.getElem?_append_right (by simp)]; simp
    · rw [List.set_append_right _ _ (by simp)]
      simp only [List.length_replicate, Nat.sub_self, List.set_cons_zero]
      have hp : (10 : Int) ^ (9 - ((n - i) % 9 - 1)) = 10 ^ (9 - (n - i) % 9) * 10 := by
        rw [show 9 - ((n - i) % 9 - 1) = (9 - (n - i) % 9) + 1 by omega, Int.pow_succ]
      generalize (10 : Int) ^ (9 - (n - i) % 9) = q at *
      have hval : dec (D.take (i + 1)) = (x * 10 + d) + q * 10 * val T := by
        rw [hdec, v]; grind
      refine ⟨(x * 10 + d) :: T, by rw [show (n - (i + 1)) / 9 = (n - 1 - i) / 9 by omega], fun h' => ?_, fun h' => ⟨_, T, rfl, ?_, by omega, ?_, hT⟩⟩
      · have h9 : (n - i) % 9 = 1 := by omega
        rw [h9] at hp
        have hq : q * 10 = 1000000000 := by rw [← hp]; decide
        rw [hq] at hval
        refine ⟨by rw [hval]; rfl, ?_⟩
        intro y hy
        rcases List.mem_cons.1 hy with rfl | hy
        · omega
        · exact hT y hy
      · rw [show (n - (i + 1)) % 9 = (n - i) % 9 - 1 by omega, hp]; exact hval
      · rw [show (n - (i + 1)) % 9 = (n - i) % 9 - 1 by omega, hp]; omega
theorem PM.done {D : List UInt8} {n : Nat} {O : List Int} (h : PM D n n O) (hn : D.length = n) : val O = dec D ∧ Dig O := by
  obtain ⟨L, rfl, h0, _⟩ := h
  obtain ⟨v, hL⟩ := h0 (by omega)
  rw [List.take_of_length_le (by omega)] at v
  simp only [Nat.sub_self, Nat.zero_div, List.replicate_zero, List.nil_append]
  exact ⟨v, hL⟩

end Go.Proofs.YtlcfldkmojpkpaaGreatDoor
