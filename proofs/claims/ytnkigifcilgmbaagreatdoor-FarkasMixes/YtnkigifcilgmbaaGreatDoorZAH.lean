/- The document's numbers: Of. -/
import Derived.Test.YtnkigifcilgmbaaGreatDoorZAG
import Derived.Test.YtnkigifcilgmbaaGreatDoorZAE
import Derived.Test.YtnkigifcilgmbaaGreatDoorZAB
import Derived.Deep.QuietTactic
import Derived.BigQuiet
import Derived.BigRegion
import Derived.Laws.AppendOwnNone
set_option linter.unusedVariables false
set_option linter.unusedSimpArgs false

/- A region 'x = f(..)' that draws its order, with specs that speak of memory. -/
namespace Go.Proofs.YtnkigifcilgmbaaGreatDoor.Nm
open Go Go.RowKit

theorem op_fieldAddr {P : Program} {Q : Exit → Act → World → Prop} {K : Act → World → Prop} {a : Act} {w : World} {dst : Option Tmp} {ty : TypeId} {pos : String} {af : Array Edge} {gd : Option (Nat × Bool)} {x : Operand} {vx v : Value} {t : TypeId} {f : Nat}
    (hx : a.eval x = vx) (hr : (Instr.fieldAt t vx f).run P w = .ok v w) (h : K (a.put dst v) w) : Oper.wp P ⟨dst, .fieldAddr t x f, ty, pos, af, gd⟩ a w K Q := by
  unfold Oper.wp
  simp [execOp, hx, hr, Oper.upon, h]

end Go.Proofs.YtnkigifcilgmbaaGreatDoor.Nm

/- Plain facts on digits to the base of ten thousand, the least first: their value, noughts at the top, how many there are. No program. -/
namespace Go.Proofs.YtnkigifcilgmbaaGreatDoor.Nm.T4

/-- The number of the digits xs, the least first. -/
def val : List Int → Int
  | [] => 0
  | x :: xs => x + 10000 * val xs
/-- Each is a digit. -/
def Dig (xs : List Int) : Prop := ∀ x ∈ xs, 0 ≤ x ∧ x < 10000
/-- No nought at the top. -/
def Norm (xs : List Int) : Prop := ∀ h : xs ≠ [], xs.getLast h ≠ 0
/-- The base to the k. -/
def pw : Nat → Int
  | 0 => 1
  | k + 1 => 10000 * pw k

theorem pw_pos (k : Nat) : 0 < pw k := by
  induction k with
  | zero => decide
  | succ k ih => simp only [pw]; omega
theorem pw_add (a b : Nat) : pw (a + b) = pw a * pw b := by
  induction a with
  | zero => simp [pw]
  | succ a ih => rw [Nat.succ_add]; simp only [pw]; rw [ih, Int.mul_assoc]
theorem pw_mono {a b : Nat} (h : a ≤ b) : pw a ≤ pw b := by
  obtain ⟨c, rfl⟩ := Nat.exists_eq_add_of_le h
  rw [pw_add]
  have h1 := pw_pos a
  have h2 := pw_pos c
  have h3 := Int.mul_le_mul_of_nonneg_left (show (1 : Int) ≤ pw c by omega) (Int.le_of_lt h1)
  omega
theorem val_append (xs ys : List Int) : val (xs ++ ys) = val xs + pw xs.length * val ys := by
  induction xs with
  | nil => simp [val, pw]
  | cons x xs ih =>
    simp only [List.cons_append, val, List.length_cons, pw]
    rw [ih, Int.mul_add, Int.mul_assoc]; omega
theorem val_snoc (xs : List Int) (d : Int) : val (xs ++ [d]) = val xs + pw xs.length * d := by
  rw [val_append]; simp [val]
theorem Dig.append {xs ys : List Int} (h : Dig xs) (k : Dig ys) : Dig (xs ++ ys) := by
  intro x hx
  rcases List.mem_append.1 hx with hx | hx
  · exact h x hx
  · exact k x hx
theorem Dig.one {d : Int} (h0 : 0 ≤ d) (h1 : d < 10000) : Dig [d] := by
  intro x hx
  simp at hx; subst hx; exact ⟨h0, h1⟩
theorem Dig.nil : Dig [] := by intro x hx; cases hx
theorem Dig.take {xs : List Int} (h : Dig xs) (k : Nat) : Dig (xs.take k) := fun x hx => h x (List.mem_of_mem_take hx)
theorem Dig.drop {xs : List Int} (h : Dig xs) (k : Nat) : Dig (xs.drop k) := fun x hx => h x (List.mem_of_mem_drop hx)
theorem Dig.at {xs : List Int} (h : Dig xs) (k : Nat) : 0 ≤ xs[k]?.getD 0 ∧ xs[k]?.getD 0 < 10000 := by
  cases e : xs[k]? with
  | none => simp
  | some v => exact h v (List.mem_of_getElem? e)
theorem Dig.get {xs : List Int} (h : Dig xs) (k : Nat) : ∃ x, xs[k]?.getD 0 = x ∧ 0 ≤ x ∧ x < 10000 := ⟨_, rfl, h.at k⟩
theorem take_snoc (xs : List Int) (k : Nat) (h : k < xs.length) : xs.take (k + 1) = xs.take k ++ [xs[k]?.getD 0] := by
  rw [List.take_add_one, List.getElem?_eq_getElem h]; rfl
theorem val_take_succ (xs : List Int) (k : Nat) (h : k < xs.length) : val (xs.take (k + 1)) = val (xs.take k) + pw k * (xs[k]?.getD 0) := by
  rw [take_snoc xs k h, val_snoc, List.length_take, Nat.min_eq_left (Nat.le_of_lt h)]
theorem val_take_succ' (xs : List Int) (k : Nat) : val (xs.take (k + 1)) = val (xs.take k) + pw k * (xs[k]?.getD 0) := by
  by_cases h : k < xs.length
  · exact val_take_succ xs k h
  · rw [List.take_of_length_le (by omega), List.take_of_length_le (by omega), List.getElem?_eq_none (by omega)]
    simp
theorem val_nonneg {xs : List Int} (h : Dig xs) : 0 ≤ val xs := by
  induction xs with
  | nil => simp [val]
  | cons x xs ih =>
    have h1 := h x (by simp)
    have h2 := ih (fun y hy => h y (by simp [hy]))
    simp only [val]; omega
theorem val_lt {xs : List Int} (h : Dig xs) : val xs < pw xs.length := by
  induction xs with
  | nil => simp [val, pw]
  | cons x xs ih =>
    have h1 := h x (by simp)
    have h2 := ih (fun y hy => h y (by simp [hy]))
    simp only [val, List.length_cons, pw]; omega
/-- As many digits as the number wants. -/
theorem le_val {xs : List Int} (h : Dig xs) (hn : Norm xs) (hne : xs ≠ []) : pw (xs.length - 1) ≤ val xs := by
  have e := List.dropLast_concat_getLast hne
  have hl : xs.dropLast.length = xs.length - 1 := by simp
  have h1 := hn hne
  have h2 := h _ (List.getLast_mem hne)
  have h3 := val_nonneg (xs := xs.dropLast) (fun y hy => h y (List.dropLast_subset xs hy))
  rw [← e, val_snoc]
  simp only [List.length_append, List.length_cons, List.length_nil, hl]
  rw [show xs.length - 1 + (0 + 1) - 1 = xs.length - 1 by omega]
  have h4 := Int.mul_le_mul_of_nonneg_left (show (1 : Int) ≤ xs.getLast hne by omega) (Int.le_of_lt (pw_pos (xs.length - 1)))
  omega
theorem pw_lt_imp {a b : Nat} (h : pw a < pw b) : a < b := by
  apply Nat.lt_of_not_le
  intro hc
  have := pw_mono hc
  omega
theorem len_le {xs : List Int} (h : Dig xs) (hn : Norm xs) {k : Nat} (hk : val xs < pw k) : xs.length ≤ k := by
  by_cases hne : xs = []
  · simp [hne]
  · have h1 := le_val h hn hne
    have h2 := pw_lt_imp (Int.lt_of_le_of_lt h1 hk)
    omega
theorem val_replicate (n : Nat) : val (List.replicate n 0) = 0 := by
  induction n with
  | zero => rfl
  | succ n ih => simp only [List.replicate_succ, val, ih]; omega
theorem Dig.replicate (n : Nat) : Dig (List.replicate n 0) := by
  intro x hx
  rw [List.eq_of_mem_replicate hx]; omega
/-- All digits from k on are noughts. -/
theorem val_take_of_zero (xs : List Int) (k : Nat) (h : ∀ j, k ≤ j → j < xs.length → xs[j]?.getD 0 = 0) : val (xs.take k) = val xs := by
  by_cases hk : xs.length ≤ k
  · rw [List.take_of_length_le hk]
  · have e : xs = xs.take k ++ List.replicate (xs.length - k) 0 := by
      apply List.ext_getElem
      · simp; omega
      · intro i h1 h2
        by_cases hi : i < k
        · rw [List.getElem_append_left (by simp; omega)]; simp
        · rw [List.getElem_append_right (by simp; omega)]
          have := h i (by omega) h1
          rw [List.getElem?_eq_getElem h1] at this
          simpa using this
    have h2 := val_append (xs.take k) (List.replicate (xs.length - k) 0)
    rw [← e, val_replicate] at h2
    omega
theorem Norm.nil : Norm [] := fun h => absurd rfl h
theorem Norm.take {xs : List Int} {k : Nat} (hk : k ≤ xs.length) (h : 0 < k → xs[k - 1]?.getD 0 ≠ 0) : Norm (xs.take k) := by
  intro hne
  have hk0 : 0 < k := by
    apply Nat.pos_of_ne_zero
    intro e
    subst e
    exact hne rfl
  have h1 := h hk0
  rw [List.getElem?_eq_getElem (by omega)] at h1
  rw [List.getLast_eq_getElem]
  simp only [List.length_take, Nat.min_eq_left hk, List.getElem_take]
  exact h1

end Go.Proofs.YtnkigifcilgmbaaGreatDoor.Nm.T4

/- The document's numbers: sums of digits, differences, orders; noughts taken away. -/
namespace Go.Proofs.YtnkigifcilgmbaaGreatDoor.Nm
open Go.RowKit

end Go.Proofs.YtnkigifcilgmbaaGreatDoor.Nm

/- The document's numbers: differences of digits. -/
namespace Go.Proofs.YtnkigifcilgmbaaGreatDoor.Nm
open Go.RowKit

end Go.Proofs.YtnkigifcilgmbaaGreatDoor.Nm

/- The document's numbers: which digits are more; noughts taken away. -/
namespace Go.Proofs.YtnkigifcilgmbaaGreatDoor.Nm.T4
open Go.RowKit
theorem val_lt_of_len {xs ys : List Int} (hx : Dig xs) (hy : Dig ys) (ny : Norm ys) (h : xs.length < ys.length) : val xs < val ys := by
  have h1 := val_lt hx
  have h2 := le_val hy ny (by intro e; subst e; simp at h)
  have h3 : pw xs.length ≤ pw (ys.length - 1) := pw_mono (by omega)
  omega
theorem val_split (xs : List Int) (k : Nat) (hk : k < xs.length) : val xs = val (xs.take k) + pw k * dg xs k + pw (k + 1) * val (xs.drop (k + 1)) := by
  have h1 := val_append (xs.take (k + 1)) (xs.drop (k + 1))
  rw [List.take_append_drop, List.length_take, Nat.min_eq_left (by omega), val_take_succ xs k hk] at h1
  exact h1
theorem drop_eq {xs ys : List Int} (hl : xs.length = ys.length) (k : Nat) (h : ∀ j, k ≤ j → j < xs.length → dg xs j = dg ys j) : xs.drop k = ys.drop k := by
  apply List.ext_getElem
  · simp [hl]
  · intro i h1 h2
    have := h (k + i) (by omega) (by simp at h1; omega)
    simp only [dg] at this
    rw [List.getElem?_eq_getElem (by simp at h1; omega), List.getElem?_eq_getElem (by simp at h1; omega)] at this
    simpa using this
theorem cmp_digit {xs ys : List Int} (hx : Dig xs) (hy : Dig ys) (hl : xs.length = ys.length) (k : Nat) (hk : k < xs.length) (h : ∀ j, k + 1 ≤ j → j < xs.length → dg xs j = dg ys j) (hlt : dg xs k < dg ys k) : val xs < val ys := by
  have h1 := val_split xs k hk
  have h2 := val_split ys k (by omega)
  rw [drop_eq hl (k + 1) h] at h1
  have h3 := val_lt (hx.take k)
  have h4 := val_nonneg (hy.take k)
  rw [List.length_take, Nat.min_eq_left (by omega)] at h3
  have h5 := Int.mul_le_mul_of_nonneg_left (show dg xs k + 1 ≤ dg ys k by omega) (Int.le_of_lt (pw_pos k))
  rw [Int.mul_add] at h5
  omega
end Go.Proofs.YtnkigifcilgmbaaGreatDoor.Nm.T4
namespace Go.Proofs.YtnkigifcilgmbaaGreatDoor.Nm
open Go.RowKit

end Go.Proofs.YtnkigifcilgmbaaGreatDoor.Nm

/- The document's numbers as whole numbers: without noughts at the top, opposites, signs. -/
namespace Go.Proofs.YtnkigifcilgmbaaGreatDoor.Nm
open Go.RowKit

theorem Ns.take {w : World} {a : Option Addr} {n cap : Nat} {xs : List Int} (h : Ns w (.slice a n cap) xs) {k : Nat} (hk : k ≤ xs.length) : Ns w (.slice a k cap) (xs.take k) := by
  obtain ⟨a', cap', e, hc, hr⟩ := h
  simp only [Value.slice.injEq] at e
  obtain ⟨rfl, rfl, rfl⟩ := e
  have hlen : (xs.take k).length = k := by simp; omega
  refine ⟨a, cap, by rw [hlen], by omega, fun hne => ?_⟩
  obtain ⟨b, off, ea, hlt, hcell⟩ := hr (by intro e; subst e; exact hne (by simp))
  refine ⟨b, off, ea, hlt, fun j hj => ?_⟩
  rw [hlen] at hj
  rw [hcell j (by omega), List.getElem?_take, if_pos hj]
theorem Ns.len {w : World} {a : Option Addr} {l c : Nat} {xs : List Int} (h : Ns w (.slice a l c) xs) : l = xs.length := by
  obtain ⟨_, _, e, _, _⟩ := h
  simp only [Value.slice.injEq] at e
  exact e.2.1

/-- The Go value v of the document's type N is the number z. -/
def IsN (w : World) (v : Value) (z : Int) : Prop := ∃ a l c xs, v = .agg #[.bool (decide (z < 0)), .slice a l c] ∧ Ns w (.slice a l c) xs ∧ T4.Dig xs ∧ T4.Norm xs ∧ T4.val xs = z.natAbs
theorem IsN.below {w w' : World} {v : Value} {z : Int} (h : IsN w v z) (hb : Below w.heap.size w w') : IsN w' v z := by
  obtain ⟨a, l, c, xs, e, h1, h2, h3, h4⟩ := h
  exact ⟨a, l, c, xs, e, h1.below hb, h2, h3, h4⟩
theorem IsN.form {w : World} {v : Value} {z : Int} (h : IsN w v z) : ∃ b a l c, v = .agg #[.bool b, .slice a l c] := by
  obtain ⟨a, l, c, xs, e, _⟩ := h
  exact ⟨_, _, _, _, e⟩

/-- How many digits a number has. -/
theorem IsN.small {w : World} {v : Value} {z : Int} (h : IsN w v z) {k : Nat} (hz : (z.natAbs : Int) < T4.pw k) : ∃ a l c xs, v = .agg #[.bool (decide (z < 0)), .slice a l c] ∧ Ns w (.slice a l c) xs ∧ T4.Dig xs ∧ T4.Norm xs ∧ T4.val xs = z.natAbs ∧ xs.length ≤ k := by
  obtain ⟨a, l, c, xs, e, h1, h2, h3, h4⟩ := h
  exact ⟨a, l, c, xs, e, h1, h2, h3, h4, T4.len_le h2 h3 (by omega)⟩
theorem IsN.neg {w : World} {a : Option Addr} {l c : Nat} {xs : List Int} {z : Int} {b : Bool} (h1 : Ns w (.slice a l c) xs) (h2 : T4.Dig xs) (h3 : T4.Norm xs) (h4 : T4.val xs = z.natAbs) (hb : b = decide (0 < z)) : IsN w (.agg #[.bool b, .slice a l c]) (-z) := by
  refine ⟨a, l, c, xs, ?_, h1, h2, h3, by rw [h4]; omega⟩
  rw [hb]
  congr 3
  congr 1
  simp

end Go.Proofs.YtnkigifcilgmbaaGreatDoor.Nm

/- The document's numbers: sums. -/
namespace Go.Proofs.YtnkigifcilgmbaaGreatDoor.Nm
open Go Go.RowKit

theorem NB.facts0 {W : World} {R : Nat} {v : Value} (h : NB W R v) : ∃ u0 u1, W.cell? ⟨R, 0, none⟩ = some u0 ∧ W.cell? ⟨R, 1, none⟩ = some u1 ∧ W.frozen? ⟨R, 0, none⟩ = false ∧ W.frozen? ⟨R, 1, none⟩ = false := by
  obtain ⟨b, a, l, c, rfl, _⟩ := id h
  obtain ⟨k0, k1, f0, f1⟩ := h.facts
  exact ⟨_, _, k0, k1, f0, f1⟩
theorem Ns.putN {W : World} {v u : Value} {xs : List Int} (h : Ns W v xs) {R : Nat} (hR : NB W R u) (c0 c1 : Value) : Ns ((W.setCell ⟨R, 0, none⟩ c0).setCell ⟨R, 1, none⟩ c1) v xs := by
  obtain ⟨n, a', l', c', _, hR⟩ := hR
  obtain ⟨a, cap, rfl, hc, hr⟩ := h
  refine ⟨a, cap, rfl, hc, fun hne => ?_⟩
  obtain ⟨b, off, e, hb, hcell⟩ := hr hne
  have hbR : b ≠ R := by
    rintro rfl
    have h0 := hcell 0 (List.length_pos_iff.2 hne)
    simp only [World.cell?, hR, Nat.add_zero, Option.isSome_none, Bool.false_eq_true, if_false] at h0
    match off, h0 with
    | 0, h0 => simp at h0
    | 1, h0 => simp at h0
    | k + 2, h0 => simp at h0
  refine ⟨b, off, e, by simpa using hb, fun j hj => ?_⟩
  rw [World.cell?_setCell_other _ _ _ _ (by intro e; injection e with e1; exact hbR e1.symm), World.cell?_setCell_other _ _ _ _ (by intro e; injection e with e1; exact hbR e1.symm)]
  exact hcell j hj
theorem IsN.putN {W : World} {v u : Value} {z : Int} (h : IsN W v z) {R : Nat} (hR : NB W R u) (c0 c1 : Value) : IsN ((W.setCell ⟨R, 0, none⟩ c0).setCell ⟨R, 1, none⟩ c1) v z := by
  obtain ⟨a, l, c, xs, e, h1, h2, h3, h4⟩ := h
  exact ⟨a, l, c, xs, e, h1.putN hR c0 c1, h2, h3, h4⟩
theorem res_N {W : World} {fn : Func} {a : Act} {t r : Nat} {v : Value} (hf : fn.results = #[.cell t 44]) (ht : a.tmps[t]? = some (.pointer (some ⟨r, 0, none⟩))) (hb : NB W r v) : (results fn a.tmps).run Tryz.prog W = .ok v W := by
  obtain ⟨b, aa, l, c, rfl, _⟩ := id hb
  obtain ⟨k0, k1, f0, f1⟩ := hb.facts
  simp [results, hf, ht, go_sem, k0, k1]

end Go.Proofs.YtnkigifcilgmbaaGreatDoor.Nm

/- The document's numbers: differences, orders. -/
namespace Go.Proofs.YtnkigifcilgmbaaGreatDoor.Nm
open Go Go.RowKit

end Go.Proofs.YtnkigifcilgmbaaGreatDoor.Nm

/- The document's numbers: products. -/
namespace Go.Proofs.YtnkigifcilgmbaaGreatDoor.Nm
open Go Go.RowKit

/-- The cells of block b from off on hold the ints xs. -/
def AtI (w : World) (b off : Nat) (xs : List Int) : Prop := ∀ j, j < xs.length → w.cell? ⟨b, off + j, none⟩ = some (.int .i64 (xs[j]?.getD 0))
theorem AtI.set0 {w : World} {b : Nat} {zs : List Int} {x : Int} {rs : List Int} (h : AtI w b 0 (zs ++ x :: rs)) {k : Nat} (hz : zs.length = k) (d : Int) : AtI (w.setCell ⟨b, k, none⟩ (.int .i64 d)) b 0 (zs ++ d :: rs) := by
  subst hz
  intro j hj
  by_cases e : j = zs.length
  · subst e
    have h0 := h zs.length (by simp)
    rw [Nat.zero_add] at h0 ⊢
    rw [World.cell?_setCell_same _ _ _ h0]
    simp
  · rw [World.cell?_setCell_other _ _ _ _ (by intro h'; injection h'; omega), h j (by simpa using hj)]
    congr 2
    by_cases hlt : j < zs.length
    · rw [List.getElem?_append_left hlt, List.getElem?_append_left hlt]
    · rw [List.getElem?_append_right (by omega), List.getElem?_append_right (by omega)]
      obtain ⟨m, hm⟩ : ∃ m, j - zs.length = m + 1 := ⟨j - zs.length - 1, by omega⟩
      rw [hm]
      rfl
theorem AtI.at0 {w : World} {b : Nat} {zs : List Int} {x : Int} {rs : List Int} (h : AtI w b 0 (zs ++ x :: rs)) {k : Nat} (hz : zs.length = k) : w.cell? ⟨b, k, none⟩ = some (.int .i64 x) := by
  subst hz
  have := h zs.length (by simp)
  simpa using this
theorem AtI.drewN {w : World} {b off : Nat} {xs : List Int} (h : AtI w b off xs) (q : Nat) : AtI (w.drewN q) b off xs := fun j hj => by
  rw [World.cell?_drewN]; exact h j hj
theorem AtI.ns {w : World} {b off cap : Nat} {xs : List Int} (h : AtI w b off xs) (hb : b < w.heap.size) (hc : xs.length ≤ cap) : Ns w (.slice (some ⟨b, off, none⟩) xs.length cap) xs :=
  ⟨_, cap, rfl, hc, fun _ => ⟨b, off, rfl, hb, h⟩⟩

end Go.Proofs.YtnkigifcilgmbaaGreatDoor.Nm

/- The document's numbers: what Parse and Must make of a right text. -/
namespace Go.Proofs.YtnkigifcilgmbaaGreatDoor.Nm
open Go Go.RowKit

theorem T4.pw_eq10 (k : Nat) : T4.pw k = (10 : Int) ^ (4 * k) := by
  induction k with
  | zero => rfl
  | succ k ih =>
    rw [show 4 * (k + 1) = 4 * k + 4 by omega, Int.pow_add, ← ih]
    simp only [T4.pw]
    rw [show ((10 : Int) ^ 4) = 10000 by decide]
    exact Int.mul_comm _ _
theorem dec_app (a b : List UInt8) : dec (a ++ b) = dec a * (10 : Int) ^ b.length + dec b := by
  have h : ∀ (b : List UInt8) (x : Int), b.foldl (fun a b => 10 * a + ((b.toNat : Int) - 48)) x = x * (10 : Int) ^ b.length + b.foldl (fun a b => 10 * a + ((b.toNat : Int) - 48)) 0 := by
    intro b
    induction b with
    | nil => intro x; simp
    | cons c b ih =>
      intro x
      rw [List.foldl_cons, List.foldl_cons, ih, ih (10 * 0 + _), List.length_cons, Int.pow_succ]
      grind
  unfold dec
  rw [List.foldl_append]
  exact h b _
/-- What stands in x after the letters from e - 4 (or from the first) to i. -/
def Chunk (D : List UInt8) (e x : Int) (i : Nat) : Prop := (max (e - 4) 0).toNat ≤ i ∧ x = dec ((D.drop (max (e - 4) 0).toNat).take (i - (max (e - 4) 0).toNat))
theorem Chunk.start (D : List UInt8) (e : Int) : Chunk D e 0 (max (e - 4) 0).toNat := ⟨Nat.le_refl _, by simp [dec]⟩
theorem Dg.sub {D : List UInt8} (h : Dg D) (a b : Nat) : Dg ((D.drop a).take b) := fun x hx => h x (List.mem_of_mem_drop (List.mem_of_mem_take hx))
theorem Chunk.bd {D : List UInt8} {e x : Int} {i : Nat} (h : Chunk D e x i) (hD : Dg D) (hi : (i : Int) ≤ e) (_h9 : True ∨ True := .inl trivial) : 0 ≤ x ∧ x < 10000 := by
  obtain ⟨h1, rfl⟩ := h
  refine ⟨dec_nonneg (hD.sub _ _), ?_⟩
  have h2 := dec_lt (hD.sub (max (e - 4) 0).toNat (i - (max (e - 4) 0).toNat))
  have h3 := pow_mono10 (show ((D.drop (max (e - 4) 0).toNat).take (i - (max (e - 4) 0).toNat)).length ≤ 4 by rw [List.length_take]; omega)
  rw [show ((10 : Int) ^ 4) = 10000 by decide] at h3
  omega
theorem Chunk.step {D : List UInt8} {e x : Int} {i : Nat} (h : Chunk D e x i) {n : Nat} (hl : D.length = n) (hi : i < n) {c : Int} (hc : ∃ h : i < D.length, c = ((D[i]'h).toNat : Int)) : Chunk D e (10 * x + (c - 48)) (i + 1) := by
  obtain ⟨h1, rfl⟩ := h
  obtain ⟨h2, rfl⟩ := hc
  refine ⟨by omega, ?_⟩
  rw [show i + 1 - (max (e - 4) 0).toNat = (i - (max (e - 4) 0).toNat) + 1 by omega, take_snoc8 _ _ (by rw [List.length_drop]; omega), dec_snoc]
  rw [List.getElem_drop]
  simp only [show (max (e - 4) 0).toNat + (i - (max (e - 4) 0).toNat) = i by omega]
theorem Chunk.done {D : List UInt8} {e x : Int} {i : Nat} {xs : List Int} (h : Chunk D e x i) (hx : T4.Dig xs) (hv : T4.val xs = dec (D.drop e.toNat)) (hD : Dg D) (he : 0 < e) (hi : (i : Int) = e) (hl : 4 * (xs.length : Int) + e = D.length) : T4.Dig (xs ++ [x]) ∧ T4.val (xs ++ [x]) = dec (D.drop (e - 4).toNat) := by
  have hb := h.bd hD (by omega)
  obtain ⟨h1, rfl⟩ := h
  refine ⟨hx.append (T4.Dig.one hb.1 hb.2), ?_⟩
  have h3 : D.drop (e - 4).toNat = (D.drop (max (e - 4) 0).toNat).take (i - (max (e - 4) 0).toNat) ++ D.drop e.toNat := by
    have h4 := (List.take_append_drop (i - (max (e - 4) 0).toNat) (D.drop (max (e - 4) 0).toNat)).symm
    rw [List.drop_drop, show (max (e - 4) 0).toNat + (i - (max (e - 4) 0).toNat) = e.toNat by omega] at h4
    rw [← h4]
    congr 1
    omega
  rw [h3, dec_app, T4.val_snoc, hv, T4.pw_eq10, List.length_drop, show D.length - e.toNat = 4 * xs.length by omega]
  rw [Int.mul_comm]; omega

end Go.Proofs.YtnkigifcilgmbaaGreatDoor.Nm

/- The document's numbers: avowlaw1.of, both numbers. -/
namespace Go.Proofs.YtnkigifcilgmbaaGreatDoor.Nm
open Go Go.RowKit

end Go.Proofs.YtnkigifcilgmbaaGreatDoor.Nm

/- The document's numbers: their texts. -/
namespace Go.Proofs.YtnkigifcilgmbaaGreatDoor.Nm
open Go Go.RowKit

/-- The m lowest decimal digits of V, the lowest first. -/
def low : Nat → Nat → List UInt8
  | 0, _ => []
  | m + 1, V => UInt8.ofNat (48 + V % 10) :: low m (V / 10)
theorem low_snoc (m V : Nat) : low (m + 1) V = low m V ++ [UInt8.ofNat (48 + V / 10 ^ m % 10)] := by
  induction m generalizing V with
  | zero => simp [low]
  | succ m ih =>
    rw [low, ih, low, List.cons_append, Nat.div_div_eq_div_mul, Nat.pow_succ, Nat.mul_comm 10]
theorem low_dd (m V : Nat) (h : V < 10 ^ (m + 1)) (h1 : m = 0 ∨ 10 ^ m ≤ V) : low (m + 1) V = (Lib.decDigits V).reverse := by
  induction m generalizing V with
  | zero =>
    have h9 : V < 10 := by simpa using h
    rw [Lib.decDigits, dif_pos h9]
    simp [low, Nat.mod_eq_of_lt h9]
  | succ m ih =>
    have h2 : 10 ^ (m + 1) ≤ V := by rcases h1 with h1 | h1; (· omega); exact h1
    have h3 : 0 < 10 ^ m := Nat.pow_pos (by decide)
    rw [Nat.pow_succ] at h h2
    have h9 : ¬ V < 10 := by omega
    rw [Lib.decDigits, dif_neg h9, List.reverse_append, low, ih (V / 10) (by omega) (.inr (by omega))]
    rfl
theorem digN_of {xs : List Int} (hd : T4.Dig xs) {V : Nat} (hv : T4.val xs = V) (i : Nat) (hi : i < xs.length) : xs[i]?.getD 0 = ((V / 10 ^ (4 * i) % 10000 : Nat) : Int) ∧ (i + 1 = xs.length → V / 10 ^ (4 * i) < 10000) := by
  have h1 := T4.val_append (xs.take i) (xs.drop i)
  rw [List.take_append_drop, List.length_take, Nat.min_eq_left (by omega), List.drop_eq_getElem_cons hi, hv] at h1
  have h2 : T4.val (xs[i] :: xs.drop (i + 1)) = xs[i] + 10000 * T4.val (xs.drop (i + 1)) := rfl
  have h3 := T4.val_lt (hd.take i)
  have h4 := T4.val_nonneg (hd.take i)
  rw [List.length_take, Nat.min_eq_left (by omega), T4.pw_eq10] at h3
  rw [h2, T4.pw_eq10] at h1
  have h5 := hd _ (List.getElem_mem hi)
  have h6 := T4.val_nonneg (hd.drop (i + 1))
  have h7 : i + 1 = xs.length → T4.val (xs.drop (i + 1)) = 0 := fun e => by rw [List.drop_eq_nil_of_le (by omega)]; rfl
  rw [List.getElem?_eq_getElem hi, Option.getD_some]
  generalize T4.val (xs.drop (i + 1)) = t at *
  generalize T4.val (xs.take i) = l at *
  generalize xs[i] = d at *
  have h8 : (0 : Int) < 10 ^ (4 * i) := Int.pow_pos (by decide)
  have h9 : (V : Int) / (10 : Int) ^ (4 * i) = d + 10000 * t := by
    rw [h1, Int.add_mul_ediv_left _ _ (by omega), Int.ediv_eq_zero_of_lt h4 h3]; omega
  have h10 : ((V / 10 ^ (4 * i) : Nat) : Int) = d + 10000 * t := by rw [← h9]; simp
  generalize V / 10 ^ (4 * i) = q at *
  refine ⟨by omega, fun e => ?_⟩
  have := h7 e
  omega
theorem low_step (V i k : Nat) (x : Int) (hk : k < 4) (hx : x = ((V / 10 ^ (4 * i) % 10000 / 10 ^ k : Nat) : Int)) : low (4 * i + (k + 1)) V = low (4 * i + k) V ++ [UInt8.ofNat (48 + x.toNat % 10)] ∧ x / 10 = ((V / 10 ^ (4 * i) % 10000 / 10 ^ (k + 1) : Nat) : Int) := by
  subst hx
  constructor
  · rw [← Nat.add_assoc, low_snoc, Nat.pow_add, ← Nat.div_div_eq_div_mul, Int.toNat_natCast]
    generalize V / 10 ^ (4 * i) = q
    congr 4
    match k, hk with
    | 0, _ => simp <;> omega
    | 1, _ => simp <;> omega
    | 2, _ => simp <;> omega
    | 3, _ => simp <;> omega
  · rw [Nat.pow_succ, ← Nat.div_div_eq_div_mul]
    omega
theorem low_more (V i k : Nat) (x : Int) (hq : V / 10 ^ (4 * i) < 10000) (hx : x = ((V / 10 ^ (4 * i) % 10000 / 10 ^ k : Nat) : Int)) (h0 : 0 < x) : 10 ^ (4 * i + (k + 1) - 1) ≤ V := by
  subst hx
  rw [Nat.mod_eq_of_lt hq, Nat.div_div_eq_div_mul, ← Nat.pow_add] at h0
  rw [show 4 * i + (k + 1) - 1 = 4 * i + k by omega]
  have h1 : 0 < V / 10 ^ (4 * i + k) := by omega
  exact (Nat.div_pos_iff.1 h1).2
theorem low_end (V i k : Nat) (x : Int) (hq : V / 10 ^ (4 * i) < 10000) (h1 : 1 ≤ V / 10 ^ (4 * i)) (hx : x = ((V / 10 ^ (4 * i) % 10000 / 10 ^ k : Nat) : Int)) (hk : k ≤ 4) (h : k = 4 ∨ x = 0) (hm : k = 0 ∨ 10 ^ (4 * i + k - 1) ≤ V) : low (4 * i + k) V = (Lib.decDigits V).reverse := by
  subst hx
  rw [Nat.mod_eq_of_lt hq] at h
  have h3 : V / 10 ^ (4 * i) / 10 ^ k = 0 := by
    rcases h with rfl | h
    · omega
    · omega
  have hk0 : k ≠ 0 := by rintro rfl; simp at h3; omega
  rw [Nat.div_div_eq_div_mul, ← Nat.pow_add] at h3
  have h4 : V < 10 ^ (4 * i + k) := by
    have := Nat.div_eq_zero_iff.1 h3
    rcases this with h | h
    · exact absurd h (Nat.ne_of_gt (Nat.pow_pos (by decide)))
    · exact h
  obtain ⟨m, e⟩ : ∃ m, 4 * i + k = m + 1 := ⟨4 * i + k - 1, by omega⟩
  rw [e] at h4 hm ⊢
  refine low_dd m V h4 (.inr ?_)
  rcases hm with hm | hm
  · exact absurd hm hk0
  · simpa using hm
/-- What stands at j once the i outermost pairs have changed places. -/
def rvAt (L : List UInt8) (i j : Nat) : Int := if j < i ∨ L.length ≤ j + i then ((L[L.length - 1 - j]?.getD 0).toNat : Int) else ((L[j]?.getD 0).toNat : Int)
theorem rv_done {L : List UInt8} {i k : Nat} {W : World} {g : Nat} (h1 : i + k + 1 = L.length) (h2 : ¬ i < k) (h3 : i ≤ k + 1) (h : ∀ j, j < L.length → W.cell? ⟨g, j, none⟩ = some (.int .u8 (rvAt L i j))) : ∀ j (hj : j < L.reverse.length), W.cell? ⟨g, j, none⟩ = some (.int .u8 ((L.reverse[j]'hj).toNat : Int)) := by
  intro j hj
  have hj' : j < L.length := by simpa using hj
  rw [h j hj', List.getElem_reverse]
  congr 2
  unfold rvAt
  have e : L[L.length - 1 - j]?.getD 0 = L[L.length - 1 - j]'(by omega) := by rw [List.getElem?_eq_getElem (by omega), Option.getD_some]
  split
  · rw [e]
  · rw [← e, show L.length - 1 - j = j by omega]
theorem rv_step {L : List UInt8} {i k : Nat} {W : World} {g : Nat} (h1 : i + k + 1 = L.length) (h2 : i < k) (h : ∀ j, j < L.length → W.cell? ⟨g, j, none⟩ = some (.int .u8 (rvAt L i j))) {ci ck : Int} (hi : rvAt L i i = ci) (hk : rvAt L i k = ck) : ∀ j, j < L.length → ((W.setCell ⟨g, i, none⟩ (.int .u8 ck)).setCell ⟨g, k, none⟩ (.int .u8 ci)).cell? ⟨g, j, none⟩ = some (.int .u8 (rvAt L (i + 1) j)) := by
  intro j hj
  have hki := h k (by omega)
  have hii := h i (by omega)
  by_cases e1 : j = k
  · subst e1
    rw [World.cell?_setCell_same _ _ _ (by rw [World.cell?_setCell_other _ _ _ _ (by intro e; injection e; omega)]; exact hki), ← hi]
    unfold rvAt
    rw [if_neg (by omega), if_pos (by omega), show L.length - 1 - j = i by omega]
  · rw [World.cell?_setCell_other _ _ _ _ (by intro e; injection e; omega)]
    by_cases e2 : j = i
    · subst e2
      rw [World.cell?_setCell_same _ _ _ hii, ← hk]
      unfold rvAt
      rw [if_neg (by omega), if_pos (by omega), show L.length - 1 - j = k by omega]
    · rw [World.cell?_setCell_other _ _ _ _ (by intro e; injection e; omega), h j hj]
      unfold rvAt
      by_cases e3 : j < i ∨ L.length ≤ j + i
      · rw [if_pos e3, if_pos (by omega)]
      · rw [if_neg e3, if_neg (by omega)]
theorem u8_48 (x : Int) (h0 : 0 ≤ x) : (48 + x % 10 : Int) = ((UInt8.ofNat (48 + x.toNat % 10)).toNat : Int) := by
  rw [UInt8.toNat_ofNat']
  omega

set_option maxRecDepth 100000 in
set_option maxHeartbeats 1600000 in
theorem textN_any (v : Value) (z : Int) (w : World) (h : IsN w v z) (hz : (z.natAbs : Int) < T4.pw 4000) :
    Calls Tryz.prog 19 #[v] w fun e w' => e = .returned (.string ⟨(Lib.itoa z).toArray⟩) ∧ Below w.heap.size w w' := by
  obtain ⟨i0, hi, hz0, hz1, hz2⟩ := info_parts info8
  obtain ⟨a1, l1, c1, xs, rfl, n1, dx, m1, e1, q1⟩ := h.small hz
  have hl1 := n1.len
  subst hl1
  obtain ⟨_, _, ee1, hcx, hatx⟩ := n1
  simp only [Value.slice.injEq, true_and] at ee1
  obtain ⟨rfl, rfl⟩ := ee1
  have x1 := NB.new w (decide (z < 0)) a1 xs.length c1
  have hB : Below w.heap.size w (w.alloc (.cells #[.bool (decide (z < 0)), .slice a1 xs.length c1] 44)) := (Below.refl _ w).alloc (Nat.le_refl _) _
  by_cases hl : xs.length = 0
  · have hzz : z = 0 := by
      have := List.eq_nil_of_length_eq_zero hl
      subst this
      simp [T4.val] at e1
      omega
    subst hzz
    rw [hl] at *
    clear h e1 m1 hz hatx
    obtain ⟨k10, k11, _, _⟩ := x1.facts
    go_enter Tryz.func19, Tryz.ntmps19
    go_wp2
    go_ret
    exact ⟨by rw [show Lib.itoa 0 = [48] by rw [Lib.itoa, if_neg (by omega), Lib.decDigits, dif_pos (by decide)]; rfl]; rfl, hB⟩
  · have hl0 : ((xs.length : Int) == 0) = false := by simpa using hl
    obtain ⟨V, hV⟩ : ∃ V, V = z.natAbs := ⟨_, rfl⟩
    rw [← hV] at e1
    have HD := hide (digN_of dx e1)
    have hone : Hid (∀ i, i + 1 = xs.length → 1 ≤ V / 10 ^ (4 * i)) := fun i hi => by
      have h1 := digN_of dx e1 i (by omega)
      have h2 := m1 (by intro e; subst e; simp at hl)
      rw [List.getLast_eq_getElem, ] at h2
      have h3 := h1.1
      rw [List.getElem?_eq_getElem (by omega), Option.getD_some] at h3
      simp only [show xs.length - 1 = i by omega] at h2
      rw [h3] at h2
      generalize V / 10 ^ (4 * i) = q at *
      omega
    have HV := hide hV
    clear h e1 m1 hz hV
    go_enter Tryz.func19, Tryz.ntmps19
    have k11 := x1.facts.2.1
    go_wp2
    clear k11
    have Hx1 := hide x1
    generalize hW : (w.alloc (.cells #[.bool (decide (z < 0)), .slice a1 xs.length c1] 44)) = W0 at *
    have HW := hide hW
    clear hW x1
    go_loopw [3, 4] (fun bv iv wr => ∃ (i : Nat) (Bs : List UInt8), i ≤ xs.length ∧ iv = .int .i64 i ∧ Bs.length ≤ 4 * i ∧ wr.ownsRow W0.heap.size 5 1 bv Bs.length (bc Bs) ∧ Below W0.heap.size W0 wr ∧ Hid ((i < xs.length → Bs = low (4 * i) V) ∧ (i = xs.length → Bs = (Lib.decDigits V).reverse))) (fun _ iv _ => xs.length - (intOf iv).toNat)
    case atStart => exact ⟨0, [], Nat.zero_le _, rfl, by simp, World.ownsRow_nil _ _ _ _, Below.refl _ _, hide ⟨fun _ => rfl, fun e => absurd e.symm hl⟩⟩
    case round =>
      obtain ⟨i, Bs, hil, rfl, hbl, hown, hbel, hlow⟩ := hrel
      have hbx := (unhide Hx1).below hbel
      have k11 := hbx.facts.2.1
      by_cases hlt : i < xs.length
      · obtain ⟨bx, ox, rfl, hbx9, hcx9⟩ := hatx (by intro e; subst e; simp at hlt)
        obtain ⟨x, hx⟩ : ∃ x, x = xs[i]?.getD 0 := ⟨_, rfl⟩
        have hcxk : wr.cell? ⟨bx, ox + i, none⟩ = some (.int .i64 x) := by
          rw [hx]
          exact (hbel.cell (p := ⟨bx, ox + i, none⟩) (Nat.lt_of_lt_of_le hbx9 hB.size)).trans ((hB.cell (p := ⟨bx, ox + i, none⟩) hbx9).trans (hcx9 i hlt))
        have hxq := unhide HD i hlt
        rw [← hx] at hxq
        have HQ := hide hxq
        have hilI : (i : Int) < (xs.length : Int) := by omega
        clear hx hxq
        go_wp2
        clear k11 hcxk
        go_loopw [3, 5, 6] (fun bv xv kv wq => ∃ (k : Nat) (x : Int) (Bs : List UInt8), k ≤ 4 ∧ kv = .int .i64 k ∧ xv = .int .i64 x ∧ 0 ≤ x ∧ x < 10000 ∧ Bs.length ≤ 4 * i + k ∧ wq.ownsRow W0.heap.size 5 1 bv Bs.length (bc Bs) ∧ Below W0.heap.size W0 wq ∧ Hid (x = ((V / 10 ^ (4 * i) % 10000 / 10 ^ k : Nat) : Int)) ∧ Hid (Bs = low (4 * i + k) V) ∧ Hid (i + 1 = xs.length → k = 0 ∨ 10 ^ (4 * i + k - 1) ≤ V)) (fun _ _ kv _ => 4 - (intOf kv).toNat)
        case atStart =>
          have h1 := (unhide HQ).1
          exact ⟨0, x, Bs, by omega, rfl, rfl, by omega, by omega, by omega, hown, hbel, hide (by rw [h1]; simp), hide ((unhide hlow).1 hlt), hide (fun _ => .inl rfl)⟩
        case round =>
          obtain ⟨k, x, Bs, hk4, rfl, rfl, hx0, hx1, hbl, hown, hbel, hxv, hbs, hmore⟩ := hrel
          have hbx := (unhide Hx1).below hbel
          have k11 := hbx.facts.2.1
          by_cases hgo : k < 4 ∧ (i + 1 < xs.length ∨ 0 < x)
          · obtain ⟨g1, g2⟩ := hgo
            have g1' : (k : Int) < 4 := by omega
            by_cases g3 : i + 1 < xs.length
            · have g3' : (i : Int) < (xs.length : Int) - 1 := by omega
              go_wp2_with (at_builtin; refine wpList_append_own _ rfl _ _ 54 rfl W0.heap.size 5 i0 (.int .u8 0) 1 1 Tryz.underlying54 hi hz0 hz1 hz2 rfl (by decide) _ _ _ rfl (hown.alloc _) ⟨wr.heap.size, 0, none⟩ 1 1 [.int .u8 (48 + x % 10)] rfl rfl (cell_one_new _ _ _) (one8 _) ?c3 ?c4 ?c5 ?_)
              case c3 => unfold maxLen; omega
              case c4 => omega
              case c5 => have := hbel.size; simp; omega
              intro v' w2 hown' hgrow _
              have hB2 := (hbel.alloc hbel.size (.cells #[.int .u8 (48 + x % 10)] 5)).grown hgrow (by have := hbel.size; simp; omega) (fun k hk => (hown.lt k hk).1)
              rw [u8_48 x hx0] at hown'
              have hO := own_snoc8 hown'
              clear hown' hgrow hown hbel k11
              have hst := hide (low_step V i k x g1 (unhide hxv))
              go_wp2
              exact ⟨⟨k + 1, x / 10, Bs ++ [UInt8.ofNat (48 + x.toNat % 10)], by omega, by simp, rfl, by omega, by omega, by simp; omega, hO, hB2, hide (unhide hst).2, hide (by rw [(unhide hst).1, unhide hbs]), hide (fun h => by omega)⟩, by simp [intOf]; omega⟩
            · have g3' : ¬ ((i : Int) < (xs.length : Int) - 1) := by omega
              have g4' : (0 : Int) < x := by omega
              go_wp2_with (at_builtin; refine wpList_append_own _ rfl _ _ 54 rfl W0.heap.size 5 i0 (.int .u8 0) 1 1 Tryz.underlying54 hi hz0 hz1 hz2 rfl (by decide) _ _ _ rfl (hown.alloc _) ⟨wr.heap.size, 0, none⟩ 1 1 [.int .u8 (48 + x % 10)] rfl rfl (cell_one_new _ _ _) (one8 _) ?c3 ?c4 ?c5 ?_)
              case c3 => unfold maxLen; omega
              case c4 => omega
              case c5 => have := hbel.size; simp; omega
              intro v' w2 hown' hgrow _
              have hB2 := (hbel.alloc hbel.size (.cells #[.int .u8 (48 + x % 10)] 5)).grown hgrow (by have := hbel.size; simp; omega) (fun k hk => (hown.lt k hk).1)
              rw [u8_48 x hx0] at hown'
              have hO := own_snoc8 hown'
              clear hown' hgrow hown hbel k11
              have hst := hide (low_step V i k x g1 (unhide hxv))
              go_wp2
              exact ⟨⟨k + 1, x / 10, Bs ++ [UInt8.ofNat (48 + x.toNat % 10)], by omega, by simp, rfl, by omega, by omega, by simp; omega, hO, hB2, hide (unhide hst).2, hide (by rw [(unhide hst).1, unhide hbs]), hide (fun h => .inr (low_more V i k x ((unhide HQ).2 h) (unhide hxv) g4'))⟩, by simp [intOf]; omega⟩
          · have hend : Hid ((i + 1 < xs.length → Bs = low (4 * (i + 1)) V) ∧ (i + 1 = xs.length → Bs = (Lib.decDigits V).reverse)) := by
              refine ⟨fun h => ?_, fun h => ?_⟩
              · rw [unhide hbs, show 4 * i + k = 4 * (i + 1) by omega]
              · rw [unhide hbs]
                exact low_end V i k x ((unhide HQ).2 h) (unhide hone i h) (unhide hxv) hk4 (by omega) (unhide hmore h)
            by_cases g1 : k < 4
            · have g1' : (k : Int) < 4 := by omega
              have g3' : ¬ ((i : Int) < (xs.length : Int) - 1) := by omega
              have g4' : ¬ ((0 : Int) < x) := by omega
              go_wp2
              exact ⟨⟨i + 1, Bs, by omega, by simp, by omega, hown, hbel, hend⟩, by simp [intOf]; omega⟩
            · have g1' : ¬ ((k : Int) < 4) := by omega
              go_wp2
              exact ⟨⟨i + 1, Bs, by omega, by simp, by omega, hown, hbel, hend⟩, by simp [intOf]; omega⟩
      · obtain rfl : i = xs.length := by omega
        have hbs := (unhide hlow).2 rfl
        have HBS := hide hbs
        have k10 := hbx.facts.1
        by_cases hneg : z < 0
        · rw [decide_eq_true hneg] at k10
          clear hbs
          go_wp2_with (at_builtin; refine wpList_append_own _ rfl _ _ 54 rfl W0.heap.size 5 i0 (.int .u8 0) 1 1 Tryz.underlying54 hi hz0 hz1 hz2 rfl (by decide) _ _ _ rfl (hown.alloc _) ⟨wr.heap.size, 0, none⟩ 1 1 [.int .u8 45] rfl rfl (cell_one_new _ _ _) (one8 _) ?c3 ?c4 ?c5 ?_)
          case c3 => unfold maxLen; omega
          case c4 => omega
          case c5 => have := hbel.size; simp; omega
          intro v' w2 hown' hgrow _
          have hB2 := (hbel.alloc hbel.size (.cells #[.int .u8 45] 5)).grown hgrow (by have := hbel.size; simp; omega) (fun k hk => (hown.lt k hk).1)
          have hO := own_snoc8 (c := 45) hown'
          clear hown' hgrow hown hbel k11 k10 hbx
          have hit : Hid ((Bs ++ [45]).reverse = Lib.itoa z) := by
            show _ = _
            rw [unhide HBS, List.reverse_append, List.reverse_reverse, Lib.itoa, if_pos hneg, unhide HV]
            rfl
          have hlL : (Bs ++ [45]).length ≤ 20000 := by simp; omega
          have hpos : 0 < (Bs ++ [45]).length := by simp
          clear HBS
          generalize Bs ++ [45] = L at *
          obtain ⟨g, cap, rfl, hg0, hgl, hcap, hcell⟩ := own_form8 hO hpos
          have hfz : ∀ o, w2.frozen? ⟨g, o, none⟩ = false := fun o => hO.frozenAt _
          clear hO
          have hBW := hide (hB.trans (hB2.mono hB.size))
          go_wp2
          go_loopw [7, 8] (fun iv kv wq => ∃ (i k : Nat), i + k + 1 = L.length ∧ i ≤ k + 1 ∧ iv = .int .i64 i ∧ kv = .int .i64 k ∧ Hid (∀ j, j < L.length → wq.cell? ⟨g, j, none⟩ = some (.int .u8 (rvAt L i j))) ∧ InBlk g 0 L.length w2 wq) (fun _ kv _ => (intOf kv).toNat)
          case atStart => exact ⟨0, L.length - 1, by omega, by omega, rfl, by congr 1; omega, hide (fun j hj => by rw [rvAt, if_neg (by omega), List.getElem?_eq_getElem hj, Option.getD_some]; exact hcell j hj), InBlk.refl _ _ _ _⟩
          case round =>
            obtain ⟨i, k, hik, hik2, rfl, rfl, hcells, hinb⟩ := hrel
            by_cases hlt2 : i < k
            · have hci := unhide hcells i (by omega)
              have hck := unhide hcells k (by omega)
              have hfi : wr.frozen? ⟨g, i, none⟩ = false := (hinb.frozen _).trans (hfz _)
              have hfk : wr.frozen? ⟨g, k, none⟩ = false := (hinb.frozen _).trans (hfz _)
              generalize hc1 : rvAt L i i = ci at *
              generalize hc2 : rvAt L i k = ck at *
              have hiI : (i : Int) < (L.length : Int) := by omega
              have hkI : (k : Int) < (L.length : Int) := by omega
              have hikI : (i : Int) < (k : Int) := by omega
              have hne : i ≠ k := by omega
              have hne2 : k ≠ i := by omega
              go_wp2_with fail
              go_region
              go_wp2
              exact ⟨⟨i + 1, k - 1, by omega, by omega, by simp, by congr 1; omega, hide (fun j hj => rv_step hik hlt2 (unhide hcells) hc1 hc2 j hj), ((hinb.setCell (by omega) (by omega) _).setCell (by omega) (by omega) _).drew⟩, by simp [intOf]; omega⟩
            · have hikI : ¬ ((i : Int) < (k : Int)) := by omega
              have hcv := conv8 wr g cap L.length L.reverse (by simp) (rv_done hik hlt2 hik2 (unhide hcells))
              rw [unhide hit] at hcv
              have hB9 := hide ((unhide hBW).trans (hinb.below (B := w.heap.size) (by have := hB.size; omega)))
              go_wp2
              go_ret
              exact ⟨rfl, unhide hB9⟩
        · rw [decide_eq_false hneg] at k10
          have hit : Hid (Bs.reverse = Lib.itoa z) := by
            show _ = _
            rw [hbs, List.reverse_reverse, Lib.itoa, if_neg hneg, unhide HV]
            congr 1
            omega
          have hlL : Bs.length ≤ 20000 := by omega
          have hpos : 0 < Bs.length := by rw [hbs, List.length_reverse]; exact dd_pos V
          have hO := hown
          have hB2 := hbel
          clear hbs HBS hown hbel hbx
          generalize Bs = L at *
          obtain ⟨g, cap, rfl, hg0, hgl, hcap, hcell⟩ := own_form8 hO hpos
          have hfz : ∀ o, wr.frozen? ⟨g, o, none⟩ = false := fun o => hO.frozenAt _
          clear hO
          have hBW := hide (hB.trans (hB2.mono hB.size))
          go_wp2
          go_loopw [7, 8] (fun iv kv wq => ∃ (i k : Nat), i + k + 1 = L.length ∧ i ≤ k + 1 ∧ iv = .int .i64 i ∧ kv = .int .i64 k ∧ Hid (∀ j, j < L.length → wq.cell? ⟨g, j, none⟩ = some (.int .u8 (rvAt L i j))) ∧ InBlk g 0 L.length wr wq) (fun _ kv _ => (intOf kv).toNat)
          case atStart => exact ⟨0, L.length - 1, by omega, by omega, rfl, by congr 1; omega, hide (fun j hj => by rw [rvAt, if_neg (by omega), List.getElem?_eq_getElem hj, Option.getD_some]; exact hcell j hj), InBlk.refl _ _ _ _⟩
          case round =>
            obtain ⟨i, k, hik, hik2, rfl, rfl, hcells, hinb⟩ := hrel
            by_cases hlt2 : i < k
            · have hci := unhide hcells i (by omega)
              have hck := unhide hcells k (by omega)
              have hfi : wr.frozen? ⟨g, i, none⟩ = false := (hinb.frozen _).trans (hfz _)
              have hfk : wr.frozen? ⟨g, k, none⟩ = false := (hinb.frozen _).trans (hfz _)
              generalize hc1 : rvAt L i i = ci at *
              generalize hc2 : rvAt L i k = ck at *
              have hiI : (i : Int) < (L.length : Int) := by omega
              have hkI : (k : Int) < (L.length : Int) := by omega
              have hikI : (i : Int) < (k : Int) := by omega
              have hne : i ≠ k := by omega
              have hne2 : k ≠ i := by omega
              go_wp2_with fail
              go_region
              go_wp2
              exact ⟨⟨i + 1, k - 1, by omega, by omega, by simp, by congr 1; omega, hide (fun j hj => rv_step hik hlt2 (unhide hcells) hc1 hc2 j hj), ((hinb.setCell (by omega) (by omega) _).setCell (by omega) (by omega) _).drew⟩, by simp [intOf]; omega⟩
            · have hikI : ¬ ((i : Int) < (k : Int)) := by omega
              have hcv := conv8 wr g cap L.length L.reverse (by simp) (rv_done hik hlt2 hik2 (unhide hcells))
              rw [unhide hit] at hcv
              have hB9 := hide ((unhide hBW).trans (hinb.below (B := w.heap.size) (by have := hB.size; omega)))
              go_wp2
              go_ret
              exact ⟨rfl, unhide hB9⟩

end Go.Proofs.YtnkigifcilgmbaaGreatDoor.Nm

/- Specs for the document's numbers; avowlaw1.same. -/
namespace Go.Proofs.YtnkigifcilgmbaaGreatDoor.Nm
open Go Go.RowKit

theorem enter_Str : Enters Tryz.prog 39 := ⟨fun xs w => by go_simp⟩
section
variable {Q : Exit → Act → World → Prop} {a a0 : Act} {w w0 : World} {dst : Option Tmp} {ty : TypeId} {pos : String} {af : Array Edge} {gd : Option (Nat × Bool)} {tys : Array TypeId} {s t : Nat} {y z : Int} {j k : Nat}
end

section
variable {Q : Exit → Act → World → Prop} {a0 : Act} {w0 : World} {z : Int}
end
section
variable {Q : Exit → Act → World → Prop} {a a0 : Act} {w w0 : World} {dst : Option Tmp} {ty : TypeId} {pos : String} {af : Array Edge} {gd : Option (Nat × Bool)} {tys : Array TypeId} {s t : Nat} {z : Int} {j k : Nat}
end

end Go.Proofs.YtnkigifcilgmbaaGreatDoor.Nm

namespace Go.Proofs.YtnkigifcilgmbaaGreatDoor.Nm
open Go Go.RowKit

theorem norm_snoc {zs : List Int} {d : Int} (h : d ≠ 0) : T4.Norm (zs ++ [d]) := fun _ => by simpa using h

theorem ofN_len {zs : List Int} (hd : T4.Dig zs) {u V : Int} (hu : 0 < u) (h : T4.val zs + T4.pw zs.length * u = V) (hV : V ≤ 9223372036854775808) : zs.length ≤ 5 := by
  rcases Nat.lt_or_ge 5 zs.length with h5 | h5
  · exfalso
    have h1 := T4.pw_mono (Nat.le_of_lt h5)
    have h2 : T4.pw 5 = 100000000000000000000 := by decide
    have h3 := T4.val_nonneg hd
    have h4 := Int.mul_le_mul_of_nonneg_left (show 1 ≤ u by omega) (Int.le_trans (by omega) h1)
    omega
  · exact h5
theorem ofN_step {zs : List Int} {u V : Int} (h : T4.val zs + T4.pw zs.length * u = V) : T4.val (zs ++ [u % 10000]) + T4.pw (zs ++ [u % 10000]).length * (u / 10000) = V := by
  rw [T4.val_snoc, List.length_append, List.length_singleton]
  simp only [T4.pw]
  have h1 : u = u % 10000 + 10000 * (u / 10000) := by omega
  have h2 : T4.pw zs.length * u = T4.pw zs.length * (u % 10000) + T4.pw zs.length * (10000 * (u / 10000)) := by rw [← Int.mul_add, ← h1]
  have h3 : T4.pw zs.length * (10000 * (u / 10000)) = 10000 * T4.pw zs.length * (u / 10000) := by rw [← Int.mul_assoc, Int.mul_comm (T4.pw zs.length)]
  omega

set_option maxRecDepth 100000 in
set_option maxHeartbeats 1600000 in
theorem ofN_any (z : Int) (w : World) (hz0 : -9223372036854775808 ≤ z) (hz9 : z ≤ 9223372036854775807) :
    Calls Tryz.prog 18 #[.int .i64 z] w fun e w' => ∃ r, e = .returned r ∧ Below w.heap.size w w' ∧ IsN w' r z := by
  obtain ⟨i0, hi, hz0', hz1, hz2⟩ := info_parts infoInt
  have x1 := NB.new w false none 0 0
  have hB : Below w.heap.size w (w.alloc (.cells #[.bool false, .slice none 0 0] 44)) := (Below.refl _ w).alloc (Nat.le_refl _) _
  by_cases hn : z < 0
  · have e1 : IntKind.u64.wrap z = z + 18446744073709551616 := by simp [IntKind.wrap_u64]; omega
    have e2 : IntKind.u64.wrap (-(z + 18446744073709551616)) = -z := by simp [IntKind.wrap_u64]; omega
    go_enter Tryz.func18, Tryz.ntmps18
    go_wp2
    have X1 := hide x1
    have HB := hide hB
    generalize (w.alloc (.cells #[.bool false, .slice none 0 0] 44)) = W0 at *
    go_loopw [4, 5] (fun uv dv wr => ∃ (u : Int) (zs : List Int), uv = .int .u64 u ∧ 0 ≤ u ∧ u ≤ 9223372036854775808 ∧ wr.ownsRow W0.heap.size 3 1 dv zs.length (zs.map (Value.int .i64)) ∧ Below W0.heap.size W0 wr ∧ T4.Dig zs ∧ Hid (u = 0 → T4.Norm zs) ∧ Hid (T4.val zs + T4.pw zs.length * u = -z)) (fun uv _ _ => (intOf uv).toNat)
    case atStart => exact ⟨_, [], rfl, by omega, by omega, World.ownsRow_nil _ _ _ _, Below.refl _ _, T4.Dig.nil, hide (fun _ h => absurd rfl h), hide (by simp [T4.val, T4.pw])⟩
    case round =>
      obtain ⟨u, zs, rfl, hu0, hu1, hown, hbel, hdz, hnm, hval⟩ := hrel
      by_cases hu : 0 < u
      · have hzl : zs.length ≤ 5 := ofN_len hdz hu (unhide hval) (by omega)
        go_wp2_with (at_builtin; refine wpList_append_own _ rfl _ _ 42 rfl W0.heap.size 3 i0 (.int .i64 0) 1 8 Tryz.underlying42 hi hz0' hz1 hz2 rfl (by decide) _ _ _ rfl (hown.alloc _) ⟨wr.heap.size, 0, none⟩ 1 1 [.int .i64 (u % 10000)] rfl rfl (cell_one_new _ _ _) (one64 _) ?c3 ?c4 ?c5 ?_)
        case c3 => unfold maxLen; omega
        case c4 => omega
        case c5 => have := hbel.size; simp; omega
        intro v' w1 hown' hgrow _
        have hB1 := (hbel.alloc hbel.size (.cells #[.int .i64 (u % 10000)] 3)).grown hgrow (by have := hbel.size; simp; omega) (fun k hk => (hown.lt k hk).1)
        have hO := own_snocI hown'
        clear hown' hgrow hown hbel
        go_wp2
        exact ⟨⟨u / 10000, zs ++ [u % 10000], rfl, by omega, by omega, hO, hB1, hdz.append (T4.Dig.one (by omega) (by omega)), hide (fun h => norm_snoc (by omega)), hide (ofN_step (unhide hval))⟩, by simp [intOf]; omega⟩
      · obtain rfl : u = 0 := by omega
        have hm := Ns.of_owns hown
        obtain ⟨a3, c3, rfl, hc3, hat3⟩ := id hm
        have hbx := (unhide X1).below hbel
        obtain ⟨_, _, k30, k31, f30, f31⟩ := hbx.facts0
        have HI := hide (show IsN wr (.agg #[.bool true, .slice a3 zs.length c3]) z from ⟨a3, zs.length, c3, zs, by simp [hn], hm, hdz, unhide hnm rfl, by have := unhide hval; omega⟩)
        have HBX := hide hbx
        clear hown hm hat3 hbx
        go_wp2
        refine bodyPost_ret (res_N rfl rfl ((unhide HBX).set true a3 zs.length c3)) rfl ⟨_, rfl, ?_, (unhide HI).putN (unhide HBX) _ _⟩
        exact below_put ((unhide HB).trans (hbel.mono (unhide HB).size)) (by omega) _ _
  · have e1 : IntKind.u64.wrap z = z := by simp [IntKind.wrap_u64]; omega
    have hn' : decide (z < 0) = false := by simpa using hn
    go_enter Tryz.func18, Tryz.ntmps18
    go_wp2
    have X1 := hide x1
    have HB := hide hB
    generalize (w.alloc (.cells #[.bool false, .slice none 0 0] 44)) = W0 at *
    go_loopw [4, 5] (fun uv dv wr => ∃ (u : Int) (zs : List Int), uv = .int .u64 u ∧ 0 ≤ u ∧ u ≤ 9223372036854775808 ∧ wr.ownsRow W0.heap.size 3 1 dv zs.length (zs.map (Value.int .i64)) ∧ Below W0.heap.size W0 wr ∧ T4.Dig zs ∧ Hid (u = 0 → T4.Norm zs) ∧ Hid (T4.val zs + T4.pw zs.length * u = z)) (fun uv _ _ => (intOf uv).toNat)
    case atStart => exact ⟨_, [], rfl, by omega, by omega, World.ownsRow_nil _ _ _ _, Below.refl _ _, T4.Dig.nil, hide (fun _ h => absurd rfl h), hide (by simp [T4.val, T4.pw])⟩
    case round =>
      obtain ⟨u, zs, rfl, hu0, hu1, hown, hbel, hdz, hnm, hval⟩ := hrel
      by_cases hu : 0 < u
      · have hzl : zs.length ≤ 5 := ofN_len hdz hu (unhide hval) (by omega)
        go_wp2_with (at_builtin; refine wpList_append_own _ rfl _ _ 42 rfl W0.heap.size 3 i0 (.int .i64 0) 1 8 Tryz.underlying42 hi hz0' hz1 hz2 rfl (by decide) _ _ _ rfl (hown.alloc _) ⟨wr.heap.size, 0, none⟩ 1 1 [.int .i64 (u % 10000)] rfl rfl (cell_one_new _ _ _) (one64 _) ?c3 ?c4 ?c5 ?_)
        case c3 => unfold maxLen; omega
        case c4 => omega
        case c5 => have := hbel.size; simp; omega
        intro v' w1 hown' hgrow _
        have hB1 := (hbel.alloc hbel.size (.cells #[.int .i64 (u % 10000)] 3)).grown hgrow (by have := hbel.size; simp; omega) (fun k hk => (hown.lt k hk).1)
        have hO := own_snocI hown'
        clear hown' hgrow hown hbel
        go_wp2
        exact ⟨⟨u / 10000, zs ++ [u % 10000], rfl, by omega, by omega, hO, hB1, hdz.append (T4.Dig.one (by omega) (by omega)), hide (fun h => norm_snoc (by omega)), hide (ofN_step (unhide hval))⟩, by simp [intOf]; omega⟩
      · obtain rfl : u = 0 := by omega
        have hm := Ns.of_owns hown
        obtain ⟨a3, c3, rfl, hc3, hat3⟩ := id hm
        have hbx := (unhide X1).below hbel
        obtain ⟨_, _, k30, k31, f30, f31⟩ := hbx.facts0
        have HI := hide (show IsN wr (.agg #[.bool false, .slice a3 zs.length c3]) z from ⟨a3, zs.length, c3, zs, by simp [hn'], hm, hdz, unhide hnm rfl, by have := unhide hval; omega⟩)
        have HBX := hide hbx
        clear hown hm hat3 hbx
        go_wp2
        refine bodyPost_ret (res_N rfl rfl ((unhide HBX).set false a3 zs.length c3)) rfl ⟨_, rfl, ?_, (unhide HI).putN (unhide HBX) _ _⟩
        exact below_put ((unhide HB).trans (hbel.mono (unhide HB).size)) (by omega) _ _

end Go.Proofs.YtnkigifcilgmbaaGreatDoor.Nm
