/- A region 'x = f(..)' that draws its order, with specs that speak of memory. -/
import Derived.Test.YthgdmppmjnmiiaaGreatDoorZAG
import Derived.Test.YthgdmppmjnmiiaaGreatDoorZAE
import Derived.Test.YthgdmppmjnmiiaaGreatDoorZAB
import Derived.Deep.QuietTactic
import Derived.BigQuiet
set_option linter.unusedVariables false
set_option linter.unusedSimpArgs false

namespace Go.Proofs.YthgdmppmjnmiiaaGreatDoor.Nm
open Go Go.RowKit

theorem coll2_any {P : Program} {Q : Exit → Act → World → Prop} {l : List Oper} {a0 : Act} {w0 : World} (c N : Nat) (kept : List Nat) (Ψ : Nat → World → Value → Prop) (A : World → Prop) (B C : Value → World → Prop)
    (hg : fitFrom N 0 kept l = true) (hB : collB l c = true) (hN : a0.tmps.size = N) (h0 : A w0)
    (hmono : ∀ i w w' v, Ψ i w v → Below w.heap.size w w' → Ψ i w' v)
    (hpre : ∀ i, i < c → ∀ (a : Act) (w : World), (∀ k, k ∈ kept → a.tmps[k]? = a0.tmps[k]?) → (∀ j, (preds (l.getD i default)).contains j = true → Ψ j w (slotOf l.toArray a j)) → A w →
      (l.getD i default).wp P a w (fun a' w' => ∃ v, a' = a.put (l.getD i default).dst v ∧ Below w.heap.size w w' ∧ Ψ i w' v ∧ A w') Q)
    (hmake : ∀ (a : Act) (w : World), (∀ k, k ∈ kept → a.tmps[k]? = a0.tmps[k]?) → (∀ j, (preds (l.getD c default)).contains j = true → Ψ j w (slotOf l.toArray a j)) → A w →
      (l.getD c default).wp P a w (fun a' w' => ∃ v, a' = a.put (l.getD c default).dst v ∧ B v w') Q)
    (hstore : ∀ (a : Act) (w : World), (∀ k, k ∈ kept → a.tmps[k]? = a0.tmps[k]?) → B (slotOf l.toArray a c) w →
      (l.getD (c + 1) default).wp P a w (fun a' w' => a' = a ∧ C (slotOf l.toArray a c) w') Q)
    (hend : ∀ (a : Act) (w : World), a.defers = a0.defers → a.tmps.size = N → (∀ k, k ∈ kept → a.tmps[k]? = a0.tmps[k]?) → C (slotOf l.toArray a c) w → Q .normal a w) :
    wpAny P .any l.toArray Q l.toArray.size (Array.replicate l.toArray.size false) a0 w0 := by
  simp only [collB, Bool.and_eq_true, decide_eq_true_eq] at hB
  obtain ⟨⟨⟨⟨hlen, hguard⟩, hanc⟩, hlast⟩, hdst⟩ := hB
  have hg0 : ∀ (i : Nat) (o : Oper), l[i]? = some o → o.guard = none := fun i o ho => by
    have := List.all_eq_true.1 hguard o (List.mem_of_getElem? ho)
    simpa using this
  have hlast' : ∃ o, l[c + 1]? = some o ∧ (preds o).contains c = true ∧ o.dst = none := by
    cases h : l[c + 1]? with
    | none => simp [h] at hlast
    | some o => simp [h] at hlast; exact ⟨o, rfl, by simpa using hlast.1, hlast.2⟩
  obtain ⟨ol, hol, hpl, hdl⟩ := hlast'
  have hds : ∀ (i : Nat) (o : Oper), i < c + 1 → l[i]? = some o → ∃ d, o.dst = some d := fun i o hi ho => by
    have h1 : (l.take (c + 1))[i]? = some o := by rw [List.getElem?_take, if_pos hi]; exact ho
    have := List.all_eq_true.1 hdst o (List.mem_of_getElem? h1)
    exact Option.isSome_iff_exists.1 (by simpa using this)
  have hspec := fitFrom_spec l 0 kept hg
  have hgd : ∀ (i : Nat) (o : Oper), l[i]? = some o → l.getD i default = o := fun i o ho => by simp [List.getD_eq_getElem?_getD, ho]
  have hslot : ∀ (i j : Nat) (o : Oper) (a : Act) (v : Value), i ≠ j → j < c + 1 → l[i]? = some o → slotOf l.toArray (a.put o.dst v) j = slotOf l.toArray a j := fun i j o a v hij hj ho => by
    have hcl : j < l.length := by omega
    have hoc : l[j]? = some l[j] := List.getElem?_eq_getElem hcl
    obtain ⟨dc, hdc⟩ := hds j _ hj hoc
    cases hd : o.dst with
    | none => rfl
    | some d =>
      have hoc' : l.toArray[j]? = some l[j] := by simp [hcl]
      refine slot_put_other hoc' hdc ?_
      intro e
      subst e
      rcases Nat.lt_or_gt_of_ne hij with h | h
      · exact ((hspec j _ hoc).2 d hdc).2.2 i o h ho hd
      · exact ((hspec i _ ho).2 d hd).2.2 j _ h hoc hdc
  let J : Array Bool → Act → World → Prop := fun listed a w => if listed.getD (c + 1) false = true then C (slotOf l.toArray a c) w else if listed.getD c false = true then B (slotOf l.toArray a c) w else (A w ∧ ∀ j, j < c → listed.getD j false = true → Ψ j w (slotOf l.toArray a j))
  refine steps_any N kept (fun _ _ => True) J hg hN ?_ ?_ (fun _ _ _ _ _ => trivial) ?_
  · show if _ then _ else _
    rw [if_neg (by simp [hlen]), if_neg (by simp [hlen])]
    refine ⟨h0, fun j hj hl => ?_⟩
    simp [show j < l.length by omega] at hl
  · intro i o ho listed a w hsz hun hdown hdf hn hk hp hJ
    have hil : i < l.length := (List.getElem?_eq_some_iff.1 ho).1
    have hunf : listed.getD i false = false := by
      have : i < listed.size := by omega
      simpa [this] using hun
    have hw : Region.wanted o (yielded l.toArray a.tmps) = true := by simp [Region.wanted, hg0 i o ho]
    rw [if_pos hw]
    have hdc : ∀ (j : Nat) (o' : Oper), l[j]? = some o' → (∀ k, (preds o').contains k = true → k < j) := fun j o' ho' k hk => by
      obtain ⟨e, he, rfl⟩ := preds_spec hk
      have := (hspec j o' ho').1 e he.1
      omega
    have hs1 : listed.getD c false = true → ∀ j, j < c → listed.getD j false = true := fun hc j hj => by
      have h1 := ancs_listed hdown c [c] (by simpa using hc) j
      exact h1 (by have := List.all_eq_true.1 hanc j (List.mem_range.2 hj); simpa using this)
    have hs2 : listed.getD (c + 1) false = true → listed.getD c false = true := fun h => hdown (c + 1) ol hol h c hpl
    rcases Nat.lt_trichotomy i c with hic | hic | hic
    · have hcf : listed.getD c false = false := by
        cases h : listed.getD c false with
        | false => rfl
        | true => have := hs1 h i hic; rw [hunf] at this; exact this.symm ▸ rfl
      have hcf2 : listed.getD (c + 1) false = false := by
        cases h : listed.getD (c + 1) false with
        | false => rfl
        | true => have := hs2 h; rw [hcf] at this; exact this.symm ▸ rfl
      have hA : A w ∧ ∀ j, j < c → listed.getD j false = true → Ψ j w (slotOf l.toArray a j) := by
        have := hJ
        simp only [J, hcf, hcf2] at this
        simpa using this
      have h1 := hpre i hic a w hk (by rw [hgd i o ho]; exact fun j hj => hA.2 j (by have := hdc i o ho j hj; omega) (hp j hj).1) hA.1
      rw [hgd i o ho] at h1
      refine Oper.wp_mono ?_ h1
      rintro a' w' ⟨v, rfl, hT, hv, hA'⟩
      refine ⟨v, rfl, fun _ => trivial, ?_⟩
      show if _ then _ else _
      rw [getD_set_ne false (by omega : i ≠ c + 1), getD_set_ne false (by omega : i ≠ c), hcf, hcf2]
      simp only [Bool.false_eq_true, if_false]
      refine ⟨hA', fun j hj hl => ?_⟩
      by_cases e : i = j
      · subst e
        obtain ⟨d, hd⟩ := hds i o (by omega) ho
        rw [slot_put_same (by simpa using ho) hd (by have := ((hspec i o ho).2 d hd).2.1; omega)]
        exact hv
      · rw [getD_set_ne false e] at hl
        rw [hslot i j o a v e (by omega) ho]
        exact hmono _ _ _ _ (hA.2 j hj hl) hT
    · subst hic
      have hcf2 : listed.getD (i + 1) false = false := by
        cases h : listed.getD (i + 1) false with
        | false => rfl
        | true => have := hs2 h; rw [hunf] at this; exact this.symm ▸ rfl
      have hA : A w ∧ ∀ j, j < i → listed.getD j false = true → Ψ j w (slotOf l.toArray a j) := by
        have := hJ
        simp only [J, hunf, hcf2] at this
        simpa using this
      have h1 := hmake a w hk (by rw [hgd i o ho]; exact fun j hj => hA.2 j (by have := hdc i o ho j hj; omega) (hp j hj).1) hA.1
      rw [hgd i o ho] at h1
      refine Oper.wp_mono ?_ h1
      rintro a' w' ⟨v, rfl, hB'⟩
      refine ⟨v, rfl, fun _ => trivial, ?_⟩
      obtain ⟨d, hd⟩ := hds i o (by omega) ho
      show if _ then _ else _
      rw [getD_set_ne false (by omega : i ≠ i + 1), hcf2]
      have : (listed.setIfInBounds i true).getD i false = true := by
        have : i < listed.size := by omega
        simp [this]
      rw [this, slot_put_same (by simpa using ho) hd (by have := ((hspec i o ho).2 d hd).2.1; omega)]
      simpa using hB'
    · have hie : i = c + 1 := by omega
      subst hie
      rw [hol] at ho
      cases ho
      have hcl : listed.getD c false = true := (hp c hpl).1
      have hB' : B (slotOf l.toArray a c) w := by
        have := hJ
        simp only [J, hunf, hcl] at this
        simpa using this
      have h1 := hstore a w hk hB'
      rw [hgd _ _ hol] at h1
      refine Oper.wp_mono ?_ h1
      rintro a' w' ⟨rfl, hC⟩
      refine ⟨undef, by rw [hdl]; rfl, fun _ => trivial, ?_⟩
      show if _ then _ else _
      have : (listed.setIfInBounds (c + 1) true).getD (c + 1) false = true := by
        have : c + 1 < listed.size := by omega
        simp [this]
      rw [this]
      simpa using hC
  · intro listed a w hsz hall hdf hn hk _ hJ
    refine hend a w hdf hn hk ?_
    have := hJ
    simp only [J, hall (c + 1) (by omega)] at this
    simpa using this

theorem op_fieldAddr {P : Program} {Q : Exit → Act → World → Prop} {K : Act → World → Prop} {a : Act} {w : World} {dst : Option Tmp} {ty : TypeId} {pos : String} {af : Array Edge} {gd : Option (Nat × Bool)} {x : Operand} {vx v : Value} {t : TypeId} {f : Nat}
    (hx : a.eval x = vx) (hr : (Instr.fieldAt t vx f).run P w = .ok v w) (h : K (a.put dst v) w) : Oper.wp P ⟨dst, .fieldAddr t x f, ty, pos, af, gd⟩ a w K Q := by
  unfold Oper.wp
  simp [execOp, hx, hr, Oper.upon, h]

end Go.Proofs.YthgdmppmjnmiiaaGreatDoor.Nm

/- Plain facts on digits to the base of ten thousand, the least first: their value, noughts at the top, how many there are. No program. -/
namespace Go.Proofs.YthgdmppmjnmiiaaGreatDoor.Nm.T4

/-- The number of the digits xs, the least first. -/
def val : List Int → Int
  | [] => 0
  | x :: xs => x + 10000 * val xs
/-- Each is a digit. -/
def Dig (xs : List Int) : Prop := ∀ x ∈ xs, 0 ≤ x ∧ x < 10000
/-- No nought at the top. -/
def Norm (xs : List Int) : Prop := ∀ h : xs ≠ [], xs.getLast h ≠ 0
/-- The base to the k. -/
def pw : Nat → Int
  | 0 => 1
  | k + 1 => 10000 * pw k

theorem pw_pos (k : Nat) : 0 < pw k := by
  induction k with
  | zero => decide
  | succ k ih => simp only [pw]; omega
theorem pw_add (a b : Nat) : pw (a + b) = pw a * pw b := by
  induction a with
  | zero => simp [pw]
  | succ a ih => rw [Nat.succ_add]; simp only [pw]; rw [ih, Int.mul_assoc]
theorem pw_mono {a b : Nat} (h : a ≤ b) : pw a ≤ pw b := by
  obtain ⟨c, rfl⟩ := Nat.exists_eq_add_of_le h
  rw [pw_add]
  have h1 := pw_pos a
  have h2 := pw_pos c
  have h3 := Int.mul_le_mul_of_nonneg_left (show (1 : Int) ≤ pw c by omega) (Int.le_of_lt h1)
  omega
theorem val_append (xs ys : List Int) : val (xs ++ ys) = val xs + pw xs.length * val ys := by
  induction xs with
  | nil => simp [val, pw]
  | cons x xs ih =>
    simp only [List.cons_append, val, List.length_cons, pw]
    rw [ih, Int.mul_add, Int.mul_assoc]; omega
theorem val_snoc (xs : List Int) (d : Int) : val (xs ++ [d]) = val xs + pw xs.length * d := by
  rw [val_append]; simp [val]
theorem Dig.append {xs ys : List Int} (h : Dig xs) (k : Dig ys) : Dig (xs ++ ys) := by
  intro x hx
  rcases List.mem_append.1 hx with hx | hx
  · exact h x hx
  · exact k x hx
theorem Dig.one {d : Int} (h0 : 0 ≤ d) (h1 : d < 10000) : Dig [d] := by
  intro x hx
  simp at hx; subst hx; exact ⟨h0, h1⟩
theorem Dig.nil : Dig [] := by intro x hx; cases hx
theorem Dig.take {xs : List Int} (h : Dig xs) (k : Nat) : Dig (xs.take k) := fun x hx => h x (List.mem_of_mem_take hx)
theorem Dig.drop {xs : List Int} (h : Dig xs) (k : Nat) : Dig (xs.drop k) := fun x hx => h x (List.mem_of_mem_drop hx)
theorem Dig.at {xs : List Int} (h : Dig xs) (k : Nat) : 0 ≤ xs[k]?.getD 0 ∧ xs[k]?.getD 0 < 10000 := by
  cases e : xs[k]? with
  | none => simp
  | some v => exact h v (List.mem_of_getElem? e)
theorem Dig.get {xs : List Int} (h : Dig xs) (k : Nat) : ∃ x, xs[k]?.getD 0 = x ∧ 0 ≤ x ∧ x < 10000 := ⟨_, rfl, h.at k⟩
theorem take_snoc (xs : List Int) (k : Nat) (h : k < xs.length) : xs.take (k + 1) = xs.take k ++ [xs[k]?.getD 0] := by
  rw [List.take_add_one, List.getElem?_eq_getElem h]; rfl
theorem val_take_succ (xs : List Int) (k : Nat) (h : k < xs.length) : val (xs.take (k + 1)) = val (xs.take k) + pw k * (xs[k]?.getD 0) := by
  rw [take_snoc xs k h, val_snoc, List.length_take, Nat.min_eq_left (Nat.le_of_lt h)]
theorem val_take_succ' (xs : List Int) (k : Nat) : val (xs.take (k + 1)) = val (xs.take k) + pw k * (xs[k]?.getD 0) := by
  by_cases h : k < xs.length
  · exact val_take_succ xs k h
  · rw [List.take_of_length_le (by omega), List.take_of_length_le (by omega), List.getElem?_eq_none (by omega)]
    simp
theorem val_nonneg {xs : List Int} (h : Dig xs) : 0 ≤ val xs := by
  induction xs with
  | nil => simp [val]
  | cons x xs ih =>
    have h1 := h x (by simp)
    have h2 := ih (fun y hy => h y (by simp [hy]))
    simp only [val]; omega
theorem val_lt {xs : List Int} (h : Dig xs) : val xs < pw xs.length := by
  induction xs with
  | nil => simp [val, pw]
  | cons x xs ih =>
    have h1 := h x (by simp)
    have h2 := ih (fun y hy => h y (by simp [hy]))
    simp only [val, List.length_cons, pw]; omega
/-- As many digits as the number wants. -/
theorem le_val {xs : List Int} (h : Dig xs) (hn : Norm xs) (hne : xs ≠ []) : pw (xs.length - 1) ≤ val xs := by
  have e := List.dropLast_concat_getLast hne
  have hl : xs.dropLast.length = xs.length - 1 := by simp
  have h1 := hn hne
  have h2 := h _ (List.getLast_mem hne)
  have h3 := val_nonneg (xs := xs.dropLast) (fun y hy => h y (List.dropLast_subset xs hy))
  rw [← e, val_snoc]
  simp only [List.length_append, List.length_cons, List.length_nil, hl]
  rw [show xs.length - 1 + (0 + 1) - 1 = xs.length - 1 by omega]
  have h4 := Int.mul_le_mul_of_nonneg_left (show (1 : Int) ≤ xs.getLast hne by omega) (Int.le_of_lt (pw_pos (xs.length - 1)))
  omega
theorem pw_lt_imp {a b : Nat} (h : pw a < pw b) : a < b := by
  apply Nat.lt_of_not_le
  intro hc
  have := pw_mono hc
  omega
theorem len_le {xs : List Int} (h : Dig xs) (hn : Norm xs) {k : Nat} (hk : val xs < pw k) : xs.length ≤ k := by
  by_cases hne : xs = []
  · simp [hne]
  · have h1 := le_val h hn hne
    have h2 := pw_lt_imp (Int.lt_of_le_of_lt h1 hk)
    omega
theorem val_replicate (n : Nat) : val (List.replicate n 0) = 0 := by
  induction n with
  | zero => rfl
  | succ n ih => simp only [List.replicate_succ, val, ih]; omega
theorem Dig.replicate (n : Nat) : Dig (List.replicate n 0) := by
  intro x hx
  rw [List.eq_of_mem_replicate hx]; omega
/-- All digits from k on are noughts. -/
theorem val_take_of_zero (xs : List Int) (k : Nat) (h : ∀ j, k ≤ j → j < xs.length → xs[j]?.getD 0 = 0) : val (xs.take k) = val xs := by
  by_cases hk : xs.length ≤ k
  · rw [List.take_of_length_le hk]
  · have e : xs = xs.take k ++ List.replicate (xs.length - k) 0 := by
      apply List.ext_getElem
      · simp; omega
      · intro i h1 h2
        by_cases hi : i < k
        · rw [List.getElem_append_left (by simp; omega)]; simp
        · rw [List.getElem_append_right (by simp; omega)]
          have := h i (by omega) h1
          rw [List.getElem?_eq_getElem h1] at this
          simpa using this
    have h2 := val_append (xs.take k) (List.replicate (xs.length - k) 0)
    rw [← e, val_replicate] at h2
    omega
theorem Norm.nil : Norm [] := fun h => absurd rfl h
theorem Norm.take {xs : List Int} {k : Nat} (hk : k ≤ xs.length) (h : 0 < k → xs[k - 1]?.getD 0 ≠ 0) : Norm (xs.take k) := by
  intro hne
  have hk0 : 0 < k := by
    apply Nat.pos_of_ne_zero
    intro e
    subst e
    exact hne rfl
  have h1 := h hk0
  rw [List.getElem?_eq_getElem (by omega)] at h1
  rw [List.getLast_eq_getElem]
  simp only [List.length_take, Nat.min_eq_left hk, List.getElem_take]
  exact h1

end Go.Proofs.YthgdmppmjnmiiaaGreatDoor.Nm.T4

/- The document's numbers: sums of digits, differences, orders; noughts taken away. -/
namespace Go.Proofs.YthgdmppmjnmiiaaGreatDoor.Nm
open Go.RowKit

theorem addN_step (X Y zs : List Int) (k : Nat) (cr x y : Int) (hz : zs.length = k) (hx : X[k]?.getD 0 = x) (hy : Y[k]?.getD 0 = y) (h : T4.val zs + T4.pw k * cr = T4.val (X.take k) + T4.val (Y.take k)) :
    ∀ d c : Int, cr + x + y = d + 10000 * c → T4.val (zs ++ [d]) + T4.pw (k + 1) * c = T4.val (X.take (k + 1)) + T4.val (Y.take (k + 1)) := by
  intro d c e
  rw [T4.val_snoc, hz, T4.val_take_succ', T4.val_take_succ', hx, hy]
  simp only [T4.pw]
  have e2 : T4.pw k * cr + T4.pw k * x + T4.pw k * y = T4.pw k * d + T4.pw k * (10000 * c) := by
    rw [← Int.mul_add, ← Int.mul_add, ← Int.mul_add, e]
  have e3 : T4.pw k * (10000 * c) = 10000 * T4.pw k * c := by rw [← Int.mul_assoc, Int.mul_comm (T4.pw k)]
  omega

set_option maxRecDepth 100000 in
set_option maxHeartbeats 1600000 in
theorem plusN_any (vx vy : Value) (xs ys : List Int) (w : World) (hmx : Ns w vx xs) (hmy : Ns w vy ys) (hdx : T4.Dig xs) (hdy : T4.Dig ys) (hlx : xs.length ≤ 10000) (hly : ys.length ≤ 10000) :
    Calls Tryz.prog 37 #[vx, vy] w fun e w' => ∃ v zs, e = .returned v ∧ Below w.heap.size w w' ∧ Ns w' v zs ∧ T4.Dig zs ∧ T4.val zs = T4.val xs + T4.val ys ∧ zs.length ≤ max xs.length ys.length + 1 := by
  obtain ⟨i0, hi, hz0, hz1, hz2⟩ := info_parts infoInt
  obtain ⟨ax, capx, rfl, hcx, hatx⟩ := hmx
  obtain ⟨ay, capy, rfl, hcy, haty⟩ := hmy
  go_enter Tryz.func37, Tryz.ntmps37
  go_wp2
  go_loopw [5, 6, 7] (fun dv cv iv wr => ∃ (k : Nat) (cr : Int) (zs : List Int), iv = .int .i64 k ∧ cv = .int .i64 cr ∧ 0 ≤ cr ∧ cr ≤ 1 ∧ (k ≤ max xs.length ys.length ∨ k = max xs.length ys.length + 1 ∧ cr = 0) ∧ zs.length = k ∧ wr.ownsRow w.heap.size 3 1 dv zs.length (zs.map (Value.int .i64)) ∧ Below w.heap.size w wr ∧ T4.Dig zs ∧ T4.val zs + T4.pw k * cr = T4.val (xs.take k) + T4.val (ys.take k)) (fun _ _ iv _ => max xs.length ys.length + 1 - (intOf iv).toNat)
  case atStart => exact ⟨0, 0, [], rfl, rfl, by omega, by omega, .inl (Nat.zero_le _), rfl, World.ownsRow_nil _ _ _ _, Below.refl _ _, T4.Dig.nil, by simp [T4.val, T4.pw]⟩
  case round =>
    obtain ⟨k, cr, zs, rfl, rfl, hc0, hc1, hkm, hzl, hown, hbel, hdz, hval⟩ := hrel
    obtain ⟨x, hx, hx0, hx1⟩ := hdx.get k
    obtain ⟨y, hy, hy0, hy1⟩ := hdy.get k
    have hzle : zs.length ≤ 100000 := by omega
    have HV := hide hval
    have HZ := hide hzl
    have HX := hide hx
    have HY := hide hy
    have HK := hide hkm
    have key := hide (addN_step xs ys zs k cr x y hzl hx hy hval)
    have hkb : k ≤ 10001 := by omega
    clear hval hzl hx hy hkm
    by_cases hX : k < xs.length
    · obtain ⟨bx, ox, rfl, hbx, hcx9⟩ := hatx (by intro e; subst e; simp at hX)
      have hcxk : wr.cell? ⟨bx, ox + k, none⟩ = some (.int .i64 x) := by rw [← unhide HX]; exact (hbel.cell (p := ⟨bx, ox + k, none⟩) hbx).trans (hcx9 k hX)
      have hXi : (k : Int) < (xs.length : Int) := by omega
      by_cases hY : k < ys.length
      · obtain ⟨yb, oy, rfl, hby, hcy9⟩ := haty (by intro e; subst e; simp at hY)
        have hcyk : wr.cell? ⟨yb, oy + k, none⟩ = some (.int .i64 y) := by rw [← unhide HY]; exact (hbel.cell (p := ⟨yb, oy + k, none⟩) hby).trans (hcy9 k hY)
        have hYi : (k : Int) < (ys.length : Int) := by omega
        go_wp2_with (at_builtin; refine wpList_append_own _ rfl _ _ 56 rfl w.heap.size 3 i0 (.int .i64 0) 1 8 Tryz.underlying56 hi hz0 hz1 hz2 rfl (by decide) _ _ _ rfl (hown.alloc _) ⟨wr.heap.size, 0, none⟩ 1 1 [.int .i64 ((cr + x + y) % 10000)] rfl rfl (cell_one_new _ _ _) (one64 _) ?c3 ?c4 ?c5 ?_)
        case c3 => unfold maxLen; omega
        case c4 => omega
        case c5 => have := hbel.size; simp; omega
        intro v' w1 hown' hgrow _
        have hB := (hbel.alloc hbel.size (.cells #[.int .i64 ((cr + x + y) % 10000)] 3)).grown hgrow (by have := hbel.size; simp; omega) (fun k hk => (hown.lt k hk).1)
        have hO := own_snocI hown'
        clear hown' hgrow hown hbel
        go_wp2
        exact ⟨⟨k + 1, (cr + x + y) / 10000, zs ++ [(cr + x + y) % 10000], by simp, rfl, by omega, by omega, by have := unhide HK; omega, by simp [unhide HZ], hO, hB, hdz.append (T4.Dig.one (by omega) (by omega)), unhide key _ _ (by omega)⟩, by have := unhide HK; simp [intOf]; omega⟩
      · have hYn : ¬ (k : Int) < (ys.length : Int) := by omega
        have HEY := hide (show y = 0 by rw [← unhide HY, List.getElem?_eq_none (by omega)]; rfl)
        go_wp2_with (at_builtin; refine wpList_append_own _ rfl _ _ 56 rfl w.heap.size 3 i0 (.int .i64 0) 1 8 Tryz.underlying56 hi hz0 hz1 hz2 rfl (by decide) _ _ _ rfl (hown.alloc _) ⟨wr.heap.size, 0, none⟩ 1 1 [.int .i64 ((cr + x) % 10000)] rfl rfl (cell_one_new _ _ _) (one64 _) ?c3 ?c4 ?c5 ?_)
        case c3 => unfold maxLen; omega
        case c4 => omega
        case c5 => have := hbel.size; simp; omega
        intro v' w1 hown' hgrow _
        have hB := (hbel.alloc hbel.size (.cells #[.int .i64 ((cr + x) % 10000)] 3)).grown hgrow (by have := hbel.size; simp; omega) (fun k hk => (hown.lt k hk).1)
        have hO := own_snocI hown'
        clear hown' hgrow hown hbel
        go_wp2
        exact ⟨⟨k + 1, (cr + x) / 10000, zs ++ [(cr + x) % 10000], by simp, rfl, by omega, by omega, by have := unhide HK; omega, by simp [unhide HZ], hO, hB, hdz.append (T4.Dig.one (by omega) (by omega)), unhide key _ _ (by have := unhide HEY; omega)⟩, by have := unhide HK; simp [intOf]; omega⟩
    · have hXn : ¬ (k : Int) < (xs.length : Int) := by omega
      have HEX := hide (show x = 0 by rw [← unhide HX, List.getElem?_eq_none (by omega)]; rfl)
      by_cases hY : k < ys.length
      · obtain ⟨yb, oy, rfl, hby, hcy9⟩ := haty (by intro e; subst e; simp at hY)
        have hcyk : wr.cell? ⟨yb, oy + k, none⟩ = some (.int .i64 y) := by rw [← unhide HY]; exact (hbel.cell (p := ⟨yb, oy + k, none⟩) hby).trans (hcy9 k hY)
        have hYi : (k : Int) < (ys.length : Int) := by omega
        go_wp2_with (at_builtin; refine wpList_append_own _ rfl _ _ 56 rfl w.heap.size 3 i0 (.int .i64 0) 1 8 Tryz.underlying56 hi hz0 hz1 hz2 rfl (by decide) _ _ _ rfl (hown.alloc _) ⟨wr.heap.size, 0, none⟩ 1 1 [.int .i64 ((cr + y) % 10000)] rfl rfl (cell_one_new _ _ _) (one64 _) ?c3 ?c4 ?c5 ?_)
        case c3 => unfold maxLen; omega
        case c4 => omega
        case c5 => have := hbel.size; simp; omega
        intro v' w1 hown' hgrow _
        have hB := (hbel.alloc hbel.size (.cells #[.int .i64 ((cr + y) % 10000)] 3)).grown hgrow (by have := hbel.size; simp; omega) (fun k hk => (hown.lt k hk).1)
        have hO := own_snocI hown'
        clear hown' hgrow hown hbel
        go_wp2
        exact ⟨⟨k + 1, (cr + y) / 10000, zs ++ [(cr + y) % 10000], by simp, rfl, by omega, by omega, by have := unhide HK; have := unhide HEX; omega, by simp [unhide HZ], hO, hB, hdz.append (T4.Dig.one (by omega) (by omega)), unhide key _ _ (by have := unhide HEX; omega)⟩, by have := unhide HK; simp [intOf]; have := unhide HEX; omega⟩
      · have hYn : ¬ (k : Int) < (ys.length : Int) := by omega
        have HEY := hide (show y = 0 by rw [← unhide HY, List.getElem?_eq_none (by omega)]; rfl)
        by_cases hc : 0 < cr
        · obtain rfl : cr = 1 := by omega
          go_wp2_with (at_builtin; refine wpList_append_own _ rfl _ _ 56 rfl w.heap.size 3 i0 (.int .i64 0) 1 8 Tryz.underlying56 hi hz0 hz1 hz2 rfl (by decide) _ _ _ rfl (hown.alloc _) ⟨wr.heap.size, 0, none⟩ 1 1 [.int .i64 1] rfl rfl (cell_one_new _ _ _) (one64 _) ?c3 ?c4 ?c5 ?_)
          case c3 => unfold maxLen; omega
          case c4 => omega
          case c5 => have := hbel.size; simp; omega
          intro v' w1 hown' hgrow _
          have hB := (hbel.alloc hbel.size (.cells #[.int .i64 1] 3)).grown hgrow (by have := hbel.size; simp; omega) (fun k hk => (hown.lt k hk).1)
          have hO := own_snocI hown'
          clear hown' hgrow hown hbel
          go_wp2
          exact ⟨⟨k + 1, 0, zs ++ [1], by simp, rfl, by omega, by omega, by have := unhide HK; have := unhide HEX; have := unhide HEY; omega, by simp [unhide HZ], hO, hB, hdz.append (T4.Dig.one (by omega) (by omega)), unhide key _ _ (by have := unhide HEX; have := unhide HEY; omega)⟩, by have := unhide HK; simp [intOf]; have := unhide HEX; have := unhide HEY; omega⟩
        · obtain rfl : cr = 0 := by omega
          have HR := hide (show T4.val zs = T4.val xs + T4.val ys by
            have := unhide HV
            rw [List.take_of_length_le (by omega), List.take_of_length_le (by omega)] at this
            omega)
          have hm := Ns.of_owns hown
          have HL := hide (show zs.length ≤ max xs.length ys.length + 1 by have := unhide HK; have := unhide HZ; omega)
          clear hown
          go_wp2
          go_ret
          exact ⟨_, rfl, hbel, zs, hm, hdz, unhide HR, unhide HL⟩

end Go.Proofs.YthgdmppmjnmiiaaGreatDoor.Nm

/- The document's numbers: differences of digits. -/
namespace Go.Proofs.YthgdmppmjnmiiaaGreatDoor.Nm
open Go.RowKit

theorem subN_step (X Y zs : List Int) (k : Nat) (br x y : Int) (hz : zs.length = k) (hx : X[k]?.getD 0 = x) (hy : Y[k]?.getD 0 = y) (h : T4.val zs = T4.val (X.take k) - T4.val (Y.take k) + T4.pw k * br) :
    ∀ d c : Int, x - br - y + 10000 * c = d → T4.val (zs ++ [d]) = T4.val (X.take (k + 1)) - T4.val (Y.take (k + 1)) + T4.pw (k + 1) * c := by
  intro d c e
  rw [T4.val_snoc, hz, T4.val_take_succ', T4.val_take_succ', hx, hy]
  simp only [T4.pw]
  subst e
  have e3 : T4.pw k * (10000 * c) = 10000 * T4.pw k * c := by rw [← Int.mul_assoc, Int.mul_comm (T4.pw k)]
  rw [Int.mul_add, Int.mul_sub, Int.mul_sub]
  omega

set_option maxRecDepth 100000 in
set_option maxHeartbeats 1600000 in
theorem minusN_any (vx vy : Value) (xs ys : List Int) (w : World) (hmx : Ns w vx xs) (hmy : Ns w vy ys) (hdx : T4.Dig xs) (hdy : T4.Dig ys) (hlx : xs.length ≤ 10000) (hly : ys.length ≤ xs.length) (hge : T4.val ys ≤ T4.val xs) :
    Calls Tryz.prog 39 #[vx, vy] w fun e w' => ∃ v zs, e = .returned v ∧ Below w.heap.size w w' ∧ Ns w' v zs ∧ T4.Dig zs ∧ T4.val zs = T4.val xs - T4.val ys ∧ zs.length = xs.length := by
  obtain ⟨i0, hi, hz0, hz1, hz2⟩ := info_parts infoInt
  obtain ⟨ax, capx, rfl, hcx, hatx⟩ := hmx
  obtain ⟨ay, capy, rfl, hcy, haty⟩ := hmy
  go_enter Tryz.func39, Tryz.ntmps39
  go_wp2
  go_loopw [5, 6, 7] (fun dv cv iv wr => ∃ (k : Nat) (br : Int) (zs : List Int), iv = .int .i64 k ∧ cv = .int .i64 br ∧ 0 ≤ br ∧ br ≤ 1 ∧ k ≤ xs.length ∧ zs.length = k ∧ wr.ownsRow w.heap.size 3 1 dv zs.length (zs.map (Value.int .i64)) ∧ Below w.heap.size w wr ∧ T4.Dig zs ∧ T4.val zs = T4.val (xs.take k) - T4.val (ys.take k) + T4.pw k * br) (fun _ _ iv _ => xs.length - (intOf iv).toNat)
  case atStart => exact ⟨0, 0, [], rfl, rfl, by omega, by omega, Nat.zero_le _, rfl, World.ownsRow_nil _ _ _ _, Below.refl _ _, T4.Dig.nil, by simp [T4.val, T4.pw]⟩
  case round =>
    obtain ⟨k, br, zs, rfl, rfl, hc0, hc1, hk, hzl, hown, hbel, hdz, hval⟩ := hrel
    obtain ⟨x, hx, hx0, hx1⟩ := hdx.get k
    obtain ⟨y, hy, hy0, hy1⟩ := hdy.get k
    have hzle : zs.length ≤ 100000 := by omega
    have HV := hide hval
    have HZ := hide hzl
    have HX := hide hx
    have HY := hide hy
    have HG := hide hge
    have key := hide (subN_step xs ys zs k br x y hzl hx hy hval)
    clear hval hzl hx hy
    by_cases hX : k < xs.length
    · obtain ⟨bx, ox, rfl, hbx, hcx9⟩ := hatx (by intro e; subst e; simp at hX)
      have hcxk : wr.cell? ⟨bx, ox + k, none⟩ = some (.int .i64 x) := by rw [← unhide HX]; exact (hbel.cell (p := ⟨bx, ox + k, none⟩) hbx).trans (hcx9 k hX)
      have hXi : (k : Int) < (xs.length : Int) := by omega
      by_cases hY : k < ys.length
      · obtain ⟨yb, oy, rfl, hby, hcy9⟩ := haty (by intro e; subst e; simp at hY)
        have hcyk : wr.cell? ⟨yb, oy + k, none⟩ = some (.int .i64 y) := by rw [← unhide HY]; exact (hbel.cell (p := ⟨yb, oy + k, none⟩) hby).trans (hcy9 k hY)
        have hYi : (k : Int) < (ys.length : Int) := by omega
        by_cases hn : x - br - y < 0
        · go_wp2_with (at_builtin; refine wpList_append_own _ rfl _ _ 56 rfl w.heap.size 3 i0 (.int .i64 0) 1 8 Tryz.underlying56 hi hz0 hz1 hz2 rfl (by decide) _ _ _ rfl (hown.alloc _) ⟨wr.heap.size, 0, none⟩ 1 1 [.int .i64 (x - br - y + 10000)] rfl rfl (cell_one_new _ _ _) (one64 _) ?c3 ?c4 ?c5 ?_)
          case c3 => unfold maxLen; omega
          case c4 => omega
          case c5 => have := hbel.size; simp; omega
          intro v' w1 hown' hgrow _
          have hB := (hbel.alloc hbel.size (.cells #[.int .i64 (x - br - y + 10000)] 3)).grown hgrow (by have := hbel.size; simp; omega) (fun k hk => (hown.lt k hk).1)
          have hO := own_snocI hown'
          clear hown' hgrow hown hbel
          go_wp2
          exact ⟨⟨k + 1, 1, zs ++ [x - br - y + 10000], by simp, rfl, by omega, by omega, by omega, by simp [unhide HZ], hO, hB, hdz.append (T4.Dig.one (by omega) (by omega)), unhide key _ _ (by omega)⟩, by simp [intOf]; omega⟩
        · go_wp2_with (at_builtin; refine wpList_append_own _ rfl _ _ 56 rfl w.heap.size 3 i0 (.int .i64 0) 1 8 Tryz.underlying56 hi hz0 hz1 hz2 rfl (by decide) _ _ _ rfl (hown.alloc _) ⟨wr.heap.size, 0, none⟩ 1 1 [.int .i64 (x - br - y)] rfl rfl (cell_one_new _ _ _) (one64 _) ?c3 ?c4 ?c5 ?_)
          case c3 => unfold maxLen; omega
          case c4 => omega
          case c5 => have := hbel.size; simp; omega
          intro v' w1 hown' hgrow _
          have hB := (hbel.alloc hbel.size (.cells #[.int .i64 (x - br - y)] 3)).grown hgrow (by have := hbel.size; simp; omega) (fun k hk => (hown.lt k hk).1)
          have hO := own_snocI hown'
          clear hown' hgrow hown hbel
          go_wp2
          exact ⟨⟨k + 1, 0, zs ++ [x - br - y], by simp, rfl, by omega, by omega, by omega, by simp [unhide HZ], hO, hB, hdz.append (T4.Dig.one (by omega) (by omega)), unhide key _ _ (by omega)⟩, by simp [intOf]; omega⟩
      · have hYn : ¬ (k : Int) < (ys.length : Int) := by omega
        have HEY := hide (show y = 0 by rw [← unhide HY, List.getElem?_eq_none (by omega)]; rfl)
        by_cases hn : x - br < 0
        · go_wp2_with (at_builtin; refine wpList_append_own _ rfl _ _ 56 rfl w.heap.size 3 i0 (.int .i64 0) 1 8 Tryz.underlying56 hi hz0 hz1 hz2 rfl (by decide) _ _ _ rfl (hown.alloc _) ⟨wr.heap.size, 0, none⟩ 1 1 [.int .i64 (x - br + 10000)] rfl rfl (cell_one_new _ _ _) (one64 _) ?c3 ?c4 ?c5 ?_)
          case c3 => unfold maxLen; omega
          case c4 => omega
          case c5 => have := hbel.size; simp; omega
          intro v' w1 hown' hgrow _
          have hB := (hbel.alloc hbel.size (.cells #[.int .i64 (x - br + 10000)] 3)).grown hgrow (by have := hbel.size; simp; omega) (fun k hk => (hown.lt k hk).1)
          have hO := own_snocI hown'
          clear hown' hgrow hown hbel
          go_wp2
          exact ⟨⟨k + 1, 1, zs ++ [x - br + 10000], by simp, rfl, by omega, by omega, by omega, by simp [unhide HZ], hO, hB, hdz.append (T4.Dig.one (by omega) (by omega)), unhide key _ _ (by have := unhide HEY; omega)⟩, by simp [intOf]; omega⟩
        · go_wp2_with (at_builtin; refine wpList_append_own _ rfl _ _ 56 rfl w.heap.size 3 i0 (.int .i64 0) 1 8 Tryz.underlying56 hi hz0 hz1 hz2 rfl (by decide) _ _ _ rfl (hown.alloc _) ⟨wr.heap.size, 0, none⟩ 1 1 [.int .i64 (x - br)] rfl rfl (cell_one_new _ _ _) (one64 _) ?c3 ?c4 ?c5 ?_)
          case c3 => unfold maxLen; omega
          case c4 => omega
          case c5 => have := hbel.size; simp; omega
          intro v' w1 hown' hgrow _
          have hB := (hbel.alloc hbel.size (.cells #[.int .i64 (x - br)] 3)).grown hgrow (by have := hbel.size; simp; omega) (fun k hk => (hown.lt k hk).1)
          have hO := own_snocI hown'
          clear hown' hgrow hown hbel
          go_wp2
          exact ⟨⟨k + 1, 0, zs ++ [x - br], by simp, rfl, by omega, by omega, by omega, by simp [unhide HZ], hO, hB, hdz.append (T4.Dig.one (by omega) (by omega)), unhide key _ _ (by have := unhide HEY; omega)⟩, by simp [intOf]; omega⟩
    · obtain rfl : k = xs.length := by omega
      have hXn : ¬ (xs.length : Int) < (xs.length : Int) := by omega
      have HR := hide (show T4.val zs = T4.val xs - T4.val ys by
        have h1 := unhide HV
        rw [List.take_of_length_le (Nat.le_refl _), List.take_of_length_le (by omega)] at h1
        have h2 := T4.val_lt hdz
        rw [unhide HZ] at h2
        have h3 := T4.pw_pos xs.length
        have h4 := unhide HG
        have h5 : br = 0 ∨ br = 1 := by omega
        rcases h5 with rfl | rfl <;> omega)
      have hm := Ns.of_owns hown
      clear hown hge
      go_wp2
      go_ret
      exact ⟨_, rfl, hbel, zs, hm, hdz, unhide HR, unhide HZ⟩

end Go.Proofs.YthgdmppmjnmiiaaGreatDoor.Nm

/- The document's numbers: which digits are more; noughts taken away. -/
namespace Go.Proofs.YthgdmppmjnmiiaaGreatDoor.Nm.T4
open Go.RowKit
theorem val_lt_of_len {xs ys : List Int} (hx : Dig xs) (hy : Dig ys) (ny : Norm ys) (h : xs.length < ys.length) : val xs < val ys := by
  have h1 := val_lt hx
  have h2 := le_val hy ny (by intro e; subst e; simp at h)
  have h3 : pw xs.length ≤ pw (ys.length - 1) := pw_mono (by omega)
  omega
theorem val_split (xs : List Int) (k : Nat) (hk : k < xs.length) : val xs = val (xs.take k) + pw k * dg xs k + pw (k + 1) * val (xs.drop (k + 1)) := by
  have h1 := val_append (xs.take (k + 1)) (xs.drop (k + 1))
  rw [List.take_append_drop, List.length_take, Nat.min_eq_left (by omega), val_take_succ xs k hk] at h1
  exact h1
theorem drop_eq {xs ys : List Int} (hl : xs.length = ys.length) (k : Nat) (h : ∀ j, k ≤ j → j < xs.length → dg xs j = dg ys j) : xs.drop k = ys.drop k := by
  apply List.ext_getElem
  · simp [hl]
  · intro i h1 h2
    have := h (k + i) (by omega) (by simp at h1; omega)
    simp only [dg] at this
    rw [List.getElem?_eq_getElem (by simp at h1; omega), List.getElem?_eq_getElem (by simp at h1; omega)] at this
    simpa using this
theorem cmp_digit {xs ys : List Int} (hx : Dig xs) (hy : Dig ys) (hl : xs.length = ys.length) (k : Nat) (hk : k < xs.length) (h : ∀ j, k + 1 ≤ j → j < xs.length → dg xs j = dg ys j) (hlt : dg xs k < dg ys k) : val xs < val ys := by
  have h1 := val_split xs k hk
  have h2 := val_split ys k (by omega)
  rw [drop_eq hl (k + 1) h] at h1
  have h3 := val_lt (hx.take k)
  have h4 := val_nonneg (hy.take k)
  rw [List.length_take, Nat.min_eq_left (by omega)] at h3
  have h5 := Int.mul_le_mul_of_nonneg_left (show dg xs k + 1 ≤ dg ys k by omega) (Int.le_of_lt (pw_pos k))
  rw [Int.mul_add] at h5
  omega
end Go.Proofs.YthgdmppmjnmiiaaGreatDoor.Nm.T4
namespace Go.Proofs.YthgdmppmjnmiiaaGreatDoor.Nm
open Go.RowKit

theorem below_drewN {B : Nat} {w w' : World} (h : Below B w w') (n : Nat) : Below B w (w'.drewN n) := ⟨h.os, h.tape, h.output, h.size, h.block⟩

set_option maxRecDepth 100000 in
set_option maxHeartbeats 1600000 in
theorem lessN_any (vx vy : Value) (xs ys : List Int) (w : World) (hmx : Ns w vx xs) (hmy : Ns w vy ys) (hdx : T4.Dig xs) (hdy : T4.Dig ys) (hnx : T4.Norm xs) (hny : T4.Norm ys) (hlx : xs.length ≤ 10000) (_hly : ys.length ≤ 10000) :
    Calls Tryz.prog 38 #[vx, vy] w fun e w' => e = .returned (.int .i64 (cmpI (T4.val xs) (T4.val ys))) ∧ Below w.heap.size w w' := by
  obtain ⟨ax, capx, rfl, hcx, hatx⟩ := hmx
  obtain ⟨ay, capy, rfl, hcy, haty⟩ := hmy
  by_cases hl : xs.length = ys.length
  · have hl' : ((xs.length : Int) == (ys.length : Int)) = true := by simp; omega
    have hl'' : ((xs.length : Int) != (ys.length : Int)) = false := by simp; omega
    have HL := hide hl
    clear hl
    go_enter Tryz.func38, Tryz.ntmps38
    go_wp2
    go_loopw [5] (fun iv wr => ∃ k : Nat, k ≤ xs.length ∧ iv = .int .i64 ((k : Int) - 1) ∧ (∀ j, k ≤ j → j < xs.length → dg xs j = dg ys j) ∧ Below w.heap.size w wr) (fun iv _ => (intOf iv + 1).toNat)
    case atStart => exact ⟨xs.length, Nat.le_refl _, rfl, fun j h1 h2 => by omega, Below.refl _ _⟩
    case round =>
      obtain ⟨k, hk, rfl, heq, hbel⟩ := hrel
      cases k with
      | zero =>
        have hv : T4.val xs = T4.val ys := by
          have := T4.drop_eq (unhide HL) 0 (fun j _ h => heq j (Nat.zero_le _) h)
          simp at this
          rw [this]
        clear hl' hl''
        go_wp2
        go_ret
        exact ⟨ret_int (by rw [cmpI_eq hv]), hbel⟩
      | succ j =>
        have ej : ((j + 1 : Nat) : Int) - 1 = (j : Int) := by omega
        rw [ej]
        obtain ⟨x, hx, hx0, hx1⟩ := hdx.get j
        obtain ⟨y, hy, hy0, hy1⟩ := hdy.get j
        obtain ⟨bx, ox, rfl, hbx, hcx9⟩ := hatx (by intro e; subst e; simp at hk)
        obtain ⟨yb, oy, rfl, hby, hcy9⟩ := haty (by intro e; have h9 := unhide HL; rw [e] at h9; have h8 : xs.length = 0 := h9; omega)
        have hcxk : wr.cell? ⟨bx, ox + j, none⟩ = some (.int .i64 x) := by rw [← hx]; exact (hbel.cell (p := ⟨bx, ox + j, none⟩) hbx).trans (hcx9 j (by omega))
        have hcyk : wr.cell? ⟨yb, oy + j, none⟩ = some (.int .i64 y) := by rw [← hy]; exact (hbel.cell (p := ⟨yb, oy + j, none⟩) hby).trans (hcy9 j (by have := unhide HL; omega))
        have hXi : (j : Int) < (xs.length : Int) := by omega
        have hYi : (j : Int) < (ys.length : Int) := by have := unhide HL; omega
        have hj0 : (0 : Int) ≤ (j : Int) := by omega
        have HX := hide hx
        have HY := hide hy
        have HQ := hide heq
        have HD := hide (And.intro hdx hdy)
        clear hx hy heq ej hcx9 hcy9 hdx hdy
        by_cases h1 : x < y
        · have HR := hide (T4.cmp_digit (unhide HD).1 (unhide HD).2 (unhide HL) j (by omega) (fun i h1 h2 => unhide HQ i h1 h2) (by unfold dg; rw [unhide HX, unhide HY]; exact h1))
          go_wp2
          go_quiet (fail)
          go_wp2
          go_ret
          exact ⟨ret_int (by rw [cmpI_lt (unhide HR)]), below_drewN hbel _⟩
        · have h1' : decide (x < y) = false := by simpa using h1
          by_cases h2 : y < x
          · have HR := hide (T4.cmp_digit (unhide HD).2 (unhide HD).1 (unhide HL).symm j (by have := unhide HL; omega) (fun i h1 h2 => (unhide HQ i h1 (by have := unhide HL; omega)).symm) (by unfold dg; rw [unhide HX, unhide HY]; exact h2))
            go_wp2
            go_quiet (fail)
            go_wp2
            go_quiet (fail)
            go_wp2
            go_ret
            exact ⟨ret_int (by rw [cmpI_gt (unhide HR)]), below_drewN (below_drewN hbel _) _⟩
          · have h2' : decide (y < x) = false := by simpa using h2
            have hxy : x = y := by omega
            have HE := hide hxy
            clear hxy
            go_wp2
            go_quiet (fail)
            go_wp2
            go_quiet (fail)
            go_wp2
            refine ⟨⟨j, by omega, by go_num, fun i hi1 hi2 => ?_, below_drewN hbel _⟩, by simp [intOf]⟩
            by_cases e : i = j
            · subst e; unfold dg; rw [unhide HX, unhide HY, unhide HE]
            · exact unhide HQ i (by omega) hi2
  · have hl'' : ((xs.length : Int) != (ys.length : Int)) = true := by simp; omega
    have HL := hide hl
    clear hl
    by_cases h : xs.length < ys.length
    · have hv := T4.val_lt_of_len hdx hdy hny h
      have h' : (xs.length : Int) < (ys.length : Int) := by omega
      have HV := hide hv
      clear hv
      go_enter Tryz.func38, Tryz.ntmps38
      go_wp2
      go_ret
      exact ⟨ret_int (by rw [cmpI_lt (unhide HV)]), Below.refl _ _⟩
    · have hv := T4.val_lt_of_len hdy hdx hnx (by have := unhide HL; omega)
      have h' : decide ((xs.length : Int) < (ys.length : Int)) = false := by simp; omega
      have HV := hide hv
      clear hv
      go_enter Tryz.func38, Tryz.ntmps38
      go_wp2
      go_ret
      exact ⟨ret_int (by rw [cmpI_gt (unhide HV)]), Below.refl _ _⟩

end Go.Proofs.YthgdmppmjnmiiaaGreatDoor.Nm

/- The document's numbers as whole numbers: without noughts at the top, opposites, signs. -/
namespace Go.Proofs.YthgdmppmjnmiiaaGreatDoor.Nm
open Go.RowKit

theorem Ns.take {w : World} {a : Option Addr} {n cap : Nat} {xs : List Int} (h : Ns w (.slice a n cap) xs) {k : Nat} (hk : k ≤ xs.length) : Ns w (.slice a k cap) (xs.take k) := by
  obtain ⟨a', cap', e, hc, hr⟩ := h
  simp only [Value.slice.injEq] at e
  obtain ⟨rfl, rfl, rfl⟩ := e
  have hlen : (xs.take k).length = k := by simp; omega
  refine ⟨a, cap, by rw [hlen], by omega, fun hne => ?_⟩
  obtain ⟨b, off, ea, hlt, hcell⟩ := hr (by intro e; subst e; exact hne (by simp))
  refine ⟨b, off, ea, hlt, fun j hj => ?_⟩
  rw [hlen] at hj
  rw [hcell j (by omega), List.getElem?_take, if_pos hj]
theorem Ns.len {w : World} {a : Option Addr} {l c : Nat} {xs : List Int} (h : Ns w (.slice a l c) xs) : l = xs.length := by
  obtain ⟨_, _, e, _, _⟩ := h
  simp only [Value.slice.injEq] at e
  exact e.2.1

/-- The Go value v of the document's type N is the number z. -/
def IsN (w : World) (v : Value) (z : Int) : Prop := ∃ a l c xs, v = .agg #[.bool (decide (z < 0)), .slice a l c] ∧ Ns w (.slice a l c) xs ∧ T4.Dig xs ∧ T4.Norm xs ∧ T4.val xs = z.natAbs
theorem IsN.below {w w' : World} {v : Value} {z : Int} (h : IsN w v z) (hb : Below w.heap.size w w') : IsN w' v z := by
  obtain ⟨a, l, c, xs, e, h1, h2, h3, h4⟩ := h
  exact ⟨a, l, c, xs, e, h1.below hb, h2, h3, h4⟩
theorem IsN.form {w : World} {v : Value} {z : Int} (h : IsN w v z) : ∃ b a l c, v = .agg #[.bool b, .slice a l c] := by
  obtain ⟨a, l, c, xs, e, _⟩ := h
  exact ⟨_, _, _, _, e⟩

theorem trim_spec {xs : List Int} (hd : T4.Dig xs) (k : Nat) (hk : k ≤ xs.length) (hz : ∀ j, k ≤ j → j < xs.length → xs[j]?.getD 0 = 0) (ht : 0 < k → xs[k - 1]?.getD 0 ≠ 0) : T4.Dig (xs.take k) ∧ T4.Norm (xs.take k) ∧ T4.val (xs.take k) = T4.val xs :=
  ⟨hd.take k, T4.Norm.take hk ht, T4.val_take_of_zero xs k hz⟩
theorem val_pos_of {xs : List Int} (hd : T4.Dig xs) (k : Nat) (hk : k ≤ xs.length) (hk0 : 0 < k) (ht : xs[k - 1]?.getD 0 ≠ 0) : 0 < T4.val xs := by
  have h1 := T4.val_append (xs.take (k - 1)) (xs.drop (k - 1))
  rw [List.take_append_drop] at h1
  have h2 := T4.val_nonneg (hd.take (k - 1))
  have e : xs.drop (k - 1) = (xs[k - 1]?.getD 0) :: xs.drop k := by
    have h9 : k - 1 < xs.length := by omega
    rw [List.drop_eq_getElem_cons h9, List.getElem?_eq_getElem h9, show k - 1 + 1 = k by omega]
    rfl
  rw [e] at h1
  simp only [T4.val] at h1
  have h3 := T4.val_nonneg (hd.drop k)
  have h4 := hd.at (k - 1)
  have h5 := T4.pw_pos (xs.take (k - 1)).length
  have h6 : 0 < T4.pw (xs.take (k - 1)).length * (xs[k - 1]?.getD 0 + 10000 * T4.val (xs.drop k)) := Int.mul_pos h5 (by omega)
  omega

set_option maxRecDepth 100000 in
set_option maxHeartbeats 800000 in
theorem trimN_is (neg : Bool) (v : Value) (xs : List Int) (w : World) (hm : Ns w v xs) (hd : T4.Dig xs) (hl : xs.length ≤ 100000) :
    Calls Tryz.prog 36 #[.bool neg, v] w fun e w' => ∃ r, e = .returned r ∧ Below w.heap.size w w' ∧ IsN w' r (if neg then -T4.val xs else T4.val xs) := by
  have hm' := hm
  obtain ⟨a, cap, rfl, hcap, hat⟩ := hm
  have hbw : Below w.heap.size w (w.alloc (.cells #[.bool false, .slice none 0 0] 58)) := (Below.refl _ w).alloc (Nat.le_refl _) _
  have hv0 := T4.val_nonneg hd
  have fin : ∀ (k : Nat) (b0 : Bool) (W : World), Below w.heap.size w W → k ≤ xs.length → (∀ j, k ≤ j → j < xs.length → xs[j]?.getD 0 = 0) → (0 < k → xs[k - 1]?.getD 0 ≠ 0) → b0 = (neg && decide (0 < k)) → IsN W (.agg #[.bool b0, .slice a k cap]) (if neg then -T4.val xs else T4.val xs) := by
    intro k b0 W hB hk hz ht hb0
    obtain ⟨h1, h2, h3⟩ := trim_spec hd k hk hz ht
    refine ⟨a, k, cap, xs.take k, ?_, (hm'.take hk).below hB, h1, h2, ?_⟩
    · congr 3
      rw [hb0]
      congr 1
      cases neg with
      | false => simp; omega
      | true =>
        by_cases hk0 : 0 < k
        · have := val_pos_of hd k hk hk0 (ht hk0)
          simp [hk0]; omega
        · have : k = 0 := by omega
          subst this
          have h4 : T4.val xs = 0 := by rw [← h3]; simp [T4.val]
          simp [h4]
    · rw [h3]; cases neg <;> simp <;> omega
  have HF := hide fin
  clear fin
  go_enter Tryz.func36, Tryz.ntmps36
  go_wp2
  go_loop [1] (fun sv => ∃ k : Nat, k ≤ xs.length ∧ sv = .slice a k cap ∧ ∀ j, k ≤ j → j < xs.length → xs[j]?.getD 0 = 0) (fun sv => lenOf sv)
  case atStart => exact ⟨xs.length, Nat.le_refl _, rfl, fun j h1 h2 => by omega⟩
  case round =>
    obtain ⟨k, hk, rfl, hz⟩ := hrel
    have hcap' : k ≤ cap := by omega
    have HZ := hide hz
    clear hz
    by_cases hk0 : 0 < k
    · obtain ⟨b, off, rfl, hb, hc⟩ := hat (by intro e; subst e; simp at hk; omega)
      have hck := hc (k - 1) (by omega)
      have hin : (k : Int) - 1 = ((k - 1 : Nat) : Int) := by omega
      obtain ⟨d, hdd⟩ : ∃ d, xs[k - 1]?.getD 0 = d := ⟨_, rfl⟩
      rw [hdd] at hck
      have HD := hide hdd
      clear hc hat hdd
      by_cases hv : d = 0
      · have hv' : (d == 0) = true := by simp [hv]
        have HV := hide hv
        clear hv
        go_wp2
        refine ⟨⟨k - 1, by omega, rfl, fun j h1 h2 => ?_⟩, by simp [lenOf]; omega⟩
        by_cases e : j = k - 1
        · rw [e, unhide HD, unhide HV]
        · exact unhide HZ j (by omega) h2
      · have hv' : (d == 0) = false := by simp [hv]
        have HV := hide hv
        clear hv
        have HR := hide (fun (b0 : Bool) (W : World) (hB : Below w.heap.size w W) => unhide HF k b0 W hB hk (unhide HZ) (fun _ => by rw [unhide HD]; exact unhide HV))
        clear HF
        cases neg with
        | true =>
          go_wp2
          exact bodyPost_ret (v := .agg #[.bool true, .slice (some ⟨b, off, none⟩) k cap]) (by simp [results, Tryz.results36, go_sem]) rfl ⟨_, rfl, (Below.refl _ w).alloc (Nat.le_refl _) _, unhide HR true _ ((Below.refl _ w).alloc (Nat.le_refl _) _) (by simp [hk0])⟩
        | false =>
          go_wp2
          exact bodyPost_ret (v := .agg #[.bool false, .slice (some ⟨b, off, none⟩) k cap]) (by simp [results, Tryz.results36, go_sem]) rfl ⟨_, rfl, (Below.refl _ w).alloc (Nat.le_refl _) _, unhide HR false _ ((Below.refl _ w).alloc (Nat.le_refl _) _) (by simp)⟩
    · obtain rfl : k = 0 := by omega
      have HR := hide (fun (b0 : Bool) (W : World) (hB : Below w.heap.size w W) => unhide HF 0 b0 W hB hk (unhide HZ) (fun h => absurd h (by omega)))
      clear hat HF
      cases neg
      all_goals go_wp2
      all_goals exact bodyPost_ret (v := .agg #[.bool false, .slice a 0 cap]) (by simp [results, Tryz.results36, go_sem]) rfl ⟨_, rfl, (Below.refl _ w).alloc (Nat.le_refl _) _, unhide HR false _ ((Below.refl _ w).alloc (Nat.le_refl _) _) (by simp)⟩

/-- How many digits a number has. -/
theorem IsN.small {w : World} {v : Value} {z : Int} (h : IsN w v z) {k : Nat} (hz : (z.natAbs : Int) < T4.pw k) : ∃ a l c xs, v = .agg #[.bool (decide (z < 0)), .slice a l c] ∧ Ns w (.slice a l c) xs ∧ T4.Dig xs ∧ T4.Norm xs ∧ T4.val xs = z.natAbs ∧ xs.length ≤ k := by
  obtain ⟨a, l, c, xs, e, h1, h2, h3, h4⟩ := h
  exact ⟨a, l, c, xs, e, h1, h2, h3, h4, T4.len_le h2 h3 (by omega)⟩
theorem val_zero_iff {xs : List Int} (hd : T4.Dig xs) (hn : T4.Norm xs) : T4.val xs = 0 ↔ xs.length = 0 := by
  constructor
  · intro h
    rcases Nat.eq_zero_or_pos xs.length with h0 | h0
    · exact h0
    · have h1 := T4.le_val hd hn (by intro e; subst e; simp at h0)
      have h2 := T4.pw_pos (xs.length - 1)
      omega
  · intro h
    rw [List.eq_nil_of_length_eq_zero h]; rfl

set_option maxRecDepth 100000 in
set_option maxHeartbeats 800000 in
theorem signN_any (v : Value) (z : Int) (w : World) (h : IsN w v z) :
    Calls Tryz.prog 19 #[v] w fun e w' => e = .returned (.int .i64 (sgn z)) ∧ Below w.heap.size w w' := by
  obtain ⟨a, l, c, xs, rfl, h1, h2, h3, h4⟩ := h
  have hl := h1.len
  have hz := val_zero_iff h2 h3
  have bX := NB.new w (decide (z < 0)) a l c
  obtain ⟨k0, k1, f0, f1⟩ := bX.facts
  have hbw : Below w.heap.size w (w.alloc (.cells #[.bool (decide (z < 0)), .slice a l c] 58)) := (Below.refl _ w).alloc (Nat.le_refl _) _
  by_cases hl0 : l = 0
  · have hc : ((l : Int) == 0) = true := by simp [hl0]
    have HZ := hide (show z = 0 by omega)
    clear hl hz h4 hl0 bX h1 h2 h3
    go_enter Tryz.func19, Tryz.ntmps19
    go_wp2
    go_ret
    exact ⟨ret_int (by rw [unhide HZ]; rfl), hbw⟩
  · have hc : ((l : Int) == 0) = false := by simp [hl0]
    have HZ := hide (show z ≠ 0 by omega)
    clear hl hz h4 hl0 bX h1 h2 h3
    by_cases hn : z < 0
    · have hn' : decide (z < 0) = true := by simp [hn]
      go_enter Tryz.func19, Tryz.ntmps19
      go_wp2
      go_ret
      exact ⟨ret_int (by unfold sgn; rw [if_pos (by omega)]), (Below.refl _ w).alloc (Nat.le_refl _) _⟩
    · have hn' : decide (z < 0) = false := by simp; omega
      go_enter Tryz.func19, Tryz.ntmps19
      go_wp2
      go_ret
      exact ⟨ret_int (by have := unhide HZ; unfold sgn; rw [if_neg (by omega), if_pos (by omega)]), (Below.refl _ w).alloc (Nat.le_refl _) _⟩

theorem IsN.neg {w : World} {a : Option Addr} {l c : Nat} {xs : List Int} {z : Int} {b : Bool} (h1 : Ns w (.slice a l c) xs) (h2 : T4.Dig xs) (h3 : T4.Norm xs) (h4 : T4.val xs = z.natAbs) (hb : b = decide (0 < z)) : IsN w (.agg #[.bool b, .slice a l c]) (-z) := by
  refine ⟨a, l, c, xs, ?_, h1, h2, h3, by rw [h4]; omega⟩
  rw [hb]
  congr 3
  congr 1
  simp

end Go.Proofs.YthgdmppmjnmiiaaGreatDoor.Nm

/- The document's numbers: sums. -/
namespace Go.Proofs.YthgdmppmjnmiiaaGreatDoor.Nm
open Go Go.RowKit

theorem fieldN0 {w : World} {r : Nat} : (Instr.fieldAt 58 (.pointer (some ⟨r, 0, none⟩)) 0).run Tryz.prog w = .ok (.pointer (some ⟨r, 0, none⟩)) w := by go_simp
theorem fieldN1 {w : World} {r : Nat} : (Instr.fieldAt 58 (.pointer (some ⟨r, 0, none⟩)) 1).run Tryz.prog w = .ok (.pointer (some ⟨r, 1, none⟩)) w := by go_simp
theorem load_boolN {w : World} {r o : Nat} {v : Value} (h : w.cell? ⟨r, o, none⟩ = some v) : (Instr.loadAt 4 (.pointer (some ⟨r, o, none⟩))).run Tryz.prog w = .ok v w := by go_simp
theorem load_intsN {w : World} {r o : Nat} {v : Value} (h : w.cell? ⟨r, o, none⟩ = some v) : (Instr.loadAt 56 (.pointer (some ⟨r, o, none⟩))).run Tryz.prog w = .ok v w := by go_simp
theorem storeN {w : World} {r : Nat} {u0 u1 : Value} {b : Bool} {a : Option Addr} {l c : Nat} (k0 : w.cell? ⟨r, 0, none⟩ = some u0) (k1 : w.cell? ⟨r, 1, none⟩ = some u1) (f0 : w.frozen? ⟨r, 0, none⟩ = false) (f1 : w.frozen? ⟨r, 1, none⟩ = false) :
    (Instr.storeAt 58 (.pointer (some ⟨r, 0, none⟩)) (.agg #[.bool b, .slice a l c])).run Tryz.prog w = .ok () ((w.setCell ⟨r, 0, none⟩ (.bool b)).setCell ⟨r, 1, none⟩ (.slice a l c)) := by go_simp
theorem NB.facts0 {W : World} {R : Nat} {v : Value} (h : NB W R v) : ∃ u0 u1, W.cell? ⟨R, 0, none⟩ = some u0 ∧ W.cell? ⟨R, 1, none⟩ = some u1 ∧ W.frozen? ⟨R, 0, none⟩ = false ∧ W.frozen? ⟨R, 1, none⟩ = false := by
  obtain ⟨b, a, l, c, rfl, _⟩ := id h
  obtain ⟨k0, k1, f0, f1⟩ := h.facts
  exact ⟨_, _, k0, k1, f0, f1⟩
theorem Ns.putN {W : World} {v u : Value} {xs : List Int} (h : Ns W v xs) {R : Nat} (hR : NB W R u) (c0 c1 : Value) : Ns ((W.setCell ⟨R, 0, none⟩ c0).setCell ⟨R, 1, none⟩ c1) v xs := by
  obtain ⟨n, a', l', c', _, hR⟩ := hR
  obtain ⟨a, cap, rfl, hc, hr⟩ := h
  refine ⟨a, cap, rfl, hc, fun hne => ?_⟩
  obtain ⟨b, off, e, hb, hcell⟩ := hr hne
  have hbR : b ≠ R := by
    rintro rfl
    have h0 := hcell 0 (List.length_pos_iff.2 hne)
    simp only [World.cell?, hR, Nat.add_zero, Option.isSome_none, Bool.false_eq_true, if_false] at h0
    match off, h0 with
    | 0, h0 => simp at h0
    | 1, h0 => simp at h0
    | k + 2, h0 => simp at h0
  refine ⟨b, off, e, by simpa using hb, fun j hj => ?_⟩
  rw [World.cell?_setCell_other _ _ _ _ (by intro e; injection e with e1; exact hbR e1.symm), World.cell?_setCell_other _ _ _ _ (by intro e; injection e with e1; exact hbR e1.symm)]
  exact hcell j hj
theorem IsN.putN {W : World} {v u : Value} {z : Int} (h : IsN W v z) {R : Nat} (hR : NB W R u) (c0 c1 : Value) : IsN ((W.setCell ⟨R, 0, none⟩ c0).setCell ⟨R, 1, none⟩ c1) v z := by
  obtain ⟨a, l, c, xs, e, h1, h2, h3, h4⟩ := h
  exact ⟨a, l, c, xs, e, h1.putN hR c0 c1, h2, h3, h4⟩
theorem enter_trimN : Enters Tryz.prog 36 := ⟨fun xs w => by go_simp⟩
theorem enter_plusN : Enters Tryz.prog 37 := ⟨fun xs w => by go_simp⟩
theorem enter_minusN : Enters Tryz.prog 39 := ⟨fun xs w => by go_simp⟩

set_option maxRecDepth 100000 in
theorem addN_r2 {Q : Exit → Act → World → Prop} {a0 : Act} {w0 : World} (B rn rx ry rr : Nat) (bn : Bool) (sx sy : Value) (V : Int) (hN : a0.tmps.size = 40)
    (hn : a0.tmps[2]? = some (.pointer (some ⟨rn, 0, none⟩))) (hx : a0.tmps[2]? = some (.pointer (some ⟨rx, 0, none⟩))) (hy : a0.tmps[3]? = some (.pointer (some ⟨ry, 0, none⟩))) (hr : a0.tmps[4]? = some (.pointer (some ⟨rr, 0, none⟩)))
    (kn : w0.cell? ⟨rn, 0, none⟩ = some (.bool bn)) (kx : w0.cell? ⟨rx, 1, none⟩ = some sx) (ky : w0.cell? ⟨ry, 1, none⟩ = some sy) (ln : rn < w0.heap.size) (lx : rx < w0.heap.size) (ly : ry < w0.heap.size) (hB : B ≤ rr) (u : Value) (hbox : NB w0 rr u)
    (hF : ∀ w, Below w0.heap.size w0 w → Calls Tryz.prog 37 #[sx, sy] w fun e w' => ∃ v zs, e = .returned v ∧ Below w.heap.size w w' ∧ Ns w' v zs ∧ T4.Dig zs ∧ T4.val zs = V ∧ zs.length ≤ 100000)
    (hQ : ∀ (a : Act) (w : World) (r : Value), a.defers = a0.defers → a.tmps[4]? = some (.pointer (some ⟨rr, 0, none⟩)) → NB w rr r → IsN w r (if bn then -V else V) → Below B w0 w → Q .normal a w) :
    (Code.region 2 (regionOf Tryz.f22 2).toArray true).wp Tryz.prog Q a0 w0 := by
  refine wp_region_any (by kernel_rfl) ?_
  refine coll2_any 7 40 ((List.range 40).filter fun k => ![10, 11, 12, 13, 14, 15, 16, 17].contains k) (fun i w v => match i with
      | 0 => v = .pointer (some ⟨rn, 0, none⟩) | 1 => v = .bool bn | 2 => v = .pointer (some ⟨rx, 1, none⟩) | 3 => v = sx | 4 => v = .pointer (some ⟨ry, 1, none⟩) | 5 => v = sy
      | 6 => ∃ zs, Ns w v zs ∧ T4.Dig zs ∧ T4.val zs = V ∧ zs.length ≤ 100000 | _ => True)
    (fun w => Below w0.heap.size w0 w)
    (fun v w => Below w0.heap.size w0 w ∧ IsN w v (if bn then -V else V))
    (fun v w => NB w rr v ∧ IsN w v (if bn then -V else V) ∧ Below B w0 w)
    (by kernel_rfl) (by kernel_rfl) hN (Below.refl _ w0).drew ?_ ?_ ?_ ?_ ?_
  · intro i w w' v h hb
    match i, h with
    | 0, h => exact h
    | 1, h => exact h
    | 2, h => exact h
    | 3, h => exact h
    | 4, h => exact h
    | 5, h => exact h
    | 6, ⟨zs, h1, h2, h3, h4⟩ => exact ⟨zs, h1.below hb, h2, h3, h4⟩
    | _ + 7, _ => trivial
  · intro i hi a w hk hp hA
    match i, hi with
    | 0, _ => exact op_fieldAddr (eval_kept (hk 2 (by decide)) hn) fieldN0 ⟨_, rfl, Below.refl _ _, rfl, hA⟩
    | 1, _ =>
      have p : a.tmps.getD 10 undef = .pointer (some ⟨rn, 0, none⟩) := hp 0 rfl
      exact op_load (a := a) p (load_boolN ((hA.cell (p := ⟨rn, 0, none⟩) ln).trans kn)) ⟨_, rfl, Below.refl _ _, rfl, hA⟩
    | 2, _ => exact op_fieldAddr (eval_kept (hk 2 (by decide)) hx) fieldN1 ⟨_, rfl, Below.refl _ _, rfl, hA⟩
    | 3, _ =>
      have p : a.tmps.getD 12 undef = .pointer (some ⟨rx, 1, none⟩) := hp 2 rfl
      exact op_load (a := a) p (load_intsN ((hA.cell (p := ⟨rx, 1, none⟩) lx).trans kx)) ⟨_, rfl, Below.refl _ _, rfl, hA⟩
    | 4, _ => exact op_fieldAddr (eval_kept (hk 3 (by decide)) hy) fieldN1 ⟨_, rfl, Below.refl _ _, rfl, hA⟩
    | 5, _ =>
      have p : a.tmps.getD 14 undef = .pointer (some ⟨ry, 1, none⟩) := hp 4 rfl
      exact op_load (a := a) p (load_intsN ((hA.cell (p := ⟨ry, 1, none⟩) ly).trans ky)) ⟨_, rfl, Below.refl _ _, rfl, hA⟩
    | 6, _ =>
      have p0 : a.tmps.getD 13 undef = sx := hp 3 rfl
      have p1 : a.tmps.getD 15 undef = sy := hp 5 rfl
      refine op_call enter_plusN ?_
      rw [args2, p0, p1]
      refine Calls.mono (hF w hA) ?_
      rintro e w' ⟨v, zs, rfl, hb, h1, h2, h3, h4⟩
      exact ⟨_, rfl, _, rfl, hb, ⟨zs, h1, h2, h3, h4⟩, hA.trans (hb.mono hA.size)⟩
  · intro a w hk hp hA
    have p0 : a.tmps.getD 11 undef = .bool bn := hp 1 rfl
    obtain ⟨zs, h1, h2, h3, h4⟩ : ∃ zs, Ns w (a.tmps.getD 16 undef) zs ∧ T4.Dig zs ∧ T4.val zs = V ∧ zs.length ≤ 100000 := hp 6 rfl
    refine op_call enter_trimN ?_
    rw [args2, p0]
    refine Calls.mono (trimN_is bn _ zs w h1 h2 h4) ?_
    rintro e w' ⟨r, rfl, hb, hi⟩
    rw [h3] at hi
    exact ⟨_, rfl, _, rfl, hA.trans (hb.mono hA.size), hi⟩
  · rintro a w hk ⟨hA, hi⟩
    obtain ⟨b1, a1, l1, c1, e7⟩ := hi.form
    rw [e7] at hi
    have e7' : a.tmps.getD 17 undef = .agg #[.bool b1, .slice a1 l1 c1] := e7
    have hbx := hbox.below hA
    obtain ⟨_, _, k0, k1, f0, f1⟩ := NB.facts0 hbx
    refine op_store (a := a) (eval_kept (hk 4 (by decide)) hr) e7' (storeN k0 k1 f0 f1) ⟨rfl, ?_⟩
    rw [e7]
    exact ⟨hbx.set b1 a1 l1 c1, hi.putN hbx _ _, below_put (hA.mono (Nat.le_trans hB (Nat.le_of_lt hbox.lt))) hB _ _⟩
  · rintro a w hd _ hk ⟨h1, h2, h3⟩
    exact hQ a w _ hd ((hk 4 (by decide)).trans hr) h1 h2 h3

set_option maxRecDepth 100000 in
theorem addN_r4 {Q : Exit → Act → World → Prop} {a0 : Act} {w0 : World} (B rn rx ry rr : Nat) (bn : Bool) (sx sy : Value) (V : Int) (hN : a0.tmps.size = 40)
    (hn : a0.tmps[2]? = some (.pointer (some ⟨rn, 0, none⟩))) (hx : a0.tmps[2]? = some (.pointer (some ⟨rx, 0, none⟩))) (hy : a0.tmps[3]? = some (.pointer (some ⟨ry, 0, none⟩))) (hr : a0.tmps[4]? = some (.pointer (some ⟨rr, 0, none⟩)))
    (kn : w0.cell? ⟨rn, 0, none⟩ = some (.bool bn)) (kx : w0.cell? ⟨rx, 1, none⟩ = some sx) (ky : w0.cell? ⟨ry, 1, none⟩ = some sy) (ln : rn < w0.heap.size) (lx : rx < w0.heap.size) (ly : ry < w0.heap.size) (hB : B ≤ rr) (u : Value) (hbox : NB w0 rr u)
    (hF : ∀ w, Below w0.heap.size w0 w → Calls Tryz.prog 39 #[sx, sy] w fun e w' => ∃ v zs, e = .returned v ∧ Below w.heap.size w w' ∧ Ns w' v zs ∧ T4.Dig zs ∧ T4.val zs = V ∧ zs.length ≤ 100000)
    (hQ : ∀ (a : Act) (w : World) (r : Value), a.defers = a0.defers → a.tmps[4]? = some (.pointer (some ⟨rr, 0, none⟩)) → NB w rr r → IsN w r (if bn then -V else V) → Below B w0 w → Q .normal a w) :
    (Code.region 4 (regionOf Tryz.f22 4).toArray true).wp Tryz.prog Q a0 w0 := by
  refine wp_region_any (by kernel_rfl) ?_
  refine coll2_any 7 40 ((List.range 40).filter fun k => ![24, 25, 26, 27, 28, 29, 30, 31].contains k) (fun i w v => match i with
      | 0 => v = .pointer (some ⟨rn, 0, none⟩) | 1 => v = .bool bn | 2 => v = .pointer (some ⟨rx, 1, none⟩) | 3 => v = sx | 4 => v = .pointer (some ⟨ry, 1, none⟩) | 5 => v = sy
      | 6 => ∃ zs, Ns w v zs ∧ T4.Dig zs ∧ T4.val zs = V ∧ zs.length ≤ 100000 | _ => True)
    (fun w => Below w0.heap.size w0 w)
    (fun v w => Below w0.heap.size w0 w ∧ IsN w v (if bn then -V else V))
    (fun v w => NB w rr v ∧ IsN w v (if bn then -V else V) ∧ Below B w0 w)
    (by kernel_rfl) (by kernel_rfl) hN (Below.refl _ w0).drew ?_ ?_ ?_ ?_ ?_
  · intro i w w' v h hb
    match i, h with
    | 0, h => exact h
    | 1, h => exact h
    | 2, h => exact h
    | 3, h => exact h
    | 4, h => exact h
    | 5, h => exact h
    | 6, ⟨zs, h1, h2, h3, h4⟩ => exact ⟨zs, h1.below hb, h2, h3, h4⟩
    | _ + 7, _ => trivial
  · intro i hi a w hk hp hA
    match i, hi with
    | 0, _ => exact op_fieldAddr (eval_kept (hk 2 (by decide)) hn) fieldN0 ⟨_, rfl, Below.refl _ _, rfl, hA⟩
    | 1, _ =>
      have p : a.tmps.getD 24 undef = .pointer (some ⟨rn, 0, none⟩) := hp 0 rfl
      exact op_load (a := a) p (load_boolN ((hA.cell (p := ⟨rn, 0, none⟩) ln).trans kn)) ⟨_, rfl, Below.refl _ _, rfl, hA⟩
    | 2, _ => exact op_fieldAddr (eval_kept (hk 2 (by decide)) hx) fieldN1 ⟨_, rfl, Below.refl _ _, rfl, hA⟩
    | 3, _ =>
      have p : a.tmps.getD 26 undef = .pointer (some ⟨rx, 1, none⟩) := hp 2 rfl
      exact op_load (a := a) p (load_intsN ((hA.cell (p := ⟨rx, 1, none⟩) lx).trans kx)) ⟨_, rfl, Below.refl _ _, rfl, hA⟩
    | 4, _ => exact op_fieldAddr (eval_kept (hk 3 (by decide)) hy) fieldN1 ⟨_, rfl, Below.refl _ _, rfl, hA⟩
    | 5, _ =>
      have p : a.tmps.getD 28 undef = .pointer (some ⟨ry, 1, none⟩) := hp 4 rfl
      exact op_load (a := a) p (load_intsN ((hA.cell (p := ⟨ry, 1, none⟩) ly).trans ky)) ⟨_, rfl, Below.refl _ _, rfl, hA⟩
    | 6, _ =>
      have p0 : a.tmps.getD 27 undef = sx := hp 3 rfl
      have p1 : a.tmps.getD 29 undef = sy := hp 5 rfl
      refine op_call enter_minusN ?_
      rw [args2, p0, p1]
      refine Calls.mono (hF w hA) ?_
      rintro e w' ⟨v, zs, rfl, hb, h1, h2, h3, h4⟩
      exact ⟨_, rfl, _, rfl, hb, ⟨zs, h1, h2, h3, h4⟩, hA.trans (hb.mono hA.size)⟩
  · intro a w hk hp hA
    have p0 : a.tmps.getD 25 undef = .bool bn := hp 1 rfl
    obtain ⟨zs, h1, h2, h3, h4⟩ : ∃ zs, Ns w (a.tmps.getD 30 undef) zs ∧ T4.Dig zs ∧ T4.val zs = V ∧ zs.length ≤ 100000 := hp 6 rfl
    refine op_call enter_trimN ?_
    rw [args2, p0]
    refine Calls.mono (trimN_is bn _ zs w h1 h2 h4) ?_
    rintro e w' ⟨r, rfl, hb, hi⟩
    rw [h3] at hi
    exact ⟨_, rfl, _, rfl, hA.trans (hb.mono hA.size), hi⟩
  · rintro a w hk ⟨hA, hi⟩
    obtain ⟨b1, a1, l1, c1, e7⟩ := hi.form
    rw [e7] at hi
    have e7' : a.tmps.getD 31 undef = .agg #[.bool b1, .slice a1 l1 c1] := e7
    have hbx := hbox.below hA
    obtain ⟨_, _, k0, k1, f0, f1⟩ := NB.facts0 hbx
    refine op_store (a := a) (eval_kept (hk 4 (by decide)) hr) e7' (storeN k0 k1 f0 f1) ⟨rfl, ?_⟩
    rw [e7]
    exact ⟨hbx.set b1 a1 l1 c1, hi.putN hbx _ _, below_put (hA.mono (Nat.le_trans hB (Nat.le_of_lt hbox.lt))) hB _ _⟩
  · rintro a w hd _ hk ⟨h1, h2, h3⟩
    exact hQ a w _ hd ((hk 4 (by decide)).trans hr) h1 h2 h3

set_option maxRecDepth 100000 in
theorem addN_r5 {Q : Exit → Act → World → Prop} {a0 : Act} {w0 : World} (B rn rx ry rr : Nat) (bn : Bool) (sx sy : Value) (V : Int) (hN : a0.tmps.size = 40)
    (hn : a0.tmps[3]? = some (.pointer (some ⟨rn, 0, none⟩))) (hx : a0.tmps[3]? = some (.pointer (some ⟨rx, 0, none⟩))) (hy : a0.tmps[2]? = some (.pointer (some ⟨ry, 0, none⟩))) (hr : a0.tmps[4]? = some (.pointer (some ⟨rr, 0, none⟩)))
    (kn : w0.cell? ⟨rn, 0, none⟩ = some (.bool bn)) (kx : w0.cell? ⟨rx, 1, none⟩ = some sx) (ky : w0.cell? ⟨ry, 1, none⟩ = some sy) (ln : rn < w0.heap.size) (lx : rx < w0.heap.size) (ly : ry < w0.heap.size) (hB : B ≤ rr) (u : Value) (hbox : NB w0 rr u)
    (hF : ∀ w, Below w0.heap.size w0 w → Calls Tryz.prog 39 #[sx, sy] w fun e w' => ∃ v zs, e = .returned v ∧ Below w.heap.size w w' ∧ Ns w' v zs ∧ T4.Dig zs ∧ T4.val zs = V ∧ zs.length ≤ 100000)
    (hQ : ∀ (a : Act) (w : World) (r : Value), a.defers = a0.defers → a.tmps[4]? = some (.pointer (some ⟨rr, 0, none⟩)) → NB w rr r → IsN w r (if bn then -V else V) → Below B w0 w → Q .normal a w) :
    (Code.region 5 (regionOf Tryz.f22 5).toArray true).wp Tryz.prog Q a0 w0 := by
  refine wp_region_any (by kernel_rfl) ?_
  refine coll2_any 7 40 ((List.range 40).filter fun k => ![32, 33, 34, 35, 36, 37, 38, 39].contains k) (fun i w v => match i with
      | 0 => v = .pointer (some ⟨rn, 0, none⟩) | 1 => v = .bool bn | 2 => v = .pointer (some ⟨rx, 1, none⟩) | 3 => v = sx | 4 => v = .pointer (some ⟨ry, 1, none⟩) | 5 => v = sy
      | 6 => ∃ zs, Ns w v zs ∧ T4.Dig zs ∧ T4.val zs = V ∧ zs.length ≤ 100000 | _ => True)
    (fun w => Below w0.heap.size w0 w)
    (fun v w => Below w0.heap.size w0 w ∧ IsN w v (if bn then -V else V))
    (fun v w => NB w rr v ∧ IsN w v (if bn then -V else V) ∧ Below B w0 w)
    (by kernel_rfl) (by kernel_rfl) hN (Below.refl _ w0).drew ?_ ?_ ?_ ?_ ?_
  · intro i w w' v h hb
    match i, h with
    | 0, h => exact h
    | 1, h => exact h
    | 2, h => exact h
    | 3, h => exact h
    | 4, h => exact h
    | 5, h => exact h
    | 6, ⟨zs, h1, h2, h3, h4⟩ => exact ⟨zs, h1.below hb, h2, h3, h4⟩
    | _ + 7, _ => trivial
  · intro i hi a w hk hp hA
    match i, hi with
    | 0, _ => exact op_fieldAddr (eval_kept (hk 3 (by decide)) hn) fieldN0 ⟨_, rfl, Below.refl _ _, rfl, hA⟩
    | 1, _ =>
      have p : a.tmps.getD 32 undef = .pointer (some ⟨rn, 0, none⟩) := hp 0 rfl
      exact op_load (a := a) p (load_boolN ((hA.cell (p := ⟨rn, 0, none⟩) ln).trans kn)) ⟨_, rfl, Below.refl _ _, rfl, hA⟩
    | 2, _ => exact op_fieldAddr (eval_kept (hk 3 (by decide)) hx) fieldN1 ⟨_, rfl, Below.refl _ _, rfl, hA⟩
    | 3, _ =>
      have p : a.tmps.getD 34 undef = .pointer (some ⟨rx, 1, none⟩) := hp 2 rfl
      exact op_load (a := a) p (load_intsN ((hA.cell (p := ⟨rx, 1, none⟩) lx).trans kx)) ⟨_, rfl, Below.refl _ _, rfl, hA⟩
    | 4, _ => exact op_fieldAddr (eval_kept (hk 2 (by decide)) hy) fieldN1 ⟨_, rfl, Below.refl _ _, rfl, hA⟩
    | 5, _ =>
      have p : a.tmps.getD 36 undef = .pointer (some ⟨ry, 1, none⟩) := hp 4 rfl
      exact op_load (a := a) p (load_intsN ((hA.cell (p := ⟨ry, 1, none⟩) ly).trans ky)) ⟨_, rfl, Below.refl _ _, rfl, hA⟩
    | 6, _ =>
      have p0 : a.tmps.getD 35 undef = sx := hp 3 rfl
      have p1 : a.tmps.getD 37 undef = sy := hp 5 rfl
      refine op_call enter_minusN ?_
      rw [args2, p0, p1]
      refine Calls.mono (hF w hA) ?_
      rintro e w' ⟨v, zs, rfl, hb, h1, h2, h3, h4⟩
      exact ⟨_, rfl, _, rfl, hb, ⟨zs, h1, h2, h3, h4⟩, hA.trans (hb.mono hA.size)⟩
  · intro a w hk hp hA
    have p0 : a.tmps.getD 33 undef = .bool bn := hp 1 rfl
    obtain ⟨zs, h1, h2, h3, h4⟩ : ∃ zs, Ns w (a.tmps.getD 38 undef) zs ∧ T4.Dig zs ∧ T4.val zs = V ∧ zs.length ≤ 100000 := hp 6 rfl
    refine op_call enter_trimN ?_
    rw [args2, p0]
    refine Calls.mono (trimN_is bn _ zs w h1 h2 h4) ?_
    rintro e w' ⟨r, rfl, hb, hi⟩
    rw [h3] at hi
    exact ⟨_, rfl, _, rfl, hA.trans (hb.mono hA.size), hi⟩
  · rintro a w hk ⟨hA, hi⟩
    obtain ⟨b1, a1, l1, c1, e7⟩ := hi.form
    rw [e7] at hi
    have e7' : a.tmps.getD 39 undef = .agg #[.bool b1, .slice a1 l1 c1] := e7
    have hbx := hbox.below hA
    obtain ⟨_, _, k0, k1, f0, f1⟩ := NB.facts0 hbx
    refine op_store (a := a) (eval_kept (hk 4 (by decide)) hr) e7' (storeN k0 k1 f0 f1) ⟨rfl, ?_⟩
    rw [e7]
    exact ⟨hbx.set b1 a1 l1 c1, hi.putN hbx _ _, below_put (hA.mono (Nat.le_trans hB (Nat.le_of_lt hbox.lt))) hB _ _⟩
  · rintro a w hd _ hk ⟨h1, h2, h3⟩
    exact hQ a w _ hd ((hk 4 (by decide)).trans hr) h1 h2 h3

theorem res_N {W : World} {fn : Func} {a : Act} {t r : Nat} {v : Value} (hf : fn.results = #[.cell t 58]) (ht : a.tmps[t]? = some (.pointer (some ⟨r, 0, none⟩))) (hb : NB W r v) : (results fn a.tmps).run Tryz.prog W = .ok v W := by
  obtain ⟨b, aa, l, c, rfl, _⟩ := id hb
  obtain ⟨k0, k1, f0, f1⟩ := hb.facts
  simp [results, hf, ht, go_sem, k0, k1]

set_option maxRecDepth 100000 in
set_option maxHeartbeats 1600000 in
theorem addN_any (v1 v2 : Value) (z1 z2 : Int) (w : World) (h1 : IsN w v1 z1) (h2 : IsN w v2 z2) (b1 : (z1.natAbs : Int) < T4.pw 9000) (b2 : (z2.natAbs : Int) < T4.pw 9000) :
    Calls Tryz.prog 22 #[v1, v2] w fun e w' => ∃ r, e = .returned r ∧ Below w.heap.size w w' ∧ IsN w' r (z1 + z2) := by
  obtain ⟨a1, l1, c1, xs, rfl, n1, d1, m1, e1, q1⟩ := h1.small b1
  obtain ⟨a2, l2, c2, ys, rfl, n2, d2, m2, e2, q2⟩ := h2.small b2
  have x1 := ((NB.new w (decide (z1 < 0)) a1 l1 c1).alloc (.cells #[.bool (decide (z2 < 0)), .slice a2 l2 c2] 58)).alloc (.cells #[.bool false, .slice none 0 0] 58)
  have x2 := (NB.new (w.alloc (.cells #[.bool (decide (z1 < 0)), .slice a1 l1 c1] 58)) (decide (z2 < 0)) a2 l2 c2).alloc (.cells #[.bool false, .slice none 0 0] 58)
  have x3 := NB.new ((w.alloc (.cells #[.bool (decide (z1 < 0)), .slice a1 l1 c1] 58)).alloc (.cells #[.bool (decide (z2 < 0)), .slice a2 l2 c2] 58)) false none 0 0
  simp only [World.size_alloc] at x2 x3
  have hB : Below w.heap.size w (((w.alloc (.cells #[.bool (decide (z1 < 0)), .slice a1 l1 c1] 58)).alloc (.cells #[.bool (decide (z2 < 0)), .slice a2 l2 c2] 58)).alloc (.cells #[.bool false, .slice none 0 0] 58)) := (((Below.refl _ w).alloc (Nat.le_refl _) _).alloc (by simp) _).alloc (by simp; omega) _
  replace n1 := n1.below hB
  replace n2 := n2.below hB
  have HP := hide (fun (W : World) (hb : Below _ _ W) => plusN_any _ _ xs ys W (n1.below hb) (n2.below hb) d1 d2 (by omega) (by omega))
  have HM1 := hide (fun (W : World) (hb : Below _ _ W) (hle : T4.val ys ≤ T4.val xs) (hll : ys.length ≤ xs.length) => minusN_any _ _ xs ys W (n1.below hb) (n2.below hb) d1 d2 (by omega) hll hle)
  have HM2 := hide (fun (W : World) (hb : Below _ _ W) (hle : T4.val xs ≤ T4.val ys) (hll : xs.length ≤ ys.length) => minusN_any _ _ ys xs W (n2.below hb) (n1.below hb) d2 d1 (by omega) hll hle)
  have HL := hide (lessN_any _ _ xs ys _ n1 n2 d1 d2 m1 m2 (by omega) (by omega))
  have HLL := hide (fun (h : T4.val ys ≤ T4.val xs) => show ys.length ≤ xs.length from T4.len_le d2 m2 (Int.lt_of_le_of_lt h (T4.val_lt d1)))
  have HLL2 := hide (fun (h : T4.val xs ≤ T4.val ys) => show xs.length ≤ ys.length from T4.len_le d1 m1 (Int.lt_of_le_of_lt h (T4.val_lt d2)))
  have HE := hide (And.intro e1 (And.intro e2 (And.intro q1 q2)))
  obtain ⟨k10, k11, f10, f11⟩ := x1.facts
  obtain ⟨k20, k21, f20, f21⟩ := x2.facts
  have X1 := hide x1
  have X2 := hide x2
  have X3 := hide x3
  have HB := hide hB
  clear h1 h2 n1 n2 d1 d2 m1 m2 e1 e2 q1 q2 x1 x2 x3 hB b1 b2
  by_cases hs : decide (z1 < 0) = decide (z2 < 0)
  · have hs' : (decide (z1 < 0) == decide (z2 < 0)) = true := by simp [hs]
    have HS := hide hs
    clear hs
    go_enter Tryz.func22, Tryz.ntmps22
    go_wp2_with fail
    refine addN_r2 w.heap.size w.heap.size w.heap.size (w.heap.size + 1) (w.heap.size + 1 + 1) (decide (z1 < 0)) (.slice a1 l1 c1) (.slice a2 l2 c2) (T4.val xs + T4.val ys) rfl rfl rfl rfl rfl k10 k11 k21 (unhide X1).lt (unhide X1).lt (unhide X2).lt (by omega) _ (unhide X3) ?_ ?_
    · intro W hb
      refine Calls.mono (unhide HP W hb) ?_
      rintro e w' ⟨v, zs, rfl, g1, g2, g3, g4, g5⟩
      exact ⟨v, zs, rfl, g1, g2, g3, g4, by have := (unhide HE).2.2; omega⟩
    · intro a W r hd ht hbx hi hbl
      have HI := hide hi
      have hB9 := (unhide HB).trans hbl
      clear hi hbl k10 k11 f10 f11 k20 k21 f20 f21
      go_wp2
      refine bodyPost_ret (res_N rfl ht hbx) hd ⟨r, rfl, hB9, ?_⟩
      have h3 := unhide HI
      have h4 := (unhide HE).1
      have h5 := (unhide HE).2.1
      have h6 := unhide HS
      rw [h4, h5] at h3
      by_cases hn : z1 < 0
      · have hn2 : z2 < 0 := by simpa [hn] using h6
        simp only [hn, decide_true, if_true] at h3
        rwa [show -((z1.natAbs : Int) + (z2.natAbs : Int)) = z1 + z2 by omega] at h3
      · have hn2 : ¬ z2 < 0 := by simpa [hn] using h6
        simp only [hn, decide_false, Bool.false_eq_true, if_false] at h3
        rwa [show ((z1.natAbs : Int) + (z2.natAbs : Int)) = z1 + z2 by omega] at h3
  · have hs' : (decide (z1 < 0) == decide (z2 < 0)) = false := by simpa using hs
    have HS := hide hs
    clear hs
    go_enter Tryz.func22, Tryz.ntmps22
    go_wp2_with fail
    refine (unhide HL).mono ?_
    rintro e w1 ⟨rfl, hb1⟩
    have Y1 := hide ((unhide X1).below hb1)
    have Y2 := hide ((unhide X2).below hb1)
    have Y3 := hide ((unhide X3).below hb1)
    have HW1 := hide hb1
    clear k10 k11 f10 f11 k20 k21 f20 f21 hb1
    obtain ⟨k10, k11, f10, f11⟩ := (unhide Y1).facts
    obtain ⟨k20, k21, f20, f21⟩ := (unhide Y2).facts
    by_cases hv : T4.val ys ≤ T4.val xs
    · have hc : (0 : Int) ≤ cmpI (T4.val xs) (T4.val ys) := by
        unfold cmpI
        rw [if_neg (by omega)]
        split <;> omega
      have HV := hide hv
      clear hv
      go_wp2_with fail
      refine addN_r4 w.heap.size w.heap.size w.heap.size (w.heap.size + 1) (w.heap.size + 1 + 1) (decide (z1 < 0)) (.slice a1 l1 c1) (.slice a2 l2 c2) (T4.val xs - T4.val ys) rfl rfl rfl rfl rfl k10 k11 k21 (unhide Y1).lt (unhide Y1).lt (unhide Y2).lt (by omega) _ (unhide Y3) ?_ ?_
      · intro W hb
        refine Calls.mono (unhide HM1 W ((unhide HW1).trans (hb.mono (unhide HW1).size)) (unhide HV) (unhide HLL (unhide HV))) ?_
        rintro e w' ⟨v, zs, rfl, g1, g2, g3, g4, g5⟩
        exact ⟨v, zs, rfl, g1, g2, g3, g4, by have := (unhide HE).2.2; omega⟩
      · intro a W r hd ht hbx hi hbl
        have HI := hide hi
        have hB9 := ((unhide HB).trans ((unhide HW1).mono (unhide HB).size)).trans hbl
        clear hi hbl k10 k11 f10 f11 k20 k21 f20 f21 hc
        go_wp2
        refine bodyPost_ret (res_N rfl ht hbx) hd ⟨r, rfl, hB9, ?_⟩
        have h3 := unhide HI
        have h4 := (unhide HE).1
        have h5 := (unhide HE).2.1
        have h6 := unhide HS
        have h7 := unhide HV
        rw [h4, h5] at h3 h7
        by_cases hn : z1 < 0
        · have hn2 : ¬ z2 < 0 := by simpa [hn] using h6
          simp only [hn, decide_true, if_true] at h3
          rwa [show -((z1.natAbs : Int) - (z2.natAbs : Int)) = z1 + z2 by omega] at h3
        · have hn2 : z2 < 0 := by simpa [hn] using h6
          simp only [hn, decide_false, Bool.false_eq_true, if_false] at h3
          rwa [show ((z1.natAbs : Int) - (z2.natAbs : Int)) = z1 + z2 by omega] at h3
    · have hc : decide ((0 : Int) ≤ cmpI (T4.val xs) (T4.val ys)) = false := by unfold cmpI; rw [if_pos (by omega)]; rfl
      have HV := hide (show T4.val xs ≤ T4.val ys by omega)
      clear hv
      go_wp2_with fail
      refine addN_r5 w.heap.size (w.heap.size + 1) (w.heap.size + 1) w.heap.size (w.heap.size + 1 + 1) (decide (z2 < 0)) (.slice a2 l2 c2) (.slice a1 l1 c1) (T4.val ys - T4.val xs) rfl rfl rfl rfl rfl k20 k21 k11 (unhide Y2).lt (unhide Y2).lt (unhide Y1).lt (by omega) _ (unhide Y3) ?_ ?_
      · intro W hb
        refine Calls.mono (unhide HM2 W ((unhide HW1).trans (hb.mono (unhide HW1).size)) (unhide HV) (unhide HLL2 (unhide HV))) ?_
        rintro e w' ⟨v, zs, rfl, g1, g2, g3, g4, g5⟩
        exact ⟨v, zs, rfl, g1, g2, g3, g4, by have := (unhide HE).2.2; omega⟩
      · intro a W r hd ht hbx hi hbl
        have HI := hide hi
        have hB9 := ((unhide HB).trans ((unhide HW1).mono (unhide HB).size)).trans hbl
        clear hi hbl k10 k11 f10 f11 k20 k21 f20 f21 hc
        go_wp2
        refine bodyPost_ret (res_N rfl ht hbx) hd ⟨r, rfl, hB9, ?_⟩
        have h3 := unhide HI
        have h4 := (unhide HE).1
        have h5 := (unhide HE).2.1
        have h6 := unhide HS
        have h7 := unhide HV
        rw [h4, h5] at h3 h7
        by_cases hn : z1 < 0
        · have hn2 : ¬ z2 < 0 := by simpa [hn] using h6
          simp only [hn2, decide_false, Bool.false_eq_true, if_false] at h3
          rwa [show ((z2.natAbs : Int) - (z1.natAbs : Int)) = z1 + z2 by omega] at h3
        · have hn2 : z2 < 0 := by simpa [hn] using h6
          simp only [hn2, decide_true, if_true] at h3
          rwa [show -((z2.natAbs : Int) - (z1.natAbs : Int)) = z1 + z2 by omega] at h3

end Go.Proofs.YthgdmppmjnmiiaaGreatDoor.Nm

/- The document's numbers: differences, orders. -/
namespace Go.Proofs.YthgdmppmjnmiiaaGreatDoor.Nm
open Go Go.RowKit

end Go.Proofs.YthgdmppmjnmiiaaGreatDoor.Nm

/- The document's numbers: products. -/
namespace Go.Proofs.YthgdmppmjnmiiaaGreatDoor.Nm
open Go Go.RowKit

/-- The cells of block b from off on hold the ints xs. -/
def AtI (w : World) (b off : Nat) (xs : List Int) : Prop := ∀ j, j < xs.length → w.cell? ⟨b, off + j, none⟩ = some (.int .i64 (xs[j]?.getD 0))
theorem AtI.set0 {w : World} {b : Nat} {zs : List Int} {x : Int} {rs : List Int} (h : AtI w b 0 (zs ++ x :: rs)) {k : Nat} (hz : zs.length = k) (d : Int) : AtI (w.setCell ⟨b, k, none⟩ (.int .i64 d)) b 0 (zs ++ d :: rs) := by
  subst hz
  intro j hj
  by_cases e : j = zs.length
  · subst e
    have h0 := h zs.length (by simp)
    rw [Nat.zero_add] at h0 ⊢
    rw [World.cell?_setCell_same _ _ _ h0]
    simp
  · rw [World.cell?_setCell_other _ _ _ _ (by intro h'; injection h'; omega), h j (by simpa using hj)]
    congr 2
    by_cases hlt : j < zs.length
    · rw [List.getElem?_append_left hlt, List.getElem?_append_left hlt]
    · rw [List.getElem?_append_right (by omega), List.getElem?_append_right (by omega)]
      obtain ⟨m, hm⟩ : ∃ m, j - zs.length = m + 1 := ⟨j - zs.length - 1, by omega⟩
      rw [hm]
      rfl
theorem AtI.at0 {w : World} {b : Nat} {zs : List Int} {x : Int} {rs : List Int} (h : AtI w b 0 (zs ++ x :: rs)) {k : Nat} (hz : zs.length = k) : w.cell? ⟨b, k, none⟩ = some (.int .i64 x) := by
  subst hz
  have := h zs.length (by simp)
  simpa using this
theorem AtI.drewN {w : World} {b off : Nat} {xs : List Int} (h : AtI w b off xs) (q : Nat) : AtI (w.drewN q) b off xs := fun j hj => by
  rw [World.cell?_drewN]; exact h j hj
theorem AtI.ns {w : World} {b off cap : Nat} {xs : List Int} (h : AtI w b off xs) (hb : b < w.heap.size) (hc : xs.length ≤ cap) : Ns w (.slice (some ⟨b, off, none⟩) xs.length cap) xs :=
  ⟨_, cap, rfl, hc, fun _ => ⟨b, off, rfl, hb, h⟩⟩

theorem mulN_step (H Y ns : List Int) (j : Nat) (x c h y : Int) (hz : ns.length = j) (hh : H[j]?.getD 0 = h) (hy : Y[j]?.getD 0 = y) (hv : T4.val ns + T4.pw j * c = T4.val (H.take j) + x * T4.val (Y.take j)) :
    ∀ d c' : Int, h + c + x * y = d + 10000 * c' → T4.val (ns ++ [d]) + T4.pw (j + 1) * c' = T4.val (H.take (j + 1)) + x * T4.val (Y.take (j + 1)) := by
  intro d c' e
  rw [T4.val_snoc, hz, T4.val_take_succ', T4.val_take_succ', hh, hy]
  simp only [T4.pw]
  have e2 : T4.pw j * h + T4.pw j * c + T4.pw j * (x * y) = T4.pw j * d + T4.pw j * (10000 * c') := by rw [← Int.mul_add, ← Int.mul_add, ← Int.mul_add, e]
  have e3 : T4.pw j * (10000 * c') = 10000 * T4.pw j * c' := by rw [← Int.mul_assoc, Int.mul_comm (T4.pw j)]
  have e4 : x * (T4.val (Y.take j) + T4.pw j * y) = x * T4.val (Y.take j) + T4.pw j * (x * y) := by
    rw [Int.mul_add, ← Int.mul_assoc x, Int.mul_comm x (T4.pw j), Int.mul_assoc]
  omega
theorem mulN_bd {t y : Int} (t0 : 0 ≤ t) (t1 : t < 10000) (y0 : 0 ≤ y) (y1 : y < 10000) : 0 ≤ t * y ∧ t * y ≤ 99980001 := by
  refine ⟨Int.mul_nonneg t0 y0, ?_⟩
  have h1 := Int.mul_le_mul_of_nonneg_left (show y ≤ 9999 by omega) t0
  omega
theorem val_zeros (ns : List Int) (m : Nat) : T4.val (ns ++ List.replicate m 0) = T4.val ns := by
  rw [T4.val_append, T4.val_replicate]; omega
theorem cell_of_inBlk {D n : Nat} {w0 wr : World} (h : InBlk D 0 n w0 wr) {r o : Nat} {v : Value} (hr : r ≠ D) (k : w0.cell? ⟨r, o, none⟩ = some v) : wr.cell? ⟨r, o, none⟩ = some v := (h.cell (p := ⟨r, o, none⟩) hr).trans k

theorem NB.inBlk {D n : Nat} {w0 wr : World} {R : Nat} {v : Value} (h : NB w0 R v) (hi : InBlk D 0 n w0 wr) (hr : R ≠ D) : NB wr R v := by
  obtain ⟨n, a, l, c, e, h⟩ := h
  exact ⟨n, a, l, c, e, (hi.block R hr).trans h⟩
theorem mulN_sign {z1 z2 V : Int} (h : V = (z1.natAbs : Int) * (z2.natAbs : Int)) : (if (decide (z1 < 0) != decide (z2 < 0)) = true then -V else V) = z1 * z2 := by
  subst h
  by_cases h1 : z1 < 0
  · rw [show (z1.natAbs : Int) = -z1 by omega]
    by_cases h2 : z2 < 0
    · rw [show (z2.natAbs : Int) = -z2 by omega]
      simp [h1, h2, Int.neg_mul, Int.mul_neg, Int.neg_neg]
    · rw [show (z2.natAbs : Int) = z2 by omega]
      simp [h1, h2, Int.neg_mul, Int.neg_neg]
  · rw [show (z1.natAbs : Int) = z1 by omega]
    by_cases h2 : z2 < 0
    · rw [show (z2.natAbs : Int) = -z2 by omega]
      simp [h1, h2, Int.mul_neg, Int.neg_neg]
    · rw [show (z2.natAbs : Int) = z2 by omega]
      simp [h1, h2]
theorem mulN_fin (us xs ys H ns : List Int) (k j : Nat) (x : Int) (hul : us.length = k + ys.length) (hx : xs[k]?.getD 0 = x) (hlt : k < xs.length) (hH : us.drop k ++ List.replicate (xs.length - k) 0 = H) (hj0 : ys.length ≤ j) (hj1 : j ≤ ys.length + 1) (hn : ns.length = j) (hq : T4.val ns = T4.val (H.take j) + x * T4.val (ys.take j)) (hv : T4.val us = T4.val (xs.take k) * T4.val ys) (hdu : T4.Dig us) (hdn : T4.Dig ns) {w : World} {b : Nat} (hat : AtI w b 0 (us.take k ++ (ns ++ H.drop j))) :
    ∃ us' : List Int, us'.length = k + 1 + ys.length ∧ AtI w b 0 (us' ++ List.replicate (xs.length - (k + 1)) 0) ∧ T4.Dig us' ∧ T4.val us' = T4.val (xs.take (k + 1)) * T4.val ys := by
  obtain ⟨m, hm⟩ : ∃ m, xs.length - k = m + 1 := ⟨xs.length - k - 1, by omega⟩
  have hm' : xs.length - (k + 1) = m := by omega
  have hdl : (us.drop k).length = ys.length := by rw [List.length_drop, hul]; omega
  have htl : (us.take k).length = k := by rw [List.length_take, hul]; omega
  have hk : T4.val us = T4.val (us.take k) + T4.pw k * T4.val (us.drop k) := by
    have := T4.val_append (us.take k) (us.drop k)
    rwa [List.take_append_drop, htl] at this
  have hy : ys.take j = ys := List.take_of_length_le hj0
  have hHt : T4.val (H.take j) = T4.val (us.drop k) := by
    rw [← hH, List.take_append, List.take_of_length_le (by omega), List.take_replicate, val_zeros]
  have hvv : T4.val (us.take k ++ ns) = T4.val (xs.take (k + 1)) * T4.val ys := by
    rw [T4.val_append, htl, hq, hHt, hy, T4.val_take_succ', hx, Int.mul_add, Int.add_mul, ← hv, hk, Int.mul_assoc]
    omega
  have hHd : H.drop j = List.replicate (m + 1 - (j - ys.length)) 0 := by
    rw [← hH, List.drop_append, List.drop_eq_nil_of_le (by omega), hdl, hm, List.drop_replicate, List.nil_append]
  rw [hHd] at hat
  rw [hm']
  by_cases e : j = ys.length
  · refine ⟨us.take k ++ ns ++ [0], by simp [hul, hn, e]; omega, ?_, ((hdu.take k).append hdn).append (T4.Dig.one (by omega) (by omega)), ?_⟩
    · rw [e, Nat.sub_self, Nat.sub_zero, List.replicate_succ] at hat
      simpa [List.append_assoc] using hat
    · have := val_zeros (us.take k ++ ns) 1
      rw [← hvv]
      exact this
  · have e' : j = ys.length + 1 := by omega
    refine ⟨us.take k ++ ns, by simp [hul, hn, e']; omega, ?_, (hdu.take k).append hdn, hvv⟩
    rw [e', show m + 1 - (ys.length + 1 - ys.length) = m by omega] at hat
    simpa [List.append_assoc] using hat

set_option maxRecDepth 100000 in
set_option maxHeartbeats 1600000 in
theorem mulN_any (v1 v2 : Value) (z1 z2 : Int) (w : World) (h1 : IsN w v1 z1) (h2 : IsN w v2 z2) (b1 : (z1.natAbs : Int) < T4.pw 4000) (b2 : (z2.natAbs : Int) < T4.pw 4000) :
    Calls Tryz.prog 23 #[v1, v2] w fun e w' => ∃ r, e = .returned r ∧ Below w.heap.size w w' ∧ IsN w' r (z1 * z2) := by
  obtain ⟨i0, hi, hz0, hz1, hz2⟩ := info_parts infoInt
  obtain ⟨a1, l1, c1, xs, rfl, n1, dx, m1, e1, q1⟩ := h1.small b1
  obtain ⟨a2, l2, c2, ys, rfl, n2, dy, m2, e2, q2⟩ := h2.small b2
  have hl1 := n1.len
  have hl2 := n2.len
  subst hl1 hl2
  obtain ⟨_, _, ee1, hcx, hatx⟩ := n1
  simp only [Value.slice.injEq, true_and] at ee1
  obtain ⟨rfl, rfl⟩ := ee1
  obtain ⟨_, _, ee2, hcy, haty⟩ := n2
  simp only [Value.slice.injEq, true_and] at ee2
  obtain ⟨rfl, rfl⟩ := ee2
  have x1 := ((NB.new w (decide (z1 < 0)) a1 xs.length c1).alloc (.cells #[.bool (decide (z2 < 0)), .slice a2 ys.length c2] 58)).alloc (.cells #[.bool false, .slice none 0 0] 58)
  have x2 := (NB.new (w.alloc (.cells #[.bool (decide (z1 < 0)), .slice a1 xs.length c1] 58)) (decide (z2 < 0)) a2 ys.length c2).alloc (.cells #[.bool false, .slice none 0 0] 58)
  have x3 := NB.new ((w.alloc (.cells #[.bool (decide (z1 < 0)), .slice a1 xs.length c1] 58)).alloc (.cells #[.bool (decide (z2 < 0)), .slice a2 ys.length c2] 58)) false none 0 0
  simp only [World.size_alloc] at x2 x3
  have hB : Below w.heap.size w (((w.alloc (.cells #[.bool (decide (z1 < 0)), .slice a1 xs.length c1] 58)).alloc (.cells #[.bool (decide (z2 < 0)), .slice a2 ys.length c2] 58)).alloc (.cells #[.bool false, .slice none 0 0] 58)) := (((Below.refl _ w).alloc (Nat.le_refl _) _).alloc (by simp) _).alloc (by simp; omega) _
  obtain ⟨k10, k11, f10, f11⟩ := x1.facts
  obtain ⟨k20, k21, f20, f21⟩ := x2.facts
  have X1 := hide x1
  have X2 := hide x2
  have X3 := hide x3
  have HB := hide hB
  have HE := hide (And.intro e1 e2)
  clear h1 h2 m1 m2 x1 x2 x3 hB b1 b2 e1 e2
  go_enter Tryz.func23, Tryz.ntmps23
  go_wp2_with (at_make; refine wpList_make_full _ rfl _ _ 56 rfl (w.heap.size + 1 + 1 + 1) 3 i0 (.int .i64 0) 1 Tryz.underlying56 hi hz0 hz1 _ _ _ _ (xs.length + ys.length) rfl rfl (by omega) (by omega) ?b2 ?b3 ?b4 ?_)
  case b2 => rw [hz2]; omega
  case b3 => unfold maxLen; omega
  case b4 => simp
  intro w0 hown0 hgrow0
  have hb0 := (Below.refl _ _).grown hgrow0 (Nat.le_refl _) (fun k hk => by cases hk)
  have Y1 := hide ((unhide X1).below hb0)
  have Y2 := hide ((unhide X2).below hb0)
  have Y3 := hide ((unhide X3).below hb0)
  have hbel0 : Below w.heap.size w w0 := (unhide HB).trans (hb0.mono (unhide HB).size)
  have hg0 : (w.heap.size + 1 + 1 + 1) < w0.heap.size := (hown0.lt (w.heap.size + 1 + 1 + 1) rfl).2
  have hfz : ∀ o, w0.frozen? ⟨(w.heap.size + 1 + 1 + 1), o, none⟩ = false := fun o => hown0.frozenAt _
  have hat0 : AtI w0 (w.heap.size + 1 + 1 + 1) 0 (List.replicate (xs.length + ys.length) 0) := by
    intro j hj
    have := hown0.cellAt j (by simpa using hj)
    have hj' : j < xs.length + ys.length := by simpa using hj
    rw [Nat.zero_add, this, toList_madeCells_one]
    simp [hj']
  clear k10 k11 f10 f11 k20 k21 f20 f21 X1 X2 X3 HB hgrow0 hown0 hb0
  obtain ⟨k10, k11, _, _⟩ := (unhide Y1).facts
  obtain ⟨k20, k21, _, _⟩ := (unhide Y2).facts
  have K10 := hide k10
  have K11 := hide k11
  have K20 := hide k20
  have K21 := hide k21
  clear k10 k20
  go_wp2
  clear k11 k21
  go_loopw [6] (fun iv wr => ∃ (k : Nat) (us : List Int), k ≤ xs.length ∧ iv = .int .i64 k ∧ us.length = k + ys.length ∧ AtI wr (w.heap.size + 1 + 1 + 1) 0 (us ++ List.replicate (xs.length - k) 0) ∧ InBlk (w.heap.size + 1 + 1 + 1) 0 (xs.length + ys.length) w0 wr ∧ T4.Dig us ∧ T4.val us = T4.val (xs.take k) * T4.val ys) (fun iv _ => xs.length - (intOf iv).toNat)
  case atStart => exact ⟨0, List.replicate ys.length 0, Nat.zero_le _, rfl, by simp, by simpa [Nat.add_comm] using hat0, InBlk.refl _ _ _ _, T4.Dig.replicate _, by simp [T4.val, T4.val_replicate]⟩
  case round =>
    obtain ⟨k, us, hk, rfl, hul, hatr, hin, hdu, hval⟩ := hrel
    obtain ⟨x, hx, hx0, hx1⟩ := dx.get k
    have HV := hide hval
    have HU := hide hul
    have HX := hide hx
    have k11 := cell_of_inBlk hin (show w.heap.size ≠ (w.heap.size + 1 + 1 + 1) by omega) (unhide K11)
    have k21 := cell_of_inBlk hin (show w.heap.size + 1 ≠ (w.heap.size + 1 + 1 + 1) by omega) (unhide K21)
    clear hval hul hx
    by_cases hlt : k < xs.length
    · obtain ⟨bx, ox, rfl, hbx, hcx9⟩ := hatx (by intro e; subst e; simp at hlt)
      have hkx : (k : Int) < (xs.length : Int) := by omega
      obtain ⟨H, hH⟩ : ∃ H, us.drop k ++ List.replicate (xs.length - k) 0 = H := ⟨_, rfl⟩
      have HH := hide hH
      have hHl : H.length = ys.length + (xs.length - k) := by rw [← hH, List.length_append, List.length_drop, unhide HU, List.length_replicate]; omega
      have hHd : T4.Dig H := by rw [← hH]; exact (hdu.drop k).append (T4.Dig.replicate _)
      have hHz : H[ys.length]?.getD 0 = 0 := by
        rw [← hH, List.getElem?_append_right (by rw [List.length_drop, unhide HU]; omega)]
        rw [List.getElem?_replicate]
        split <;> rfl
      have HHZ := hide hHz
      have HHL := hide hHl
      clear hH hHl hHz
      go_wp2
      clear k11 k21
      go_loopw [7, 8] (fun cv jv wq => ∃ (j : Nat) (c : Int) (ns : List Int), j ≤ ys.length + 1 ∧ jv = .int .i64 j ∧ cv = .int .i64 c ∧ 0 ≤ c ∧ c < 10000 ∧ (j = ys.length + 1 → c = 0) ∧ ns.length = j ∧ AtI wq (w.heap.size + 1 + 1 + 1) 0 (us.take k ++ (ns ++ H.drop j)) ∧ InBlk (w.heap.size + 1 + 1 + 1) 0 (xs.length + ys.length) w0 wq ∧ T4.Dig ns ∧ T4.val ns + T4.pw j * c = T4.val (H.take j) + x * T4.val (ys.take j)) (fun _ jv _ => ys.length + 1 - (intOf jv).toNat)
      case atStart => exact ⟨0, 0, [], Nat.zero_le _, rfl, rfl, by omega, by omega, fun _ => rfl, rfl, by rw [List.drop_zero, List.nil_append, ← unhide HH, ← List.append_assoc, List.take_append_drop]; exact hatr, hin, T4.Dig.nil, by simp [T4.val, T4.pw]⟩
      case round =>
        obtain ⟨j, c, ns, hj, rfl, rfl, hc0, hc1, hcz, hnl, hatq, hinq, hdn, hvq⟩ := hrel
        obtain ⟨h, hh, hh0, hh1⟩ := hHd.get j
        obtain ⟨y, hy, hy0, hy1⟩ := dy.get j
        have HQ := hide hvq
        have HN := hide hnl
        have HJ := hide hh
        have HY := hide hy
        have HCZ := hide hcz
        have k11 := cell_of_inBlk hinq (show w.heap.size ≠ (w.heap.size + 1 + 1 + 1) by omega) (unhide K11)
        have k21 := cell_of_inBlk hinq (show w.heap.size + 1 ≠ (w.heap.size + 1 + 1 + 1) by omega) (unhide K21)
        clear hvq hnl hh hy hcz hatr hin
        have key := hide (mulN_step H ys ns j x c h y (unhide HN) (unhide HJ) (unhide HY) (unhide HQ))
        have hpl : (us.take k ++ ns).length = k + j := by
          rw [List.length_append, List.length_take, unhide HU, unhide HN]; omega
        have HP := hide hpl
        clear hpl
        by_cases hjl : j < ys.length
        · obtain ⟨yb, oy, rfl, hby, hcy9⟩ := haty (by intro e; subst e; simp at hjl)
          have hcyk : wr.cell? ⟨yb, oy + j, none⟩ = some (.int .i64 y) := by rw [← unhide HY]; exact cell_of_inBlk hinq (by omega) ((hbel0.cell (p := ⟨yb, oy + j, none⟩) hby).trans (hcy9 j hjl))
          have hcxk : wr.cell? ⟨bx, ox + k, none⟩ = some (.int .i64 x) := by rw [← unhide HX]; exact cell_of_inBlk hinq (by omega) ((hbel0.cell (p := ⟨bx, ox + k, none⟩) hbx).trans (hcx9 k hlt))
          have hdr : H.drop j = h :: H.drop (j + 1) := by
            have hl : j < H.length := by have := unhide HHL; omega
            rw [List.drop_eq_getElem_cons hl]
            have := unhide HJ
            rw [List.getElem?_eq_getElem hl] at this
            simp only [Option.getD_some] at this
            rw [this]
          rw [hdr, ← List.append_assoc (us.take k)] at hatq
          clear hdr
          have hcok : wr.cell? ⟨(w.heap.size + 1 + 1 + 1), k + j, none⟩ = some (.int .i64 h) := hatq.at0 (unhide HP)
          have hfk : wr.frozen? ⟨(w.heap.size + 1 + 1 + 1), k + j, none⟩ = false := (hinq.frozen _).trans (hfz _)
          obtain ⟨hm0, hm1⟩ := mulN_bd hx0 hx1 hy0 hy1
          have hjy : (j : Int) < (ys.length : Int) := by omega
          have hkj : (k : Int) + (j : Int) < (xs.length : Int) + (ys.length : Int) := by omega
          go_wp2
          go_quiet (fail)
          go_wp2
          refine ⟨⟨j + 1, (h + c + x * y) / 10000, ns ++ [(h + c + x * y) % 10000], by omega, by simp, rfl, by omega, by omega, by omega, by simp [unhide HN], ?_, (hinq.drewN _).setCell (by omega) (by omega) _, hdn.append (T4.Dig.one (by omega) (by omega)), unhide key _ _ (by omega)⟩, by simp [intOf]; omega⟩
          have := (hatq.drewN nq).set0 (unhide HP) ((h + c + x * y) % 10000)
          simpa [List.append_assoc] using this
        · have hjy : ¬ ((j : Int) < (ys.length : Int)) := by omega
          by_cases hcp : 0 < c
          · obtain rfl : j = ys.length := by
              have := unhide HCZ
              by_cases e : j = ys.length + 1
              · have := this e; omega
              · omega
            obtain rfl : h = 0 := by rw [← unhide HJ]; exact unhide HHZ
            obtain rfl : y = 0 := by rw [← unhide HY]; simp
            have hdr : H.drop ys.length = 0 :: H.drop (ys.length + 1) := by
              have hl : ys.length < H.length := by have := unhide HHL; omega
              rw [List.drop_eq_getElem_cons hl]
              have := unhide HJ
              rw [List.getElem?_eq_getElem hl] at this
              simp only [Option.getD_some] at this
              rw [this]
            rw [hdr, ← List.append_assoc (us.take k)] at hatq
            clear hdr
            have hcok : wr.cell? ⟨(w.heap.size + 1 + 1 + 1), k + ys.length, none⟩ = some (.int .i64 0) := hatq.at0 (unhide HP)
            have hfk : wr.frozen? ⟨(w.heap.size + 1 + 1 + 1), k + ys.length, none⟩ = false := (hinq.frozen _).trans (hfz _)
            have hkj : (k : Int) + (ys.length : Int) < (xs.length : Int) + (ys.length : Int) := by omega
            clear hh0 hh1 hy0 hy1
            go_wp2
            refine ⟨⟨ys.length + 1, c / 10000, ns ++ [c % 10000], by omega, by simp, rfl, by omega, by omega, by omega, by simp [unhide HN], ?_, hinq.setCell (by omega) (by omega) _, hdn.append (T4.Dig.one (by omega) (by omega)), unhide key _ _ (by omega)⟩, by simp [intOf]⟩
            have := hatq.set0 (unhide HP) (c % 10000)
            simpa [List.append_assoc] using this
          · obtain rfl : c = 0 := by omega
            have hjlen : ys.length ≤ j := by omega
            have hfin := mulN_fin us xs ys H ns k j x (unhide HU) (unhide HX) hlt (unhide HH) hjlen hj (unhide HN) (by have := unhide HQ; omega) (unhide HV) hdu hdn hatq
            obtain ⟨us', g1, g2, g3, g4⟩ := hfin
            have G1 := hide g1
            have G4 := hide g4
            clear g1 g4
            go_wp2
            exact ⟨⟨k + 1, us', by omega, by simp, unhide G1, g2, hinq, g3, unhide G4⟩, by simp [intOf]; omega⟩
    · obtain rfl : k = xs.length := by omega
      have k10 := cell_of_inBlk hin (show w.heap.size ≠ (w.heap.size + 1 + 1 + 1) by omega) (unhide K10)
      have k20 := cell_of_inBlk hin (show w.heap.size + 1 ≠ (w.heap.size + 1 + 1 + 1) by omega) (unhide K20)
      have hA : AtI wr (w.heap.size + 1 + 1 + 1) 0 us := by simpa using hatr
      have hm2 : Ns wr (.slice (some ⟨(w.heap.size + 1 + 1 + 1), 0, none⟩) (xs.length + ys.length) (xs.length + ys.length)) us := by
        have := hA.ns (cap := xs.length + ys.length) (by rw [hin.size]; exact hg0) (Nat.le_of_eq (unhide HU))
        rw [unhide HU] at this
        exact this
      have hv' : Hid (T4.val us = T4.val xs * T4.val ys) := by
        have := unhide HV
        rw [List.take_of_length_le (Nat.le_refl _)] at this
        exact this
      have hul : us.length ≤ 100000 := by have := unhide HU; omega
      have hB1 := hin.below (B := w.heap.size + 1 + 1 + 1) (Nat.le_refl _)
      have HB2 := hide (hbel0.trans (hB1.mono (by omega)))
      have Z3 := hide ((unhide Y3).inBlk hin (by omega))
      have hT := trimN_is (decide (z1 < 0) != decide (z2 < 0)) _ us _ hm2 hdu hul
      rw [show (if (decide (z1 < 0) != decide (z2 < 0)) = true then -T4.val us else T4.val us) = z1 * z2 from mulN_sign (by rw [unhide hv', (unhide HE).1, (unhide HE).2])] at hT
      have HT := hide hT
      clear hatr hA hin hB1 hm2 hT
      go_wp2_with (go_at_call 36; refine (unhide HT).mono ?_)
      rintro e w3 ⟨r, rfl, hb3, hi3⟩
      have HI := hide hi3
      obtain ⟨b3, a3, l3, c3, rfl⟩ := hi3.form
      have V3 := hide ((unhide Z3).below hb3)
      obtain ⟨_, _, k30, k31, f30, f31⟩ := (unhide V3).facts0
      have HB3 := hide hb3
      clear k10 k20 hi3 hb3
      go_wp2
      refine bodyPost_ret (res_N rfl rfl ((unhide V3).set b3 a3 l3 c3)) rfl ⟨_, rfl, ?_, (unhide HI).putN (unhide V3) _ _⟩
      exact below_put ((unhide HB2).trans ((unhide HB3).mono (unhide HB2).size)) (by omega) _ _

end Go.Proofs.YthgdmppmjnmiiaaGreatDoor.Nm
