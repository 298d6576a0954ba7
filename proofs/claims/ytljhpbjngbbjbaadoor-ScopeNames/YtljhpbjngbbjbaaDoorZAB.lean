/- Package parse: expressions and the reader as they lie. -/
import Derived.Test.YtljhpbjngbbjbaaDoorZAA
import Derived.Laws.Rows
import Derived.Laws.AppendOwn
import Derived.LaidEql
import Derived.Stop.Asserts
import Derived.RowKitTokens
import Derived.BigRegion
import Derived.BigQuiet
import Derived.Deep.QuietTactic
import Derived.Lib.Walk
import Derived.WalkKit
import Derived.ProofKit
import Derived.Handy
import Derived.MapKept
import Derived.Deep.MidRow
set_option linter.unusedVariables false
set_option linter.unusedSimpArgs false

/- How many bytes of a name, or of digits, a text begins with. -/
namespace Go.Proofs.YtljhpbjngbbjbaaDoor
open Go Go.RowKit

theorem nameEnd_step (t : ByteArray) {f i n : Nat} (h : nameEnd t f i = n) (hf : t.size ≤ i + f) (hi : i < t.size) (hy : inName t i = true) : nameEnd t (f - 1) (i + wd t i) = n ∧ t.size ≤ i + wd t i + (f - 1) := by
  have := wd_pos t i
  obtain ⟨g, rfl⟩ : ∃ g, f = g + 1 := ⟨f - 1, by omega⟩
  unfold nameEnd at h
  rw [if_pos hi, if_pos hy] at h
  exact ⟨h, by omega⟩
theorem nameEnd_stop (t : ByteArray) {f i n : Nat} (h : nameEnd t f i = n) (hf : t.size ≤ i + f) (hi : i < t.size) (hy : inName t i = false) : n = i := by
  obtain ⟨g, rfl⟩ : ∃ g, f = g + 1 := ⟨f - 1, by omega⟩
  unfold nameEnd at h
  rw [if_pos hi, if_neg (by rw [hy]; exact Bool.false_ne_true)] at h
  exact h.symm
theorem nameEnd_end (t : ByteArray) {f i n : Nat} (h : nameEnd t f i = n) (hi : ¬ i < t.size) : n = i := by
  cases f with
  | zero => exact h.symm
  | succ g =>
    unfold nameEnd at h
    rw [if_neg hi] at h
    exact h.symm
theorem digEnd_step (t : ByteArray) {f i n : Nat} (h : digEnd t f i = n) (hf : t.size ≤ i + f) (hi : i < t.size) (hy : isDi (rn t i) = true) : digEnd t (f - 1) (i + 1) = n ∧ t.size ≤ i + 1 + (f - 1) := by
  obtain ⟨g, rfl⟩ : ∃ g, f = g + 1 := ⟨f - 1, by omega⟩
  unfold digEnd at h
  rw [if_pos hi, if_pos hy] at h
  exact ⟨h, by omega⟩
theorem digEnd_stop (t : ByteArray) {f i n : Nat} (h : digEnd t f i = n) (hf : t.size ≤ i + f) (hi : i < t.size) (hy : isDi (rn t i) = false) : n = i := by
  obtain ⟨g, rfl⟩ : ∃ g, f = g + 1 := ⟨f - 1, by omega⟩
  unfold digEnd at h
  rw [if_pos hi, if_neg (by rw [hy]; exact Bool.false_ne_true)] at h
  exact h.symm
theorem digEnd_end (t : ByteArray) {f i n : Nat} (h : digEnd t f i = n) (hi : ¬ i < t.size) : n = i := by
  cases f with
  | zero => exact h.symm
  | succ g =>
    unfold digEnd at h
    rw [if_neg hi] at h
    exact h.symm
theorem isDi_wd (t : ByteArray) (i : Nat) (h : isDi (rn t i) = true) : wd t i = 1 := by
  refine (rn_low t i ?_).2
  unfold isDi at h
  simp at h
  omega
end Go.Proofs.YtljhpbjngbbjbaaDoor

/- Package lex: names, numbers, comments, signs, and what stands at a place. -/
namespace Go.Proofs.YtljhpbjngbbjbaaDoor
open Go Go.RowKit

/-- What read and its kin hand back. -/
def RdP (x : Int × Nat × Option (Nat × Nat)) (w : World) (e : Ending) (w' : World) : Prop :=
  Below w.heap.size w w' ∧ ((x.2.2 = none ∧ e = .returned (.tuple #[.int .i64 x.1, .int .i64 x.2.1, .pointer none])) ∨
    ∃ (a n b : Nat), x.2.2 = some (a, n) ∧ w.heap.size ≤ b ∧ e = .returned (.tuple #[.int .i64 0, .int .i64 0, .pointer (some ⟨b, 0, none⟩)]) ∧ w'.heap[b]? = some (.cells #[.int .i64 a, .int .i64 n] 67))
theorem RdP.ok {k : Int} {j : Nat} {w w' : World} {z : Value} (h : Below w.heap.size w w') (hz : z = .int .i64 j) : RdP (k, j, none) w (.returned (.tuple #[.int .i64 k, z, .pointer none])) w' := ⟨h, .inl ⟨rfl, by rw [hz]⟩⟩
theorem heap_new (w : World) (o : Obj) : (w.alloc o).heap[w.heap.size]? = some o := by
  show (w.heap.push o)[w.heap.size]? = _
  simp
theorem sl2 (s : ByteArray) (i j : Nat) (z : Int) (hz : z = (j : Int)) (h1 : i ≤ j) (h2 : j ≤ s.size) (w : World) : (Instr.slice 9 (.string s) (some (.int .i64 i)) (some (.int .i64 z)) none).run Tryd.prog w = .ok (.string (s.extract i j)) w := by
  subst hz
  have := run_slice_string (P := Tryd.prog) w 9 s .i64 .i64 i j Tryd.underlying9 (by omega) (by omega) (by omega)
  rw [Int.toNat_natCast, Int.toNat_natCast] at this
  exact this
theorem nameEnd_le (s : ByteArray) : ∀ f i, i ≤ s.size → i ≤ nameEnd s f i ∧ nameEnd s f i ≤ s.size := by
  intro f
  induction f with
  | zero => intro i h; exact ⟨Nat.le_refl _, h⟩
  | succ f ih =>
    intro i h
    unfold nameEnd
    by_cases h0 : i < s.size
    · rw [if_pos h0]
      have := wd_le s i h0
      cases inName s i with
      | true => rw [if_pos rfl]; have := ih (i + wd s i) this; omega
      | false => rw [if_neg Bool.false_ne_true]; omega
    · rw [if_neg h0]; omega
theorem digEnd_le (s : ByteArray) : ∀ f i, i ≤ s.size → i ≤ digEnd s f i ∧ digEnd s f i ≤ s.size := by
  intro f
  induction f with
  | zero => intro i h; exact ⟨Nat.le_refl _, h⟩
  | succ f ih =>
    intro i h
    unfold digEnd
    by_cases h0 : i < s.size
    · rw [if_pos h0]
      cases isDi (rn s i) with
      | true => rw [if_pos rfl]; have := ih (i + 1) h0; omega
      | false => rw [if_neg Bool.false_ne_true]; omega
    · rw [if_neg h0]; omega

end Go.Proofs.YtljhpbjngbbjbaaDoor

/- Package lex: comments. -/
namespace Go.Proofs.YtljhpbjngbbjbaaDoor
open Go Go.RowKit

theorem sl1 (s : ByteArray) (j : Nat) (z : Int) (hz : z = (j : Int)) (h2 : j ≤ s.size) (w : World) : (Instr.slice 9 (.string s) (some (.int .i64 z)) none none).run Tryd.prog w = .ok (.string (s.extract j s.size)) w := by
  subst hz
  have hc : (0 : Int) ≤ (j : Int) ∧ (j : Int) ≤ (s.size : Int) := ⟨by omega, by omega⟩
  simp [Instr.slice, Instr.sliceBounds, Instr.sliceBound, asIntOf, run_underlying Tryd.underlying9, hc]
  intro h
  omega
end Go.Proofs.YtljhpbjngbbjbaaDoor

/- Package lex: signs. -/
namespace Go.Proofs.YtljhpbjngbbjbaaDoor
open Go Go.RowKit

def sgB (k : Nat) : ByteArray := ⟨((signL.getD k []).map UInt8.ofNat).toArray⟩
def signV : List Value := (List.range 25).map fun k => .string (sgB k)
/-- The table of signs, as the program lays it. -/
def SG (w : World) : Prop := ∃ t fr, w.heap[1]? = some (.cells signV.toArray t fr)
theorem SG.below {w w' : World} {B : Nat} (h : SG w) (hb : Below B w w') (hB : 1 < B) : SG w' := by
  obtain ⟨t, fr, h⟩ := h
  exact ⟨t, fr, by rw [hb.block 1 hB]; exact h⟩
theorem SG.lt {w : World} (h : SG w) : 1 < w.heap.size := by
  obtain ⟨t, fr, h⟩ := h
  exact (Array.getElem?_eq_some_iff.1 h).1
theorem sgB_nat : ∀ k, k < 25 → (sgB k).data.toList.map UInt8.toNat = signL.getD k [] := by decide
theorem sgB_size : ∀ k, k < 25 → (sgB k).size = (signL.getD k []).length := by decide
theorem sgn_found (s : ByteArray) (i k : Nat) (hk : k < 25) (h0 : ∀ j, j < k → fits s i (signL.getD j []) = false) (h1 : fits s i (signL.getD k []) = true) : sgn s i = (signL.getD k []).length := by
  have h : signL.find? (fun l => fits s i l) = some (signL.getD k []) := by
    rw [List.find?_eq_some_iff_getElem]
    refine ⟨h1, k, hk, ?_, fun j hj => ?_⟩
    · rw [List.getD_eq_getElem?_getD, List.getElem?_eq_getElem hk]; rfl
    · have := h0 j hj
      have hj' : j < signL.length := Nat.lt_trans hj hk
      rw [List.getD_eq_getElem?_getD, List.getElem?_eq_getElem hj'] at this
      rw [show fits s i signL[j] = false from this]
      rfl
  unfold sgn
  rw [h]
  rfl
theorem sgn_none (s : ByteArray) (i : Nat) (h0 : ∀ j, j < 25 → fits s i (signL.getD j []) = false) : sgn s i = 0 := by
  have h : signL.find? (fun l => fits s i l) = none := by
    rw [List.find?_eq_none]
    intro l hl
    obtain ⟨j, hj, rfl⟩ := List.getElem_of_mem hl
    have := h0 j hj
    rw [List.getD_eq_getElem?_getD, List.getElem?_eq_getElem hj] at this
    rw [show fits s i signL[j] = false from this]
    exact Bool.false_ne_true
  unfold sgn
  rw [h]
  rfl
theorem sign_pos : ∀ k, k < 25 → 0 < (signL.getD k []).length ∧ (signL.getD k []).length ≤ 3 := by decide
end Go.Proofs.YtljhpbjngbbjbaaDoor

/- Package lex: what stands at a place. -/
namespace Go.Proofs.YtljhpbjngbbjbaaDoor
open Go Go.RowKit

theorem fits_two (s : ByteArray) (i a b : Nat) (h : fits s i [a, b] = true) : i + 2 ≤ s.size := by
  unfold fits at h
  simp [fits] at h
  omega
end Go.Proofs.YtljhpbjngbbjbaaDoor

/- The places at which a range over a text stands: what is read ends at one of them. No program in this text. -/
namespace Go.Proofs.YtljhpbjngbbjbaaDoor
open Go Go.RowKit

def adv (s : ByteArray) : Nat → Nat → Nat
  | 0, p => p
  | k + 1, p => adv s k (p + wd s p)
def Reach (s : ByteArray) (p q : Nat) : Prop := ∃ k, adv s k p = q
theorem Reach.refl (s : ByteArray) (p : Nat) : Reach s p p := ⟨0, rfl⟩
theorem Reach.step {s : ByteArray} {p q : Nat} (h : Reach s (p + wd s p) q) : Reach s p q := by
  obtain ⟨k, h⟩ := h
  exact ⟨k + 1, h⟩
theorem adv_le (s : ByteArray) : ∀ k p, p ≤ adv s k p := by
  intro k
  induction k with
  | zero => intro p; exact Nat.le_refl _
  | succ k ih => intro p; unfold adv; have := ih (p + wd s p); omega
theorem Reach.le {s : ByteArray} {p q : Nat} (h : Reach s p q) : p ≤ q := by
  obtain ⟨k, rfl⟩ := h
  exact adv_le s k p
theorem Reach.next {s : ByteArray} {p q : Nat} (h : Reach s p q) (hlt : p < q) : Reach s (p + wd s p) q := by
  obtain ⟨k, h⟩ := h
  cases k with
  | zero => exact absurd h (by unfold adv; omega)
  | succ k => exact ⟨k, h⟩
theorem reach_ascii {s : ByteArray} {p q : Nat} (hb : By s p < 128) (h : Reach s (p + 1) q) : Reach s p q := by
  apply Reach.step
  rw [(rn_ascii s p hb).2]
  exact h
theorem reach_name (s : ByteArray) : ∀ f p, Reach s p (nameEnd s f p) := by
  intro f
  induction f with
  | zero => intro p; exact Reach.refl s p
  | succ f ih =>
    intro p
    unfold nameEnd
    by_cases h0 : p < s.size
    · rw [if_pos h0]
      cases inName s p with
      | true => rw [if_pos rfl]; exact Reach.step (ih _)
      | false => rw [if_neg Bool.false_ne_true]; exact Reach.refl s p
    · rw [if_neg h0]; exact Reach.refl s p
theorem reach_dig (s : ByteArray) : ∀ f p, Reach s p (digEnd s f p) := by
  intro f
  induction f with
  | zero => intro p; exact Reach.refl s p
  | succ f ih =>
    intro p
    unfold digEnd
    by_cases h0 : p < s.size
    · rw [if_pos h0]
      cases hd : isDi (rn s p) with
      | true =>
        rw [if_pos rfl]
        apply Reach.step
        rw [isDi_wd s p hd]
        exact ih _
      | false => rw [if_neg Bool.false_ne_true]; exact Reach.refl s p
    · rw [if_neg h0]; exact Reach.refl s p
theorem reach_cmt (s : ByteArray) : ∀ f p b, (cmt s f p b).2 = 0 → Reach s p (cmt s f p b).1 ∧ (cmt s f p b).1 ≤ s.size := by
  intro f
  induction f with
  | zero => intro p b h; unfold cmt at h; exact absurd h (by decide)
  | succ f ih =>
    intro p b h
    unfold cmt at h ⊢
    by_cases h0 : p < s.size
    · rw [if_pos h0] at h ⊢
      cases hn : noR s p with
      | true => rw [hn, if_pos rfl] at h; exact absurd h (by simp)
      | false =>
        rw [hn, if_neg Bool.false_ne_true] at h
        rw [if_neg Bool.false_ne_true]
        cases hc : (b && rn s p == 41) with
        | true =>
          rw [if_pos rfl]
          have h41 : rn s p = 41 := by simp at hc; exact hc.2
          refine ⟨?_, by simp only; omega⟩
          apply Reach.step
          rw [(rn_low s p (by omega)).2]
          exact Reach.refl s _
        | false =>
          rw [hc, if_neg Bool.false_ne_true] at h
          rw [if_neg Bool.false_ne_true]
          have := ih _ _ h
          exact ⟨Reach.step this.1, this.2⟩
    · rw [if_neg h0] at h; exact absurd h (by simp)
theorem reach_fits (s : ByteArray) : ∀ (l : List Nat) p, (∀ c ∈ l, c < 128) → fits s p l = true → Reach s p (p + l.length) ∧ (l ≠ [] → p + l.length ≤ s.size) := by
  intro l
  induction l with
  | nil => intro p _ _; exact ⟨Reach.refl s p, fun h => absurd rfl h⟩
  | cons c l ih =>
    intro p hc h
    unfold fits at h
    simp only [Bool.and_eq_true, decide_eq_true_eq, beq_iff_eq] at h
    obtain ⟨⟨h0, h1⟩, h2⟩ := h
    have := ih (p + 1) (fun x hx => hc x (List.mem_cons_of_mem _ hx)) h2
    rw [List.length_cons, show p + (l.length + 1) = p + 1 + l.length by omega]
    refine ⟨reach_ascii (by rw [h1]; exact hc c (List.mem_cons_self ..)) this.1, fun _ => ?_⟩
    cases l with
    | nil => simp; omega
    | cons d l => exact this.2 (by simp)
theorem sgn_fits (s : ByteArray) (i : Nat) (h : sgn s i ≠ 0) : ∃ l ∈ signL, fits s i l = true ∧ sgn s i = l.length := by
  unfold sgn at h ⊢
  cases hf : signL.find? (fun l => fits s i l) with
  | none => rw [hf] at h; exact absurd rfl h
  | some l => exact ⟨l, List.mem_of_find?_eq_some hf, List.find?_some hf, rfl⟩
theorem sign_ascii : ∀ l ∈ signL, (∀ c ∈ l, c < 128) ∧ l ≠ [] := by decide
/-- What is read ends behind its place, within the text, where the range comes by. -/
theorem rd_reach (s : ByteArray) (i : Nat) (hi : i < s.size) (h : (rd s i).2.2 = none) : Reach s (i + wd s i) (rd s i).2.1 ∧ (rd s i).2.1 ≤ s.size ∧ i < (rd s i).2.1 := by
  have key : ∀ j, Reach s i j → i < j → j ≤ s.size → Reach s (i + wd s i) j ∧ j ≤ s.size ∧ i < j := fun j h1 h2 h3 => ⟨h1.next h2, h3, h2⟩
  unfold rd at h ⊢
  cases h0 : noR s i with
  | true => rw [h0, if_pos rfl] at h; cases h
  | false =>
    rw [h0, if_neg Bool.false_ne_true] at h
    rw [if_neg Bool.false_ne_true]
    cases h1 : isBl (rn s i) with
    | true =>
      rw [if_pos rfl]
      refine key _ ?_ (Nat.lt_succ_self _) hi
      have hl : rn s i < 128 := by unfold isBl at h1; simp at h1; omega
      apply Reach.step
      rw [(rn_low s i hl).2]
      exact Reach.refl s _
    | false =>
      rw [h1, if_neg Bool.false_ne_true] at h
      rw [if_neg Bool.false_ne_true]
      cases h2 : isLe (rn s i) with
      | true =>
        rw [h2, if_pos rfl] at h
        rw [if_pos rfl]
        have hy : inName s i = true := by unfold inName; rw [h0, h2]; rfl
        have hk : i < nameEnd s (s.size - i) i := by
          obtain ⟨g, hg⟩ : ∃ g, s.size - i = g + 1 := ⟨s.size - i - 1, by omega⟩
          rw [hg]
          unfold nameEnd
          rw [if_pos hi, if_pos hy]
          have := nameEnd_le s g (i + wd s i) (wd_le s i hi)
          have := wd_pos s i
          omega
        have hq := key _ (reach_name s (s.size - i) i) hk (nameEnd_le s (s.size - i) i (by omega)).2
        unfold rdName at h ⊢
        by_cases h3 : 40 < nameEnd s (s.size - i) i - i
        · rw [if_pos h3] at h; cases h
        · rw [if_neg h3]
          cases isWd (s.extract i (nameEnd s (s.size - i) i)) with
          | true => rw [if_pos rfl]; exact hq
          | false => rw [if_neg Bool.false_ne_true]; exact hq
      | false =>
        rw [h2, if_neg Bool.false_ne_true] at h
        rw [if_neg Bool.false_ne_true]
        cases h3 : isDi (rn s i) with
        | true =>
          rw [h3, if_pos rfl] at h
          rw [if_pos rfl]
          have hk : i < digEnd s (s.size - i) i := by
            obtain ⟨g, hg⟩ : ∃ g, s.size - i = g + 1 := ⟨s.size - i - 1, by omega⟩
            rw [hg]
            unfold digEnd
            rw [if_pos hi, if_pos h3]
            have := digEnd_le s g (i + 1) hi
            omega
          have hq := key _ (reach_dig s (s.size - i) i) hk (digEnd_le s (s.size - i) i (by omega)).2
          unfold rdNum at h ⊢
          by_cases h4 : (By s i == 48 && decide (1 < digEnd s (s.size - i) i - i)) = true
          · rw [if_pos h4] at h; cases h
          · rw [if_neg h4] at h ⊢
            by_cases h5 : 400 < digEnd s (s.size - i) i - i
            · rw [if_pos h5] at h; cases h
            · rw [if_neg h5]; exact hq
        | false =>
          rw [h3, if_neg Bool.false_ne_true] at h
          rw [if_neg Bool.false_ne_true]
          cases h4 : fits s i [40, 42] with
          | true =>
            rw [h4, if_pos rfl] at h
            rw [if_pos rfl]
            unfold rdCmt at h ⊢
            by_cases h5 : (cmt s (s.size - (i + 2)) (i + 2) false).2 = 0
            · rw [if_pos h5]
              have hc := reach_cmt s _ _ _ h5
              have h40 : By s i = 40 ∧ By s (i + 1) = 42 := by
                unfold fits at h4
                simp [fits] at h4
                exact ⟨h4.1.2, h4.2.2⟩
              have hle := hc.1.le
              exact key _ (reach_ascii (by omega) (reach_ascii (by omega) hc.1)) (show i < (cmt s (s.size - (i + 2)) (i + 2) false).1 by omega) hc.2
            · rw [if_neg h5] at h
              split at h <;> cases h
          | false =>
            rw [h4, if_neg Bool.false_ne_true] at h
            rw [if_neg Bool.false_ne_true]
            unfold rdSign at h ⊢
            by_cases h5 : sgn s i = 0
            · rw [if_pos h5] at h; cases h
            · rw [if_neg h5]
              obtain ⟨l, hl, hf, e⟩ := sgn_fits s i h5
              have hr := reach_fits s l i (sign_ascii l hl).1 hf
              rw [← e] at hr
              exact key _ hr.1 (show i < i + sgn s i by omega) (hr.2 (sign_ascii l hl).2)
/-! ### the tokens from a place on -/
theorem lx_end (s : ByteArray) (f i : Nat) (h : ¬ i < s.size) : lx s f i = ([], none) := by
  cases f with
  | zero => rfl
  | succ f => unfold lx; rw [if_neg h]
theorem lx_err (s : ByteArray) {f i : Nat} {e : Nat × Nat} (hf : s.size ≤ i + f) (hi : i < s.size) (h : (rd s i).2.2 = some e) : lx s f i = ([], some e) := by
  obtain ⟨g, rfl⟩ : ∃ g, f = g + 1 := ⟨f - 1, by omega⟩
  unfold lx
  rw [if_pos hi, h]
theorem lx_gap (s : ByteArray) {f i : Nat} (hf : s.size ≤ i + f) (hi : i < s.size) (h : (rd s i).2.2 = none) (hk : (rd s i).1 = -1) : lx s f i = lx s (f - 1) (rd s i).2.1 := by
  obtain ⟨g, rfl⟩ : ∃ g, f = g + 1 := ⟨f - 1, by omega⟩
  conv => lhs; unfold lx
  rw [if_pos hi, h]
  simp only [hk, if_true]
  rfl
theorem lx_tok (s : ByteArray) {f i : Nat} (hf : s.size ≤ i + f) (hi : i < s.size) (h : (rd s i).2.2 = none) (hk : (rd s i).1 ≠ -1) : lx s f i = (((rd s i).1, i, (rd s i).2.1) :: (lx s (f - 1) (rd s i).2.1).1, (lx s (f - 1) (rd s i).2.1).2) := by
  obtain ⟨g, rfl⟩ : ∃ g, f = g + 1 := ⟨f - 1, by omega⟩
  conv => lhs; unfold lx
  rw [if_pos hi, h]
  simp only [hk, if_false]
  rfl
/-- All of a text. -/
def tk (s : ByteArray) : List (Int × Nat × Nat) × Option (Nat × Nat) := if 65536 < s.size then ([], some (65536, 141)) else lx s s.size 0
theorem lx_len (s : ByteArray) : ∀ f i, (lx s f i).1.length ≤ f := by
  intro f
  induction f with
  | zero => intro i; exact Nat.le_refl _
  | succ f ih =>
    intro i
    unfold lx
    by_cases hi : i < s.size
    · rw [if_pos hi]
      cases (rd s i).2.2 with
      | some e => simp
      | none =>
        simp only
        have := ih (rd s i).2.1
        split
        · omega
        · simp; omega
    · rw [if_neg hi]; simp
end Go.Proofs.YtljhpbjngbbjbaaDoor

/- Package lex: Tokens. -/
namespace Go.Proofs.YtljhpbjngbbjbaaDoor
open Go Go.RowKit

/-- A token's cells. -/
def tokC (s : ByteArray) (x : Int × Nat × Nat) : List Value := [.int .i64 x.1, .string (s.extract x.2.1 x.2.2), .int .i64 x.2.1]
def toks (s : ByteArray) (l : List (Int × Nat × Nat)) : List Value := l.flatMap (tokC s)
theorem toks_app (s : ByteArray) (l : List (Int × Nat × Nat)) (x : Int × Nat × Nat) : toks s (l ++ [x]) = toks s l ++ tokC s x := by
  unfold toks
  rw [List.flatMap_append]
  simp
theorem own_nil (w : World) (B k : Nat) (t : TypeId) : w.ownsRow B t k (.slice none 0 0) 0 [] := ⟨by simp, .inl ⟨rfl, rfl⟩⟩
theorem own_same {w w' : World} {B e size n : Nat} {v : Value} {xs : List Value} (h : w.ownsRow B e size v n xs) (hb : Below w.heap.size w w') : w'.ownsRow B e size v n xs := by
  obtain ⟨h1, h2 | ⟨g, cap, cur, e1, e2, e3, e4⟩⟩ := h
  · exact ⟨h1, .inl h2⟩
  · exact ⟨h1, .inr ⟨g, cap, cur, e1, e2, by rw [hb.block g (Array.getElem?_eq_some_iff.1 e3).1]; exact e3, e4⟩⟩
theorem app_run {ops : Array Oper} {rest : List Oper} {o : Oper} {a : Act} {Q : Exit → Act → World → Prop} {w w' : World} {v u v' : Value} (s x : Operand) (t : TypeId) (ho : o.op = .call { callee := .builtin .append, args := #[s, x], argTypes := #[t, t] }) (hs : a.eval s = v) (hx : a.eval x = u) (hw : Region.wanted o (yielded ops a.tmps) = true) (hr : (Builtin.append_ #[t, t] o.type #[v, u]).run Tryd.prog w = .ok v' w') (h : wpList Tryd.prog ops Q rest (a.put o.dst v') w') : wpList Tryd.prog ops Q (o :: rest) a w := by
  unfold wpList
  rw [if_pos hw]
  left
  unfold Oper.wp execOp
  simp only [ho, resolve, invoke, builtin, Sem.run_bind, Sem.run_pure, Result.andThen_ok, List.map_toArray, List.map_cons, List.map_nil, hs, hx, hr]
  exact h
/-- A token put behind others. -/
theorem app_tok {w : World} {B n : Nat} {v : Value} {xs : List Value} {b : Nat} (k : Int) (t : ByteArray) (i : Int) (ty : TypeId) (hown : w.ownsRow B 87 3 v n xs) (hn : n ≤ 100000) (hB : B ≤ w.heap.size)
    (h0 : w.cell? ⟨b, 0, none⟩ = some (.int .i64 k)) (h1 : w.cell? ⟨b, 1, none⟩ = some (.string t)) (h2 : w.cell? ⟨b, 2, none⟩ = some (.int .i64 i)) :
    ∃ v' w', (Builtin.append_ #[80, 80] ty #[v, .slice (some ⟨b, 0, none⟩) 1 1]).run Tryd.prog w = .ok v' w' ∧ w'.ownsRow B 87 3 v' (n + 1) (xs ++ [.int .i64 k, .string t, .int .i64 i]) ∧ w.grownBy w' v.ownBlock := by
  obtain ⟨v', w', hr, ho, hg, _⟩ := run_append_own (P := Tryd.prog) w B 80 ty 87 Tryd.t87 (.agg #[.int .i64 0, .string ⟨#[]⟩, .int .i64 0]) 3 32 Tryd.underlying80 (by kernel_rfl) (by kernel_rfl) (by kernel_rfl) (by kernel_rfl) rfl (by decide) v n xs hown ⟨b, 0, none⟩ 1 1 [.int .i64 k, .string t, .int .i64 i] rfl (fun j u hj => by
      match j, hj with
      | 0, hj => obtain rfl := Option.some.inj hj; exact h0
      | 1, hj => obtain rfl := Option.some.inj hj; exact h1
      | 2, hj => obtain rfl := Option.some.inj hj; exact h2
      | j + 3, hj => cases hj) (fun u hu => by
      simp at hu
      rcases hu with rfl | rfl | rfl <;> rfl) (by unfold maxLen; omega) (by omega) hB
  exact ⟨v', w', hr, ho, hg⟩
theorem tok_new {w : World} {B n : Nat} {v : Value} {xs : List Value} (k : Int) (t : ByteArray) (i : Int) (ty : TypeId) (hown : w.ownsRow B 87 3 v n xs) (hn : n ≤ 100000) (hB : B ≤ w.heap.size) :
    ∃ v' w', (Builtin.append_ #[80, 80] ty #[v, .slice (some ⟨w.heap.size, 0, none⟩) 1 1]).run Tryd.prog (w.alloc (.cells #[.int .i64 k, .string t, .int .i64 i] 87)) = .ok v' w' ∧ w'.ownsRow B 87 3 v' (n + 1) (xs ++ [.int .i64 k, .string t, .int .i64 i]) ∧ Below B w w' := by
  have hb := heap_new w (.cells #[.int .i64 k, .string t, .int .i64 i] 87)
  obtain ⟨v', w', h1, h2, h3⟩ := app_tok k t i ty (hown.alloc (.cells #[.int .i64 k, .string t, .int .i64 i] 87)) hn (by simp; omega) (b := w.heap.size) (by simp only [World.cell?, hb]; rfl) (by simp only [World.cell?, hb]; rfl) (by simp only [World.cell?, hb]; rfl)
  refine ⟨v', w', h1, h2, ((Below.refl B w).alloc hB _).grown h3 (by simp; omega) fun b e => ?_⟩
  exact (hown.lt b e).1
end Go.Proofs.YtljhpbjngbbjbaaDoor

/- errors.As at the target type *api.PlaceError: an error of that very type is found. -/
namespace Go.Proofs.YtljhpbjngbbjbaaDoor
open Go Go.RowKit Go.Extern.Stop Go.Stop Go.Extern

/-! ### closed facts on the model's entries for internal/reflectlite, at this program's types -/
theorem as_v1 (t : Addr) (w : World) : (ReflectliteValue.unpack (.iface 64 (.pointer (some t)))).run Tryd.prog w = .ok (.agg #[.pointer (some ⟨3, 64, none⟩), .pointer (some ⟨w.heap.size, 0, none⟩), .int .u64 150]) (w.alloc (.cells #[.pointer (some t)] 64)) := by kernel_rfl
theorem as_t1 (a : Addr) (w : World) : (ReflectliteValue.methodAny (ReflectliteValue.valueError "reflectlite.Value.Type" 0) (fun t _ _ _ => ReflectliteType.toType t) #[.agg #[.pointer (some ⟨3, 64, none⟩), .pointer (some a), .int .u64 150]]).run Tryd.prog w = .ok (.iface 123 (.agg #[.pointer (some ⟨3, 64, none⟩)])) w := by kernel_rfl
theorem as_mK (h : Value) (w : World) : (Go.method 278 123 (.agg #[h]) "Kind").run Tryd.prog w = .ok (97, h) w := by kernel_rfl
theorem as_mE (h : Value) (w : World) : (Go.method 278 123 (.agg #[h]) "Elem").run Tryd.prog w = .ok (109, .agg #[h]) w := by kernel_rfl
theorem as_mI (h : Value) (w : World) : (Go.method 278 123 (.agg #[h]) "Implements").run Tryd.prog w = .ok (110, .agg #[h]) w := by kernel_rfl
theorem as_mA (h : Value) (w : World) : (Go.method 278 123 (.agg #[h]) "AssignableTo").run Tryd.prog w = .ok (107, .agg #[h]) w := by kernel_rfl
theorem as_k1 (w : World) : ((ReflectliteType.abiMethod fun t => (fun a : Nat => Value.int IntKind.u8 (a : Int)) <$> Rtype.kind t) #[.pointer (some ⟨3, 64, none⟩)]).run Tryd.prog w = .ok (.int .u8 22) w := by kernel_rfl
theorem as_k2 (w : World) : ((ReflectliteType.abiMethod fun t => (fun a : Nat => Value.int IntKind.u8 (a : Int)) <$> Rtype.kind t) #[.pointer (some ⟨3, 60, none⟩)]).run Tryd.prog w = .ok (.int .u8 22) w := by kernel_rfl
theorem as_e1 (w : World) : (ReflectliteType.method ReflectliteType.elem #[.agg #[.pointer (some ⟨3, 64, none⟩)]]).run Tryd.prog w = .ok (.iface 123 (.agg #[.pointer (some ⟨3, 60, none⟩)])) w := by kernel_rfl
theorem as_i2 (w : World) : (ReflectliteType.relation "Implements" ReflectliteType.implements_ #[.agg #[.pointer (some ⟨3, 60, none⟩)], .iface 123 (.agg #[.pointer (some ⟨3, 27, none⟩)])]).run Tryd.prog w = .ok (.bool true) w := by kernel_rfl
theorem as_o2 (v : Value) (w : World) : (ReflectliteType.typeOf #[.iface 60 v]).run Tryd.prog w = .ok (.iface 123 (.agg #[.pointer (some ⟨3, 60, none⟩)])) w := by kernel_rfl
theorem as_a2 (w : World) : (ReflectliteType.relation "AssignableTo" ReflectliteType.assignableTo #[.agg #[.pointer (some ⟨3, 60, none⟩)], .iface 123 (.agg #[.pointer (some ⟨3, 60, none⟩)])]).run Tryd.prog w = .ok (.bool true) w := by kernel_rfl
theorem as_v2 (e : Addr) (w : World) : (ReflectliteValue.unpack (.iface 60 (.pointer (some e)))).run Tryd.prog w = .ok (.agg #[.pointer (some ⟨3, 60, none⟩), .pointer (some ⟨w.heap.size, 0, none⟩), .int .u64 150]) (w.alloc (.cells #[.pointer (some e)] 60)) := by kernel_rfl
theorem as_p1 (a : Addr) (w : World) : (ReflectliteValue.parts (.agg #[.pointer (some ⟨3, 64, none⟩), .pointer (some a), .int .u64 150])).run Tryd.prog w = .ok (some (64, a, 150)) w := by kernel_rfl
theorem as_p2 (a : Addr) (w : World) : (ReflectliteValue.parts (.agg #[.pointer (some ⟨3, 60, none⟩), .pointer (some a), .int .u64 150])).run Tryd.prog w = .ok (some (60, a, 150)) w := by kernel_rfl
theorem as_p3 (a : Addr) (w : World) : (ReflectliteValue.parts (.agg #[.pointer (some ⟨3, 60, none⟩), .pointer (some a), .int .u64 406])).run Tryd.prog w = .ok (some (60, a, 406)) w := by kernel_rfl
theorem as_el (w : World) : (Rtype.elem? 64).run Tryd.prog w = .ok (some 60) w := by kernel_rfl
theorem as_mk (p : Addr) (w : World) : (ReflectliteValue.mk 60 p ReflectliteValue.flagAddr).run Tryd.prog w = .ok (.agg #[.pointer (some ⟨3, 60, none⟩), .pointer (some p), .int .u64 406]) w := by kernel_rfl
theorem as_di (w : World) : (Rtype.directlyAssignable 60 60).run Tryd.prog w = .ok true w := by kernel_rfl

/-! ### the entries that read or write memory -/
theorem as_meth (z : Sem Value) (f : TypeId → Addr → Nat → Nat → Sem Value) (v : Value) (t : TypeId) (a : Addr) (fl : Nat) (W : World) (h : (ReflectliteValue.parts v).run Tryd.prog W = .ok (some (t, a, fl)) W) : (ReflectliteValue.method z f #[v]).run Tryd.prog W = (f t a fl (fl % 32)).run Tryd.prog W := by
  show Sem.run Tryd.prog (bind (ReflectliteValue.parts v) _) W = _
  rw [Sem.run_bind, h]
  rfl
theorem as_nil1 (a p : Addr) (W : World) (ha : W.cell? a = some (.pointer (some p))) :
    (ReflectliteValue.method (ReflectliteValue.valueError "reflectlite.Value.IsNil" 0) ReflectliteValue.isNil #[.agg #[.pointer (some ⟨3, 64, none⟩), .pointer (some a), .int .u64 150]]).run Tryd.prog W = .ok (.bool false) W := by
  rw [as_meth _ _ _ _ _ _ _ (as_p1 a W)]
  simp [ReflectliteValue.isNil, loadVar, isAgg, underlying, Tryd.underlying64, ha, Result.andThen]
theorem as_elem1 (a p : Addr) (W : World) (ha : W.cell? a = some (.pointer (some p))) :
    (ReflectliteValue.method (ReflectliteValue.valueError "reflectlite.Value.Elem" 0) ReflectliteValue.elem #[.agg #[.pointer (some ⟨3, 64, none⟩), .pointer (some a), .int .u64 150]]).run Tryd.prog W = .ok (.agg #[.pointer (some ⟨3, 60, none⟩), .pointer (some p), .int .u64 406]) W := by
  rw [as_meth _ _ _ _ _ _ _ (as_p1 a W)]
  simp [ReflectliteValue.elem, loadVar, isAgg, underlying, Tryd.underlying64, ha, Result.andThen, as_el, as_mk]
set_option maxRecDepth 100000 in
theorem as_set2 (ta b e : Addr) (old : Value) (W : World) (hb : W.cell? b = some (.pointer (some e))) (ht : W.cell? ta = some old) (hf : W.frozen? ta = false) :
    (ReflectliteValue.set #[.agg #[.pointer (some ⟨3, 60, none⟩), .pointer (some ta), .int .u64 406], .agg #[.pointer (some ⟨3, 60, none⟩), .pointer (some b), .int .u64 150]]).run Tryd.prog W = .ok (.tuple #[]) (W.setCell ta (.pointer (some e))) := by
  have hl : (loadVar 60 b).run Tryd.prog W = .ok (.pointer (some e)) W := by simp [loadVar, isAgg, underlying, Tryd.underlying60, hb, Result.andThen]
  have hst : (storeVar 60 ta (.pointer (some e))).run Tryd.prog W = .ok () (W.setCell ta (.pointer (some e))) := by
    simp [storeVar, Value.cells, storeCells, isAgg, underlying, Tryd.underlying60, Addr.add, Result.andThen]
    rw [run_store Tryd.prog W ta _ _ (by rfl)]
    simp [ht, hf]
  show Sem.run Tryd.prog (bind (ReflectliteValue.parts (.agg #[.pointer (some ⟨3, 60, none⟩), .pointer (some ta), .int .u64 406])) _) W = _
  rw [Sem.run_bind, as_p3]
  show Sem.run Tryd.prog (bind (ReflectliteValue.parts (.agg #[.pointer (some ⟨3, 60, none⟩), .pointer (some b), .int .u64 150])) _) W = _
  rw [Sem.run_bind, as_p2]
  show Sem.run Tryd.prog (bind (loadVar 60 b) _) W = _
  rw [Sem.run_bind, hl]
  show Sem.run Tryd.prog (bind (Rtype.directlyAssignable 60 60) _) W = _
  rw [Sem.run_bind, as_di]
  show Sem.run Tryd.prog (bind (storeVar 60 ta (.pointer (some e))) _) W = _
  rw [Sem.run_bind, hst]
  rfl

set_option maxHeartbeats 4000000 in
/-- An error whose own type is the target's: it is found, and the target is set; memory grows by four blocks. -/
theorem as_hit (e t : Addr) (old : Value) (w : World) (hg : w.cell? ⟨0, 0, none⟩ = some (.iface 123 (.agg #[.pointer (some ⟨3, 27, none⟩)]))) (ht0 : w.cell? t = some old) (hf0 : w.frozen? t = false) :
    Calls Tryd.prog 24 #[.iface 60 (.pointer (some e)), .iface 64 (.pointer (some t))] w fun ev w' => ev = .returned (.bool true) ∧ w' = ((((w.alloc (.cells #[.pointer (some t)] 64)).alloc (.cells #[.pointer (some ⟨3, 64, none⟩), .pointer (some ⟨w.heap.size, 0, none⟩), .int .u64 150] 98)).alloc (.cells #[.pointer (some ⟨3, 64, none⟩), .pointer (some ⟨w.heap.size, 0, none⟩), .int .u64 150] 98)).alloc (.cells #[.pointer (some e)] 60)).setCell t (.pointer (some e)) := by
  have x1 := @run_callFunc_extern Tryd.prog 42 _ (fun args => ReflectliteValue.unpack (args.getD 0 (.tuple #[]))) Tryd.func42 (by kernel_rfl) (by kernel_rfl) (by kernel_rfl) (by kernel_rfl)
  have x2 := @run_callFunc_extern Tryd.prog 43 _ (ReflectliteValue.methodAny (ReflectliteValue.valueError "reflectlite.Value.Type" 0) (fun t _ _ _ => ReflectliteType.toType t)) Tryd.func43 (by kernel_rfl) (by kernel_rfl) (by kernel_rfl) (by kernel_rfl)
  have x3 := @run_callFunc_extern Tryd.prog 44 _ (ReflectliteValue.method (ReflectliteValue.valueError "reflectlite.Value.IsNil" 0) ReflectliteValue.isNil) Tryd.func44 (by kernel_rfl) (by kernel_rfl) (by kernel_rfl) (by kernel_rfl)
  have x4 := @run_callFunc_extern Tryd.prog 97 _ (ReflectliteType.abiMethod fun t => do pure (.int .u8 (← Rtype.kind t))) Tryd.func97 (by kernel_rfl) (by kernel_rfl) (by kernel_rfl) (by kernel_rfl)
  have x5 := @run_callFunc_extern Tryd.prog 109 _ (ReflectliteType.method ReflectliteType.elem) Tryd.func109 (by kernel_rfl) (by kernel_rfl) (by kernel_rfl) (by kernel_rfl)
  have x6 := @run_callFunc_extern Tryd.prog 110 _ (ReflectliteType.relation "Implements" ReflectliteType.implements_) Tryd.func110 (by kernel_rfl) (by kernel_rfl) (by kernel_rfl) (by kernel_rfl)
  have x7 := @run_callFunc_extern Tryd.prog 61 _ (ReflectliteType.typeOf) Tryd.func61 (by kernel_rfl) (by kernel_rfl) (by kernel_rfl) (by kernel_rfl)
  have x8 := @run_callFunc_extern Tryd.prog 107 _ (ReflectliteType.relation "AssignableTo" ReflectliteType.assignableTo) Tryd.func107 (by kernel_rfl) (by kernel_rfl) (by kernel_rfl) (by kernel_rfl)
  have x9 := @run_callFunc_extern Tryd.prog 62 _ (ReflectliteValue.method (ReflectliteValue.valueError "reflectlite.Value.Elem" 0) ReflectliteValue.elem) Tryd.func62 (by kernel_rfl) (by kernel_rfl) (by kernel_rfl) (by kernel_rfl)
  have x10 := @run_callFunc_extern Tryd.prog 63 _ (ReflectliteValue.set) Tryd.func63 (by kernel_rfl) (by kernel_rfl) (by kernel_rfl) (by kernel_rfl)
  have h_as_o2 := as_o2
  have h_as_mA := as_mA
  have h_as_a2 := as_a2
  have h_as_v2 := as_v2
  have h_as_v1 := as_v1
  have h_as_t1 := as_t1
  have h_as_mK := as_mK
  have h_as_mE := as_mE
  have h_as_mI := as_mI
  have h_as_k1 := as_k1
  have h_as_k2 := as_k2
  have h_as_e1 := as_e1
  have h_as_i2 := as_i2
  have htl : t.block < w.heap.size := by
    rcases Nat.lt_or_ge t.block w.heap.size with h | h
    · exact h
    · simp [World.cell?, Array.getElem?_eq_none h] at ht0
  have hlt : 0 < w.heap.size := by omega
  have n8 := as_nil1 ⟨w.heap.size, 0, none⟩ t ((w.alloc (.cells #[.pointer (some t)] 64)).alloc (.cells #[.pointer (some ⟨3, 64, none⟩), .pointer (some ⟨w.heap.size, 0, none⟩), .int .u64 150] 98)) (by simp)
  have hg2 : ((w.alloc (.cells #[.pointer (some t)] 64)).alloc (.cells #[.pointer (some ⟨3, 64, none⟩), .pointer (some ⟨w.heap.size, 0, none⟩), .int .u64 150] 98)).cell? ⟨0, 0, none⟩ = some (.iface 123 (.agg #[.pointer (some ⟨3, 27, none⟩)])) := by
    rw [World.cell?_alloc_lt _ _ ⟨0, 0, none⟩ (by simp), World.cell?_alloc_lt _ _ ⟨0, 0, none⟩ hlt]; exact hg
  have el := as_elem1 ⟨w.heap.size, 0, none⟩ t (((w.alloc (.cells #[.pointer (some t)] 64)).alloc (.cells #[.pointer (some ⟨3, 64, none⟩), .pointer (some ⟨w.heap.size, 0, none⟩), .int .u64 150] 98)).alloc (.cells #[.pointer (some ⟨3, 64, none⟩), .pointer (some ⟨w.heap.size, 0, none⟩), .int .u64 150] 98)) (by rw [World.cell?_alloc_lt _ _ ⟨w.heap.size, 0, none⟩ (by simp; omega)]; simp)
  have st := as_set2 t ⟨w.heap.size + 1 + 1 + 1, 0, none⟩ e old ((((w.alloc (.cells #[.pointer (some t)] 64)).alloc (.cells #[.pointer (some ⟨3, 64, none⟩), .pointer (some ⟨w.heap.size, 0, none⟩), .int .u64 150] 98)).alloc (.cells #[.pointer (some ⟨3, 64, none⟩), .pointer (some ⟨w.heap.size, 0, none⟩), .int .u64 150] 98)).alloc (.cells #[.pointer (some e)] 60))
    (by rw [World.cell?_alloc_at _ _ _ _ (by simp)]; rfl)
    (by rw [World.cell?_alloc_lt _ _ t (by simp; omega), World.cell?_alloc_lt _ _ t (by simp; omega), World.cell?_alloc_lt _ _ t (by simp; omega), World.cell?_alloc_lt _ _ t htl]; exact ht0)
    (by rw [World.frozen?_alloc_old _ _ t (by simp; omega), World.frozen?_alloc_old _ _ t (by simp; omega), World.frozen?_alloc_old _ _ t (by simp; omega), World.frozen?_alloc_old _ _ t (Nat.ne_of_lt htl)]; exact hf0)
  go_enter Tryd.func24, Tryd.ntmps24
  go_wp2
  refine wp_loop_rounds 1 ?_
  rw [rounds_succ]
  go_wp2
  go_ret
  exact ⟨rfl, rfl⟩
end Go.Proofs.YtljhpbjngbbjbaaDoor

/- avowhelp.Told: the place and the number of an error. -/
namespace Go.Proofs.YtljhpbjngbbjbaaDoor
open Go Go.RowKit

/-- The library's variable errors.errorType, as its initialiser lays it. -/
def EH (w : World) : Prop := w.cell? ⟨0, 0, none⟩ = some (.iface 123 (.agg #[.pointer (some ⟨3, 27, none⟩)]))
theorem EH.below {w w' : World} {B : Nat} (h : EH w) (hb : Below B w w') (hB : 0 < B) : EH w' := by
  unfold EH at h ⊢
  rw [hb.cell (p := ⟨0, 0, none⟩) hB]
  exact h
theorem EH.lt {w : World} (h : EH w) : 0 < w.heap.size := by
  unfold EH at h
  rcases Nat.eq_zero_or_pos w.heap.size with h0 | h1
  · simp [World.cell?, h0] at h
  · exact h1
/-- errors.As, in short: the target is set, all else that was there stands. -/
theorem as_short (e t : Addr) (old : Value) (w : World) (hg : EH w) (ht0 : w.cell? t = some old) (hf0 : w.frozen? t = false) :
    Calls Tryd.prog 24 #[.iface 60 (.pointer (some e)), .iface 64 (.pointer (some t))] w fun ev w' => ev = .returned (.bool true) ∧ w'.cell? t = some (.pointer (some e)) ∧ (∀ q : Addr, q.block < w.heap.size → q.block ≠ t.block → w'.cell? q = w.cell? q) ∧ ∀ B, B ≤ t.block → Below B w w' := by
  refine (as_hit e t old w hg ht0 hf0).mono ?_
  rintro ev w' ⟨rfl, rfl⟩
  have htl : t.block < w.heap.size := by
    rcases Nat.lt_or_ge t.block w.heap.size with h | h
    · exact h
    · simp [World.cell?, Array.getElem?_eq_none h] at ht0
  refine ⟨rfl, ?_, fun q hq hne => ?_, fun B hB => ?_⟩
  · refine World.cell?_setCell_same _ t _ (u := old) ?_
    rw [World.cell?_alloc_lt _ _ t (by simp; omega), World.cell?_alloc_lt _ _ t (by simp; omega), World.cell?_alloc_lt _ _ t (by simp; omega), World.cell?_alloc_lt _ _ t htl]
    exact ht0
  · rw [World.cell?_setCell_other _ t q _ (fun e => hne (by rw [e])), World.cell?_alloc_lt _ _ q (by simp; omega), World.cell?_alloc_lt _ _ q (by simp; omega), World.cell?_alloc_lt _ _ q (by simp; omega), World.cell?_alloc_lt _ _ q hq]
  · refine Below.setCell ?_ hB _
    exact ((((Below.refl B w).alloc (by omega) _).alloc (by simp; omega) _).alloc (by simp; omega) _).alloc (by simp; omega) _
end Go.Proofs.YtljhpbjngbbjbaaDoor

/- Places; slices of bytes that are made and filled; the document's words. -/
namespace Go.Proofs.YtljhpbjngbbjbaaDoor
open Go Go.RowKit
theorem blk {w : World} {q : Nat} {cs : Array Value} {ty : TypeId} (h : w.heap[q]? = some (.cells cs ty)) : q < w.heap.size ∧ (∀ (o : Nat) v, cs[o]? = some v → w.cell? ⟨q, o, none⟩ = some v) ∧ ∀ o, w.frozen? ⟨q, o, none⟩ = false := by
  refine ⟨(Array.getElem?_eq_some_iff.1 h).1, fun o v hv => ?_, fun o => by simp [World.frozen?, h]⟩
  simp only [World.cell?, h, hv]
  rfl
theorem set_block {w : World} {q o : Nat} {cs : Array Value} {ty : TypeId} (h : w.heap[q]? = some (.cells cs ty)) (v : Value) : (w.setCell ⟨q, o, none⟩ v).heap[q]? = some (.cells (cs.setIfInBounds o v) ty) := by
  have hlt : q < w.heap.size := (Array.getElem?_eq_some_iff.1 h).1
  simp only [World.setCell, Array.getElem?_modify, h]
  simp
/-- A place among n, of any number. -/
def plc (k n : Int) : Int := if Int.tmod k n < 0 then Int.tmod k n + n else Int.tmod k n
theorem tmod_lt {k n : Int} (hn : 0 < n) : -n < Int.tmod k n ∧ Int.tmod k n < n := by
  have h1 := Int.tmod_lt_of_pos k hn
  have h2 : Int.tmod (-k) n < n := Int.tmod_lt_of_pos (-k) hn
  rw [Int.neg_tmod] at h2
  omega
theorem plc_in (k : Int) {n : Int} (hn : 0 < n) : 0 ≤ plc k n ∧ plc k n < n := by
  have h := tmod_lt (k := k) hn
  unfold plc
  split <;> omega
set_option maxRecDepth 100000 in
set_option maxHeartbeats 4000000 in
theorem place_any (k n : Int) (w : World) (hn : 0 < n) (hn2 : n ≤ 1000000000) : Calls Tryd.prog 18 #[.int .i64 k, .int .i64 n] w fun e w' => e = .returned (.int .i64 (plc k n)) ∧ w' = w := by
  have hr := tmod_lt (k := k) hn
  have n0 : ¬ n = 0 := by omega
  have n1 : (n == 0) = false := by simpa using n0
  have e1 : IntKind.i64.wrap (Int.tmod k n) = Int.tmod k n := by rw [IntKind.wrap_i64]; omega
  by_cases h : Int.tmod k n < 0
  · have hp : Hid (plc k n = Int.tmod k n + n) := if_pos h
    have e2 : IntKind.i64.wrap (Int.tmod k n + n) = Int.tmod k n + n := by rw [IntKind.wrap_i64]; omega
    rw [unhide hp]
    go_enter Tryd.func18, Tryd.ntmps18
    go_wp2
    go_ret
    exact ⟨rfl, rfl⟩
  · have hp : Hid (plc k n = Int.tmod k n) := if_neg h
    have hd : decide (Int.tmod k n < 0) = false := by simp; omega
    rw [unhide hp]
    go_enter Tryd.func18, Tryd.ntmps18
    go_wp2
    go_ret
    exact ⟨rfl, rfl⟩

def fillL (n i : Nat) (d : UInt8) : List UInt8 := List.replicate i d ++ List.replicate (n - i) 0
def FY (V : World) (g n i : Nat) (d : UInt8) : Prop := V.heap[g]? = some (.cells (Lib.byteCells (fillL n i d)).toArray 5)
theorem bc_len (l : List UInt8) : (Lib.byteCells l).length = l.length := by simp [Lib.byteCells]
theorem fill_len {n i : Nat} (d : UInt8) (h : i ≤ n) : (fillL n i d).length = n := by simp [fillL]; omega
theorem fill_step {n i : Nat} (d : UInt8) (h : i < n) : (fillL n i d).set i d = fillL n (i + 1) d := by
  unfold fillL
  obtain ⟨k, hk⟩ : ∃ k, n - i = k + 1 := ⟨n - i - 1, by omega⟩
  rw [hk, show n - (i + 1) = k by omega, List.replicate_succ, List.set_append_right _ _ (by simp)]
  simp [List.replicate_succ', List.append_assoc]
theorem FY.put {V : World} {g n i : Nat} {d : UInt8} (h : FY V g n i d) (hi : i < n) : FY (V.setCell ⟨g, i, none⟩ (.int .u8 d.toNat)) g n (i + 1) d := by
  unfold FY at h ⊢
  rw [set_block h, ← fill_step d hi]
  congr 2
  simp [Lib.byteCells, List.map_set]
theorem FY.cell {V : World} {g n i : Nat} {d : UInt8} (h : FY V g n i d) (hi : i < n) : ∃ u, V.cell? ⟨g, i, none⟩ = some u ∧ V.frozen? ⟨g, i, none⟩ = false := by
  have hl : i < (Lib.byteCells (fillL n i d)).toArray.size := by
    simp only [List.size_toArray, bc_len]
    rw [fill_len d (by omega)]
    exact hi
  exact ⟨_, (blk h).2.1 i _ (Array.getElem?_eq_getElem hl), (blk h).2.2 i⟩
def wordD : List (List UInt8) := [[108, 101, 116], [114, 101, 99], [114, 101, 102], [105, 110], [105, 115], [105, 102], [116, 104, 101, 110], [101, 108, 115, 101], [116, 114, 121], [119, 105, 116, 104], [114, 97, 105, 115, 101], [97, 115, 115, 101, 114, 116], [111, 108, 100], [114, 101, 113, 117, 105, 114, 101, 115], [101, 110, 115, 117, 114, 101, 115], [100, 101, 99, 114, 101, 97, 115, 101, 115], [105, 110, 116], [98, 111, 111, 108], [117, 110, 105, 116], [116, 114, 117, 101], [102, 97, 108, 115, 101], [110, 111, 116], [80, 117, 114, 101], [83, 116, 97, 116, 101], [69, 120, 110], [65, 108, 108], [68, 105, 118]]
/-- The document's list of words: a new block of 27 strings. -/
def wdB (k : Nat) : ByteArray := ⟨(wordD.getD k []).toArray⟩
theorem wd_cells : ∀ k, k < 27 → ((#[.string ⟨#[108, 101, 116]⟩, .string ⟨#[114, 101, 99]⟩, .string ⟨#[114, 101, 102]⟩, .string ⟨#[105, 110]⟩, .string ⟨#[105, 115]⟩, .string ⟨#[105, 102]⟩, .string ⟨#[116, 104, 101, 110]⟩, .string ⟨#[101, 108, 115, 101]⟩, .string ⟨#[116, 114, 121]⟩, .string ⟨#[119, 105, 116, 104]⟩, .string ⟨#[114, 97, 105, 115, 101]⟩, .string ⟨#[97, 115, 115, 101, 114, 116]⟩, .string ⟨#[111, 108, 100]⟩, .string ⟨#[114, 101, 113, 117, 105, 114, 101, 115]⟩, .string ⟨#[101, 110, 115, 117, 114, 101, 115]⟩, .string ⟨#[100, 101, 99, 114, 101, 97, 115, 101, 115]⟩, .string ⟨#[105, 110, 116]⟩, .string ⟨#[98, 111, 111, 108]⟩, .string ⟨#[117, 110, 105, 116]⟩, .string ⟨#[116, 114, 117, 101]⟩, .string ⟨#[102, 97, 108, 115, 101]⟩, .string ⟨#[110, 111, 116]⟩, .string ⟨#[80, 117, 114, 101]⟩, .string ⟨#[83, 116, 97, 116, 101]⟩, .string ⟨#[69, 120, 110]⟩, .string ⟨#[65, 108, 108]⟩, .string ⟨#[68, 105, 118]⟩] : Array Value))[k]? = some (.string (wdB k))
  | 0, _ => rfl
  | 1, _ => rfl
  | 2, _ => rfl
  | 3, _ => rfl
  | 4, _ => rfl
  | 5, _ => rfl
  | 6, _ => rfl
  | 7, _ => rfl
  | 8, _ => rfl
  | 9, _ => rfl
  | 10, _ => rfl
  | 11, _ => rfl
  | 12, _ => rfl
  | 13, _ => rfl
  | 14, _ => rfl
  | 15, _ => rfl
  | 16, _ => rfl
  | 17, _ => rfl
  | 18, _ => rfl
  | 19, _ => rfl
  | 20, _ => rfl
  | 21, _ => rfl
  | 22, _ => rfl
  | 23, _ => rfl
  | 24, _ => rfl
  | 25, _ => rfl
  | 26, _ => rfl
  | k + 27, h => by omega
theorem wordD_mem : ∀ l ∈ wordL, l ∈ wordD := by decide
theorem wordL_mem : ∀ k, k < 27 → wordD.getD k [] ∈ wordL := by decide
set_option maxRecDepth 100000 in
set_option maxHeartbeats 16000000 in
theorem refWord_any (s : ByteArray) (w : World) : Calls Tryd.prog 47 #[.string s] w fun e w' => e = .returned (.bool (isWd s)) ∧ Below w.heap.size w w' := by
  obtain ⟨A, hA⟩ : ∃ A : Array Value, #[.string ⟨#[108, 101, 116]⟩, .string ⟨#[114, 101, 99]⟩, .string ⟨#[114, 101, 102]⟩, .string ⟨#[105, 110]⟩, .string ⟨#[105, 115]⟩, .string ⟨#[105, 102]⟩, .string ⟨#[116, 104, 101, 110]⟩, .string ⟨#[101, 108, 115, 101]⟩, .string ⟨#[116, 114, 121]⟩, .string ⟨#[119, 105, 116, 104]⟩, .string ⟨#[114, 97, 105, 115, 101]⟩, .string ⟨#[97, 115, 115, 101, 114, 116]⟩, .string ⟨#[111, 108, 100]⟩, .string ⟨#[114, 101, 113, 117, 105, 114, 101, 115]⟩, .string ⟨#[101, 110, 115, 117, 114, 101, 115]⟩, .string ⟨#[100, 101, 99, 114, 101, 97, 115, 101, 115]⟩, .string ⟨#[105, 110, 116]⟩, .string ⟨#[98, 111, 111, 108]⟩, .string ⟨#[117, 110, 105, 116]⟩, .string ⟨#[116, 114, 117, 101]⟩, .string ⟨#[102, 97, 108, 115, 101]⟩, .string ⟨#[110, 111, 116]⟩, .string ⟨#[80, 117, 114, 101]⟩, .string ⟨#[83, 116, 97, 116, 101]⟩, .string ⟨#[69, 120, 110]⟩, .string ⟨#[65, 108, 108]⟩, .string ⟨#[68, 105, 118]⟩] = A := ⟨_, rfl⟩
  have hc := wd_cells
  rw [hA] at hc
  have hc := hide hc
  go_enter Tryd.func47, Tryd.ntmps47
  go_wp2
  obtain ⟨V, hV⟩ : ∃ V, w.alloc (.cells A 9) = V := ⟨_, rfl⟩
  have hVb : Below w.heap.size w V := by rw [← hV]; exact (Below.refl _ w).alloc (Nat.le_refl _) _
  have hVc : Hid (∀ k, k < 27 → V.cell? ⟨w.heap.size, k, none⟩ = some (.string (wdB k))) := fun k hk => by
    have := heap_new w (.cells A 9)
    rw [← hV]
    simp only [World.cell?, this, unhide hc k hk]
    rfl
  rw [hV]
  replace hV := hide hV
  clear hA
  go_loopw [4] (fun iv wr => ∃ k : Nat, iv = .int .i64 k ∧ k ≤ 27 ∧ wr = V ∧ ∀ j, j < k → (s.data.toList == wordD.getD j []) = false) (fun iv _ => 27 - (intOf iv).toNat)
  case atStart => exact ⟨0, rfl, by omega, rfl, fun j hj => by omega⟩
  case round =>
    obtain ⟨k, rfl, hk, rfl, hn⟩ := hrel
    replace hn := hide hn
    by_cases hk2 : k < 27
    · have c := unhide hVc k hk2
      have hl : (wdB k).toList = wordD.getD k [] := by rw [Lib.toList_data]; exact List.toList_toArray ..
      have hl2 := Lib.toList_data s
      cases he : ((wdB k).toList == s.toList) with
      | true =>
        have hy : Hid (isWd s = true) := by
          unfold isWd
          rw [hl, hl2] at he
          refine List.any_eq_true.2 ⟨_, wordL_mem k hk2, ?_⟩
          simpa using (by simpa using he : wordD.getD k [] = s.data.toList).symm
        replace hl := hide hl
        replace hl2 := hide hl2
        go_wp2
        go_ret
        exact ⟨by rw [unhide hy]; rfl, hVb⟩
      | false =>
        have hn2 : Hid (∀ j, j < k + 1 → (s.data.toList == wordD.getD j []) = false) := fun j hj => by
          rcases Nat.lt_or_eq_of_le (Nat.le_of_lt_succ hj) with h | h
          · exact unhide hn j h
          · subst h
            rw [hl, hl2] at he
            have he' : wordD.getD j [] ≠ s.data.toList := by simpa using he
            simpa using fun h => he' h.symm
        replace hl := hide hl
        replace hl2 := hide hl2
        go_wp2
        go_roundw
        case rel => exact ⟨k + 1, rfl, by omega, trivial, unhide hn2⟩
        case measure => simp [intOf]; omega
    · obtain rfl : k = 27 := by omega
      have hy : Hid (isWd s = false) := by
        unfold isWd
        rw [List.any_eq_false]
        intro l hl
        obtain ⟨j, hj, rfl⟩ := List.getElem_of_mem (wordD_mem l hl)
        have := unhide hn j hj
        rw [List.getD_eq_getElem?_getD, List.getElem?_eq_getElem hj] at this
        rw [show (s.data.toList == wordD[j]) = false from this]
        exact Bool.false_ne_true
      go_wp2
      go_ret
      exact ⟨by rw [unhide hy]; rfl, hVb⟩
end Go.Proofs.YtljhpbjngbbjbaaDoor

/- Tokens as they lie; what Tokens hands back, in short; the chapter's example. -/
namespace Go.Proofs.YtljhpbjngbbjbaaDoor
open Go Go.RowKit

/-- A row of tokens (kind, text, place) as it lies. -/
def RdT (w : World) (v : Value) (l : List (Int × ByteArray × Int)) : Prop :=
  ∃ a c, v = .slice a l.length c ∧ (l ≠ [] → ∃ g, a = some ⟨g, 0, none⟩ ∧ g < w.heap.size ∧ ∀ j x, l[j]? = some x → w.cell? ⟨g, j * 3, none⟩ = some (.int .i64 x.1) ∧ w.cell? ⟨g, j * 3 + 1, none⟩ = some (.string x.2.1) ∧ w.cell? ⟨g, j * 3 + 2, none⟩ = some (.int .i64 x.2.2))
theorem RdT.below {w w' : World} {v : Value} {l : List (Int × ByteArray × Int)} (h : RdT w v l) (hb : Below w.heap.size w w') : RdT w' v l := by
  obtain ⟨a, c, rfl, h⟩ := h
  refine ⟨a, c, rfl, fun hl => ?_⟩
  obtain ⟨g, e, hg, hc⟩ := h hl
  refine ⟨g, e, Nat.lt_of_lt_of_le hg hb.size, fun j x hx => ?_⟩
  rw [hb.cell (p := ⟨g, j * 3, none⟩) hg, hb.cell (p := ⟨g, j * 3 + 1, none⟩) hg, hb.cell (p := ⟨g, j * 3 + 2, none⟩) hg]
  exact hc j x hx
/-- Its cells. -/
def tcells (l : List (Int × ByteArray × Int)) : List Value := l.flatMap fun x => [.int .i64 x.1, .string x.2.1, .int .i64 x.2.2]
theorem tcells_get : ∀ (l : List (Int × ByteArray × Int)) (j : Nat) x, l[j]? = some x → (tcells l)[j * 3]? = some (.int .i64 x.1) ∧ (tcells l)[j * 3 + 1]? = some (.string x.2.1) ∧ (tcells l)[j * 3 + 2]? = some (.int .i64 x.2.2) := by
  intro l
  induction l with
  | nil => intro j x h; cases h
  | cons y l ih =>
    intro j x h
    have e : tcells (y :: l) = [.int .i64 y.1, .string y.2.1, .int .i64 y.2.2] ++ tcells l := rfl
    cases j with
    | zero =>
      obtain rfl : y = x := by simpa using h
      exact ⟨rfl, rfl, rfl⟩
    | succ j =>
      have := ih j x (by simpa using h)
      rw [e, show (j + 1) * 3 = j * 3 + 3 by omega]
      exact this
theorem own_rdT {w : World} {B n : Nat} {v : Value} {l : List (Int × ByteArray × Int)} (h : w.ownsRow B 87 3 v n (tcells l)) (hn : n = l.length) : RdT w v l := by
  obtain ⟨h1, ⟨rfl, h0⟩ | ⟨g, cap, cur, rfl, hB, hc, hle, hm, hsz, htk⟩⟩ := h
  · subst hn
    have : l = [] := List.length_eq_zero_iff.1 h0
    subst this
    exact ⟨none, 0, rfl, fun h => absurd rfl h⟩
  · subst hn
    refine ⟨_, cap, rfl, fun _ => ⟨g, rfl, (Array.getElem?_eq_some_iff.1 hc).1, fun j x hx => ?_⟩⟩
    have hk : ∀ (i : Nat) u, (tcells l)[i]? = some u → w.cell? ⟨g, i, none⟩ = some u := fun i u hu => by
      rw [← htk, List.getElem?_take] at hu
      split at hu
      · exact (blk hc).2.1 i u (by rw [← Array.getElem?_toList]; exact hu)
      · cases hu
    have := tcells_get l j x hx
    exact ⟨hk _ _ this.1, hk _ _ this.2.1, hk _ _ this.2.2⟩
/-- The tokens of a text, with its end. -/
def tkL (s : ByteArray) : List (Int × ByteArray × Int) := (tk s).1.map (fun x => (x.1, s.extract x.2.1 x.2.2, (x.2.1 : Int))) ++ [(0, ⟨#[]⟩, (s.size : Int))]
theorem toks_eq (s : ByteArray) : ∀ l : List (Int × Nat × Nat), toks s l = tcells (l.map (fun x => (x.1, s.extract x.2.1 x.2.2, (x.2.1 : Int)))) := by
  intro l
  induction l with
  | nil => rfl
  | cons x l ih =>
    have e1 : toks s (x :: l) = tokC s x ++ toks s l := rfl
    rw [e1, ih]
    rfl
theorem tcells_app (a b : List (Int × ByteArray × Int)) : tcells (a ++ b) = tcells a ++ tcells b := List.flatMap_append
theorem tkL_len (s : ByteArray) : (tkL s).length = (tk s).1.length + 1 := by simp [tkL]
end Go.Proofs.YtljhpbjngbbjbaaDoor

namespace Go.Proofs.YtljhpbjngbbjbaaDoor
open Go Go.RowKit
theorem range_block {w : World} {q : Nat} {cs : List Value} {ty : TypeId} (h : w.heap[q]? = some (.cells cs.toArray ty)) : w.rangeAt q 0 cs := by
  intro j v hv
  have hv' : cs.toArray[0 + j]? = some v := by simpa using hv
  simp only [World.cell?, h, hv']
  rfl
theorem res_row {P : Program} {W : World} {fn : Func} {tmps : Array Value} {t b o : Nat} {ty : TypeId} {cs : List Value} {d : TypeDesc} (hf : fn.results = #[.cell t ty]) (ht : tmps[t]? = some (.pointer (some ⟨b, o, none⟩))) (hr : W.rangeAt b o cs)
    (hu : P.underlying ty = some d) (hd : d.isRow = true) (hi : (P.info? ty).map (·.size) = some cs.length) : (results fn tmps).run P W = .ok (.agg cs.toArray) W := by
  have h := run_loadVar_mid (P := P) W b o ty cs d hr hu hd hi
  simp [results, hf, ht, asAddr, h]
theorem box_new (w : World) (cs : Array Value) (ty : TypeId) : ∃ w0, w.alloc (.cells cs ty) = w0 ∧ Below w.heap.size w w0 ∧ w0.heap.size = w.heap.size + 1 ∧ w0.heap[w.heap.size]? = some (.cells cs ty) :=
  ⟨_, rfl, (Below.refl _ w).alloc (Nat.le_refl _) _, by simp, (MapKept.heap_alloc w (.cells cs ty)).1⟩
/-- All stands but one block. -/
structure But (r : Nat) (w w' : World) : Prop where
  os : w'.os = w.os
  tape : w'.tape = w.tape
  output : w'.output = w.output
  size : w.heap.size ≤ w'.heap.size
  block : ∀ k, k < w.heap.size → k ≠ r → w'.heap[k]? = w.heap[k]?
theorem But.refl (r : Nat) (w : World) : But r w w := ⟨rfl, rfl, rfl, Nat.le_refl _, fun _ _ _ => rfl⟩
theorem But.trans {r : Nat} {a b c : World} (h : But r a b) (k : But r b c) : But r a c :=
  ⟨k.os.trans h.os, k.tape.trans h.tape, k.output.trans h.output, Nat.le_trans h.size k.size, fun j hj hr => (k.block j (Nat.lt_of_lt_of_le hj h.size) hr).trans (h.block j hj hr)⟩
theorem But.of {r : Nat} {w w' : World} (h : Below w.heap.size w w') : But r w w' := ⟨h.os, h.tape, h.output, h.size, fun k hk _ => h.block k hk⟩
theorem But.set {r : Nat} {w w' : World} (h : But r w w') (o : Nat) (v : Value) : But r w (w'.setCell ⟨r, o, none⟩ v) :=
  ⟨h.os, h.tape, h.output, by simpa using h.size, fun k hk hr => (Below.heap_setCell w' ⟨r, o, none⟩ v k hr).trans (h.block k hk hr)⟩
theorem range_same {w w' : World} {b o : Nat} {cs : List Value} (h : w.rangeAt b o cs) (hb : w'.heap[b]? = w.heap[b]?) : w'.rangeAt b o cs := fun j v hv => by
  rw [World.cell?_of_block (w := w) (a := ⟨b, o + j, none⟩) hb]
  exact h j v hv
/-- A row of expressions. -/
def RowX (w : World) (P : Nat → Prop) (a : Option Addr) (n c : Nat) (p : Nat → Nat → Nat → Prop) : Prop := n ≤ c ∧ n ≤ 281474976710656 ∧ (n ≠ 0 → ∃ b off, a = some ⟨b, off, none⟩ ∧ P b ∧ b < w.heap.size ∧ ∀ j, j < n → p b (off + j * 7) j)
/-- An expression that lies at a place, all of it in blocks of one kind, and is so high at most. -/
def ExAt (w : World) (P : Nat → Prop) : Nat → Nat → Nat → Ex → Prop
  | 0, _, _, _ => False
  | h + 1, b, o, .mk op nm nu bl l i => ∃ a c, w.rangeAt b o [.int .i64 op, .string nm, .string nu, .bool bl, .slice a l.length c, .int .i64 0, .int .i64 i] ∧ RowX w P a l.length c fun b o j => ∀ t, l[j]? = some t → ExAt w P h b o t
/-- An expression as a value. -/
def IsEP (w : World) (P : Nat → Prop) (v : Value) : Ex → Prop
  | .mk op nm nu bl l i => ∃ h a c, v = .agg #[.int .i64 op, .string nm, .string nu, .bool bl, .slice a l.length c, .int .i64 0, .int .i64 i] ∧ RowX w P a l.length c fun b o j => ∀ t, l[j]? = some t → ExAt w P h b o t
/-- An expression as a value, all of it from block lo on. -/
def IsE (w : World) (lo : Nat) (v : Value) (t : Ex) : Prop := IsEP w (fun b => lo ≤ b) v t
theorem RowX.mono {w w' : World} {P P' : Nat → Prop} {n c : Nat} {a : Option Addr} {p q : Nat → Nat → Nat → Prop} (h : RowX w P a n c p) (hs : w.heap.size ≤ w'.heap.size) (hl : ∀ b, P b → P' b) (hp : ∀ b o j, P b → b < w.heap.size → p b o j → q b o j) : RowX w' P' a n c q :=
  ⟨h.1, h.2.1, fun h0 => by
    obtain ⟨b, off, e, hr, hb, hj⟩ := h.2.2 h0
    exact ⟨b, off, e, hl b hr, Nat.lt_of_lt_of_le hb hs, fun j hjn => hp _ _ _ hr hb (hj j hjn)⟩⟩
/-- Blocks of a kind stand. -/
def StaysP (P : Nat → Prop) (w w' : World) : Prop := w.heap.size ≤ w'.heap.size ∧ ∀ k, P k → k < w.heap.size → w'.heap[k]? = w.heap[k]?
/-- Blocks from lo on stand. -/
def Stays (lo : Nat) (w w' : World) : Prop := w.heap.size ≤ w'.heap.size ∧ ∀ k, lo ≤ k → k < w.heap.size → w'.heap[k]? = w.heap[k]?
theorem Stays.trans {lo : Nat} {a b c : World} (h : Stays lo a b) (k : Stays lo b c) : Stays lo a c := ⟨Nat.le_trans h.1 k.1, fun j hj hs => (k.2 j hj (Nat.lt_of_lt_of_le hs h.1)).trans (h.2 j hj hs)⟩
theorem Stays.of {lo : Nat} {w w' : World} (h : Below w.heap.size w w') : Stays lo w w' := ⟨h.size, fun k _ hk => h.block k hk⟩
theorem Stays.but {lo r : Nat} {w w' : World} (h : But r w w') (hr : r < lo) : Stays lo w w' := ⟨h.size, fun k hl hk => h.block k hk (by omega)⟩
theorem Stays.set {lo q : Nat} {w w' : World} (h : Stays lo w w') (hq : q < lo) (o : Nat) (v : Value) : Stays lo w (w'.setCell ⟨q, o, none⟩ v) := ⟨by simpa using h.1, fun k hl hk => (Below.heap_setCell w' ⟨q, o, none⟩ v k (by show k ≠ q; omega)).trans (h.2 k hl hk)⟩
theorem ExAt.keep {w w' : World} {P P' : Nat → Prop} (hb : StaysP P w w') (hl : ∀ b, P b → P' b) : ∀ (h b o : Nat) (t : Ex), P b → b < w.heap.size → ExAt w P h b o t → ExAt w' P' h b o t
  | 0, _, _, _, _, _, h => h
  | h + 1, b, o, .mk op nm nu bl l i, hr, hbl, hx => by
    obtain ⟨a, c, h1, h2⟩ := hx
    exact ⟨a, c, range_same h1 (hb.2 b hr hbl), h2.mono hb.1 hl fun b o j hr hbl hj t ht => ExAt.keep hb hl h b o t hr hbl (hj t ht)⟩
theorem ExAt.up {w : World} {P : Nat → Prop} : ∀ (h k b o : Nat) (t : Ex), ExAt w P h b o t → h ≤ k → ExAt w P k b o t
  | 0, _, _, _, _, h, _ => h.elim
  | h + 1, 0, _, _, _, _, hk => absurd hk (by omega)
  | h + 1, k + 1, b, o, .mk op nm nu bl l i, hx, hk => by
    obtain ⟨a, c, h1, h2⟩ := hx
    exact ⟨a, c, h1, h2.mono (Nat.le_refl _) (fun _ h => h) fun b o j _ _ hj t ht => ExAt.up h k b o t (hj t ht) (by omega)⟩
theorem IsEP.keep {w w' : World} {P P' : Nat → Prop} {v : Value} {t : Ex} (h : IsEP w P v t) (hb : StaysP P w w') (hl : ∀ b, P b → P' b) : IsEP w' P' v t := by
  obtain ⟨op, nm, nu, bl, l, i⟩ := t
  obtain ⟨k, a, c, e, h2⟩ := h
  exact ⟨k, a, c, e, h2.mono hb.1 hl fun b o j hr hbl hj t ht => ExAt.keep hb hl k b o t hr hbl (hj t ht)⟩
theorem IsE.keep {w w' : World} {lo lo' : Nat} {v : Value} {t : Ex} (h : IsE w lo v t) (hb : Stays lo w w') (hl : lo' ≤ lo) : IsE w' lo' v t := IsEP.keep h hb fun _ hb => Nat.le_trans hl hb
/-- Tokens, as a text has them: the last one is the end, and no other one. -/
structure TsOk (ts : List (Int × ByteArray × Int)) : Prop where
  len : ts.length ≤ 100000
  pos : 0 < ts.length
  txt : ∀ (j : Nat) x, ts[j]? = some x → (x.2.1 ≠ ⟨#[]⟩ ∨ x.1 ≠ 0) → j + 1 < ts.length
theorem nx_of {ts : List (Int × ByteArray × Int)} {p : Nat} (h : p < ts.length) : ts[p]? = some (nx ts p) := by
  unfold nx
  rw [List.getD_eq_getElem?_getD, List.getElem?_eq_getElem h]
  rfl
end Go.Proofs.YtljhpbjngbbjbaaDoor
