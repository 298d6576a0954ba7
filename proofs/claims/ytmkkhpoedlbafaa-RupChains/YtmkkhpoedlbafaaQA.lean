/- Slices of ints, slices of such; maps of ints and truths: what they read as. -/
import Derived.Test.YtmkkhpoedlbafaaProg
import Derived.WalkKit
import Derived.ProofKit
import Derived.MapKept
set_option linter.unusedVariables false
set_option linter.unusedSimpArgs false

/- Propagation over clauses: what follows. -/
namespace Go.Proofs.Ytmkkhpoedlbafaa

/-- A literal is a number but 0 and the least int. -/
def LitOk (x : Int) : Prop := x ≠ 0 ∧ x ≠ -9223372036854775808
def Whole (c : List Int) : Prop := ∀ x ∈ c, LitOk x
/-- A set of literals to which no clause of l adds one. -/
def Shut (l : List (List Int)) (S : Int → Prop) : Prop := ∀ d ∈ l, Whole d → ∀ x ∈ d, (∀ y ∈ d, y ≠ x → S (-y)) → S x
/-- What is told true, by the clauses of l, out of what is true at first: it is in every such set. -/
def Up (l : List (List Int)) (S0 : Int → Prop) (x : Int) : Prop := ∀ S : Int → Prop, (∀ x, S0 x → S x) → Shut l S → S x
theorem Up.base {l : List (List Int)} {S0 : Int → Prop} {x : Int} (h : S0 x) : Up l S0 x := fun _ h0 _ => h0 x h
theorem Up.unit {l : List (List Int)} {S0 : Int → Prop} {d : List Int} {x : Int} (h1 : d ∈ l) (h2 : Whole d) (h3 : x ∈ d) (h4 : ∀ y ∈ d, y ≠ x → Up l S0 (-y)) : Up l S0 x :=
  fun S h0 hs => hs d h1 h2 x h3 fun y hy hne => h4 y hy hne S h0 hs
def Clash (l : List (List Int)) (S0 : Int → Prop) : Prop := ∃ d ∈ l, Whole d ∧ ∀ y ∈ d, Up l S0 (-y)
def opp (c : List Int) : Int → Prop := fun x => -x ∈ c
def Fol (l : List (List Int)) (c : List Int) : Prop := Whole c ∧ ((∃ x ∈ c, -x ∈ c) ∨ Clash l (opp c))
theorem Up.mono {l m : List (List Int)} {S T : Int → Prop} (hl : ∀ d ∈ l, d ∈ m) (hS : ∀ x, S x → T x) {x : Int} (h : Up l S x) : Up m T x :=
  fun U h0 hs => h U (fun x hx => h0 x (hS x hx)) fun d hd => hs d (hl d hd)
theorem Clash.mono {l m : List (List Int)} {S T : Int → Prop} (hl : ∀ d ∈ l, d ∈ m) (hS : ∀ x, S x → T x) (h : Clash l S) : Clash m T := by
  obtain ⟨d, h1, h2, h3⟩ := h
  exact ⟨d, hl d h1, h2, fun y hy => (h3 y hy).mono hl hS⟩
theorem Fol.more {l m : List (List Int)} {c : List Int} (hl : ∀ d ∈ l, d ∈ m) (h : Fol l c) : Fol m c := ⟨h.1, h.2.imp id (Clash.mono hl fun _ h => h)⟩
theorem Fol.lits {l : List (List Int)} {c d : List Int} (hd : Whole d) (h : Fol l c) : Fol l (c ++ d) := by
  refine ⟨fun x hx => ?_, ?_⟩
  · rcases List.mem_append.1 hx with h1 | h1
    · exact h.1 x h1
    · exact hd x h1
  · rcases h.2 with ⟨x, h1, h2⟩ | h1
    · exact .inl ⟨x, List.mem_append_left _ h1, List.mem_append_left _ h2⟩
    · exact .inr (h1.mono (fun _ h => h) fun x hx => List.mem_append_left _ hx)
theorem Fol.same {l m : List (List Int)} {c : List Int} (hl : ∀ d, d ∈ l ↔ d ∈ m) : Fol l c ↔ Fol m c := ⟨Fol.more fun d => (hl d).1, Fol.more fun d => (hl d).2⟩
/-- What is told is true wherever all of l are. -/
theorem Up.sound {l : List (List Int)} {S : Int → Prop} {V : Int → Prop} (hl : ∀ d ∈ l, ∃ x ∈ d, V x) (hS : ∀ x, S x → V x) (hn : ∀ x, V x → V (-x) → False) {x : Int} (h : Up l S x) : V x := by
  refine h V hS fun d hd _ x _ hall => ?_
  obtain ⟨y, hy, hv⟩ := hl d hd
  by_cases e : y = x
  · rw [← e]; exact hv
  · exact (hn y hv (hall y hy e)).elim
theorem Fol.sound {l : List (List Int)} {c : List Int} {V : Int → Prop} (h : Fol l c) (hl : ∀ d ∈ l, ∃ x ∈ d, V x) (hn : ∀ x, V x → V (-x) → False) (ht : ∀ x ∈ c, V x ∨ V (-x)) : ∃ x ∈ c, V x := by
  apply Classical.byContradiction
  intro hno
  have hc : ∀ x ∈ c, V (-x) := fun x hx => (ht x hx).resolve_left fun hv => hno ⟨x, hx, hv⟩
  rcases h.2 with ⟨x, h1, h2⟩ | ⟨d, h1, _, h3⟩
  · have := hc _ h2
    rw [Int.neg_neg] at this
    exact hno ⟨x, h1, this⟩
  · obtain ⟨x, hx, hv⟩ := hl d h1
    refine hn x hv (Up.sound hl (fun z hz => ?_) hn (h3 x hx))
    have := hc _ hz
    rwa [Int.neg_neg] at this
/-- A set under which each whole clause has a true literal, or two that are not false: nothing more is told, and there is no clash. -/
theorem no_clash {l : List (List Int)} {S0 S : Int → Prop} (h0 : ∀ x, S0 x → S x) (hc : ∀ d ∈ l, Whole d → (∃ x ∈ d, S x) ∨ ∃ x ∈ d, ∃ y ∈ d, x ≠ y ∧ ¬ S (-x) ∧ ¬ S (-y)) (hn : ∀ x, S x → S (-x) → False) : ¬ Clash l S0 := by
  have hup : ∀ x, Up l S0 x → S x := by
    intro x h
    refine h S h0 fun d h1 h2 x _ ih => ?_
    rcases hc _ h1 h2 with ⟨y, hy, hs⟩ | ⟨y, hy, z, hz, hne, h4, h5⟩
    · by_cases e : y = x
      · rw [← e]; exact hs
      · exact (hn y hs (ih y hy e)).elim
    · by_cases e : y = x
      · exact absurd (ih z hz fun e2 => hne (e.trans e2.symm)) h5
      · exact absurd (ih y hy e) h4
  rintro ⟨d, h1, h2, h3⟩
  rcases hc d h1 h2 with ⟨y, hy, hs⟩ | ⟨y, hy, _, _, _, h4, _⟩
  · exact hn y hs (hup _ (h3 y hy))
  · exact h4 (hup _ (h3 y hy))
theorem whole_nil : Whole [] := fun _ h => by cases h
theorem Fol.empty {l : List (List Int)} {c : List Int} (h : [] ∈ l) : Fol l c ↔ Whole c := ⟨fun h => h.1, fun hw => ⟨hw, .inr ⟨[], h, whole_nil, fun _ h => by cases h⟩⟩⟩
/-- The trace's answer: the number of the first clause that does not follow (its length, if all do). -/
def Taken : List (List Int) → List (List Int) → Nat → Prop
  | _, [], n => n = 0
  | l, c :: t, n => (¬ Fol l c ∧ n = 0) ∨ (Fol l c ∧ ∃ m, n = m + 1 ∧ Taken (l ++ [c]) t m)
theorem Taken.le : ∀ {t l : List (List Int)} {n : Nat}, Taken l t n → n ≤ t.length
  | [], _, _, h => by simp [Taken] at h; omega
  | c :: t, l, n, h => by
    rcases h with ⟨_, h⟩ | ⟨_, m, rfl, h⟩
    · omega
    · have := Taken.le h
      simp; omega
theorem Taken.one : ∀ {t l : List (List Int)} {n m : Nat}, Taken l t n → Taken l t m → n = m
  | [], _, _, _, h, k => by simp [Taken] at h k; omega
  | c :: t, l, n, m, h, k => by
    rcases h with ⟨h1, h⟩ | ⟨h1, n', rfl, h⟩ <;> rcases k with ⟨k1, k⟩ | ⟨k1, m', rfl, k⟩
    · omega
    · exact absurd k1 h1
    · exact absurd h1 k1
    · rw [Taken.one h k]
/-- Behind i clauses that follow. -/
theorem Taken.app : ∀ {t l u : List (List Int)} {n : Nat}, (∀ i (h : i < t.length), Fol (l ++ t.take i) t[i]) → Taken (l ++ t) u n → Taken l (t ++ u) (t.length + n)
  | [], l, u, n, _, h => by simpa using h
  | c :: t, l, u, n, hf, h => by
    have h0 := hf 0 (by simp)
    simp only [List.take_zero, List.append_nil, List.getElem_cons_zero] at h0
    refine .inr ⟨h0, t.length + n, by simp; omega, ?_⟩
    refine Taken.app (fun i hi => ?_) (by simpa using h)
    have := hf (i + 1) (by simp; omega)
    simpa using this
/-- A chain of clauses (-k, k + 1): its beginning tells its end. -/
theorem chain_up {l : List (List Int)} {S0 : Int → Prop} {n : Int} (h1 : S0 1) (hn : n < 1000) (hl : ∀ k : Int, 1 ≤ k → k < n → ∃ d ∈ l, ∀ y, y ∈ d ↔ y = -k ∨ y = k + 1) (m : Nat) (hm : (m : Int) + 1 ≤ n) : Up l S0 ((m : Int) + 1) := by
  induction m with
  | zero => exact Up.base (by simpa using h1)
  | succ m ih =>
    have ih := ih (by omega)
    obtain ⟨d, hd, hy⟩ := hl ((m : Int) + 1) (by omega) (by omega)
    have hw : Whole d := fun x hx => by
      rcases (hy x).1 hx with rfl | rfl <;> exact ⟨by omega, by omega⟩
    refine Up.unit hd hw ((hy _).2 (.inr (by omega))) fun y h hne => ?_
    rcases (hy y).1 h with rfl | rfl
    · rw [Int.neg_neg]; exact ih
    · exact absurd (by omega) hne

/-! ### Two maps as a set of true literals -/
def Tr (S T : Int → Bool) (x : Int) : Prop := (0 < x ∧ S x = true) ∨ (x < 0 ∧ T (-x) = true)
def wor (S T : Int → Bool) (x : Int) : Int := if (0 < x ∧ S x = true) ∨ (x < 0 ∧ T (-x) = true) then 1 else if (0 < x ∧ T x = true) ∨ (x < 0 ∧ S (-x) = true) then -1 else 0
theorem Tr.neg {S T : Int → Bool} {x : Int} : Tr S T (-x) ↔ (0 < x ∧ T x = true) ∨ (x < 0 ∧ S (-x) = true) := by
  unfold Tr
  rw [Int.neg_neg]
  constructor
  · rintro (⟨h1, h2⟩ | ⟨h1, h2⟩)
    · exact .inr ⟨by omega, h2⟩
    · exact .inl ⟨by omega, h2⟩
  · rintro (⟨h1, h2⟩ | ⟨h1, h2⟩)
    · exact .inr ⟨by omega, h2⟩
    · exact .inl ⟨by omega, h2⟩
theorem wor_cases (S T : Int → Bool) (x : Int) : (wor S T x = 1 ∧ Tr S T x) ∨ (wor S T x = -1 ∧ ¬ Tr S T x ∧ Tr S T (-x)) ∨ (wor S T x = 0 ∧ ¬ Tr S T x ∧ ¬ Tr S T (-x)) := by
  rw [Tr.neg]
  by_cases h1 : Tr S T x
  · exact .inl ⟨if_pos h1, h1⟩
  · by_cases h2 : (0 < x ∧ T x = true) ∨ (x < 0 ∧ S (-x) = true)
    · exact .inr (.inl ⟨by unfold wor; rw [if_neg (show ¬ ((0 < x ∧ S x = true) ∨ (x < 0 ∧ T (-x) = true)) from h1), if_pos h2], h1, h2⟩)
    · exact .inr (.inr ⟨by unfold wor; rw [if_neg (show ¬ ((0 < x ∧ S x = true) ∨ (x < 0 ∧ T (-x) = true)) from h1), if_neg h2], h1, h2⟩)
def ins (S : Int → Bool) (k : Int) : Int → Bool := fun x => x == k || S x
theorem Tr.pos {S T : Int → Bool} {o x : Int} (h : 0 < o) : Tr (ins S o) T x ↔ x = o ∨ Tr S T x := by
  unfold Tr ins
  simp only [Bool.or_eq_true, beq_iff_eq]
  constructor
  · rintro (⟨h1, h2 | h2⟩ | h2)
    · exact .inl h2
    · exact .inr (.inl ⟨h1, h2⟩)
    · exact .inr (.inr h2)
  · rintro (rfl | ⟨h1, h2⟩ | h2)
    · exact .inl ⟨h, .inl rfl⟩
    · exact .inl ⟨h1, .inr h2⟩
    · exact .inr h2
theorem Tr.mns {S T : Int → Bool} {o x : Int} (h : o < 0) : Tr S (ins T (-o)) x ↔ x = o ∨ Tr S T x := by
  unfold Tr ins
  simp only [Bool.or_eq_true, beq_iff_eq]
  constructor
  · rintro (h2 | ⟨h1, h2 | h2⟩)
    · exact .inr (.inl h2)
    · exact .inl (by omega)
    · exact .inr (.inr ⟨h1, h2⟩)
  · rintro (rfl | h2 | ⟨h1, h2⟩)
    · exact .inr ⟨h, .inl rfl⟩
    · exact .inl h2
    · exact .inr ⟨h1, .inr h2⟩
/-- What is told in the course of the walk. -/
structure Told (ls : List (List Int)) (xs : List Int) (S T : Int → Bool) : Prop where
  base : ∀ x, opp xs x → Tr S T x
  up : ∀ x, Tr S T x → Up ls (opp xs) x
  one : ∀ x, Tr S T x → Tr S T (-x) → False
def Sated (S T : Int → Bool) (d : List Int) : Prop := (∃ x ∈ d, Tr S T x) ∨ ∃ x ∈ d, ∃ y ∈ d, x ≠ y ∧ ¬ Tr S T (-x) ∧ ¬ Tr S T (-y)
theorem Told.not {ls : List (List Int)} {xs : List Int} {S T : Int → Bool} (h : Told ls xs S T) (hs : ∀ d ∈ ls, Whole d → Sated S T d) : ¬ Fol ls xs := by
  rintro ⟨_, ⟨x, h1, h2⟩ | h3⟩
  · exact h.one x (h.base x h2) (h.base (-x) (by show - -x ∈ xs; rw [Int.neg_neg]; exact h1))
  · exact no_clash h.base hs h.one h3
theorem Told.yes {ls : List (List Int)} {xs d : List Int} {S T : Int → Bool} (h : Told ls xs S T) (hw : Whole xs) (hd : d ∈ ls) (hwd : Whole d) (ha : ∀ y ∈ d, Tr S T (-y)) : Fol ls xs :=
  ⟨hw, .inr ⟨d, hd, hwd, fun y hy => h.up _ (ha y hy)⟩⟩
theorem Told.add {ls : List (List Int)} {xs d : List Int} {S T S' T' : Int → Bool} {o : Int} (h : Told ls xs S T) (hd : d ∈ ls) (hwd : Whole d) (ho : o ∈ d) (ha : ∀ y ∈ d, y ≠ o → Tr S T (-y)) (h1 : ¬ Tr S T (-o)) (he : ∀ x, Tr S' T' x ↔ x = o ∨ Tr S T x) : Told ls xs S' T' := by
  have h0 : o ≠ 0 := (hwd o ho).1
  refine ⟨fun x hx => (he x).2 (.inr (h.base x hx)), fun x hx => ?_, fun x hx hn => ?_⟩
  · rcases (he x).1 hx with rfl | hx
    · exact Up.unit hd hwd ho fun y hy hne => h.up _ (ha y hy hne)
    · exact h.up x hx
  · rcases (he x).1 hx with rfl | hx <;> rcases (he _).1 hn with e | hn
    · omega
    · exact h1 hn
    · rw [show x = -o by omega] at hx
      exact h1 hx
    · exact h.one x hx hn
/-- So many literals of the clauses are not true as yet. -/
def cnt (ls : List (List Int)) (S T : Int → Bool) : Nat := (ls.flatten.filter fun x => !(wor S T x == 1)).length
theorem wor_one {S T : Int → Bool} {x : Int} : wor S T x = 1 ↔ Tr S T x := by
  rcases wor_cases S T x with ⟨h, h1⟩ | ⟨h, h1, _⟩ | ⟨h, h1, _⟩ <;> simp [h, h1]
theorem filter_less {α : Type} (p q : α → Bool) : ∀ (l : List α), (∀ x ∈ l, q x = true → p x = true) → (∃ x ∈ l, p x = true ∧ q x = false) → (l.filter q).length < (l.filter p).length
  | [], _, h => by obtain ⟨_, h, _⟩ := h; cases h
  | y :: l, hpq, h => by
    have hle : ∀ (l : List α), (∀ x ∈ l, q x = true → p x = true) → (l.filter q).length ≤ (l.filter p).length := by
      intro l
      induction l with
      | nil => intro _; simp
      | cons z l ih =>
        intro hz
        have := ih fun x hx => hz x (.tail _ hx)
        have hz0 := hz z (.head _)
        cases hq : q z with
        | true => simp [hq, hz0 hq]; omega
        | false => cases hp : p z <;> simp [hq, hp] <;> omega
    obtain ⟨x, hx, h1, h2⟩ := h
    have hl := hle l fun x hx => hpq x (.tail _ hx)
    rcases List.mem_cons.1 hx with rfl | hx
    · simp [h1, h2]; omega
    · have := filter_less p q l (fun x hx => hpq x (.tail _ hx)) ⟨x, hx, h1, h2⟩
      have hy := hpq y (.head _)
      cases hq : q y with
      | true => simp [hq, hy hq]; omega
      | false => cases hp : p y <;> simp [hq, hp] <;> omega
theorem cnt_less {ls : List (List Int)} {d : List Int} {S T S' T' : Int → Bool} {o : Int} (hd : d ∈ ls) (ho : o ∈ d) (hn : ¬ Tr S T o) (he : ∀ x, Tr S' T' x ↔ x = o ∨ Tr S T x) : cnt ls S' T' < cnt ls S T := by
  refine filter_less _ _ _ (fun x _ hx => ?_) ⟨o, List.mem_flatten.2 ⟨d, hd, ho⟩, ?_, ?_⟩
  · have h1 : ¬ wor S' T' x = 1 := by simpa using hx
    have h2 : ¬ wor S T x = 1 := fun h => h1 (wor_one.2 ((he x).2 (.inr (wor_one.1 h))))
    simpa using h2
  · have h2 : ¬ wor S T o = 1 := fun h => hn (wor_one.1 h)
    simpa using h2
  · have h2 : wor S' T' o = 1 := wor_one.2 ((he o).2 (.inl rfl))
    simp [h2]
/-- A clause's scan: what is open in the first k literals, and whether nothing is told. -/
structure Scan (S T : Int → Bool) (d : List Int) (k : Nat) (o : Int) (sure : Bool) : Prop where
  yes : sure = true → Sated S T d
  no : sure = false → (∀ x ∈ d.take k, Tr S T (-x) ∨ (x = o ∧ o ≠ 0)) ∧ (o ≠ 0 → o ∈ d ∧ ¬ Tr S T o ∧ ¬ Tr S T (-o))
theorem Scan.zero (S T : Int → Bool) (d : List Int) : Scan S T d 0 0 false := ⟨fun h => (by cases h), fun _ => ⟨fun x hx => (by simp at hx), fun h => absurd rfl h⟩⟩
theorem take_succ' {d : List Int} {k : Nat} (h : k < d.length) : d.take (k + 1) = d.take k ++ [d[k]] := by rw [List.take_succ_eq_append_getElem]
theorem Scan.one {S T : Int → Bool} {d : List Int} {k : Nat} {o : Int} {sure : Bool} (_h : Scan S T d k o sure) (hk : k < d.length) (hw : wor S T d[k] = 1) : Scan S T d (k + 1) o true :=
  ⟨fun _ => .inl ⟨d[k], List.getElem_mem hk, wor_one.1 hw⟩, fun h => (by cases h)⟩
theorem Scan.mns {S T : Int → Bool} {d : List Int} {k : Nat} {o : Int} {sure : Bool} (h : Scan S T d k o sure) (hk : k < d.length) (hw : wor S T d[k] = -1) : Scan S T d (k + 1) o sure := by
  refine ⟨h.yes, fun hs => ⟨fun x hx => ?_, (h.no hs).2⟩⟩
  rw [take_succ' hk] at hx
  rcases List.mem_append.1 hx with hx | hx
  · exact (h.no hs).1 x hx
  · simp only [List.mem_singleton] at hx
    subst hx
    rcases wor_cases S T d[k] with ⟨e, _⟩ | ⟨_, _, e⟩ | ⟨e, _⟩
    · rw [hw] at e; cases e
    · exact .inl e
    · rw [hw] at e; cases e
theorem Scan.two {S T : Int → Bool} {d : List Int} {k : Nat} {o : Int} {sure : Bool} (h : Scan S T d k o sure) (hk : k < d.length) (hw : wor S T d[k] = 0) (ho : o ≠ 0) (hne : o ≠ d[k]) : Scan S T d (k + 1) d[k] true := by
  refine ⟨fun _ => ?_, fun h => (by cases h)⟩
  cases hs : sure with
  | true => exact h.yes hs
  | false =>
    obtain ⟨h1, h2, h3⟩ := (h.no hs).2 ho
    rcases wor_cases S T d[k] with ⟨e, _⟩ | ⟨e, _⟩ | ⟨_, _, e⟩
    · rw [hw] at e; cases e
    · rw [hw] at e; cases e
    · exact .inr ⟨o, h1, d[k], List.getElem_mem hk, hne, h3, e⟩
theorem Scan.open {S T : Int → Bool} {d : List Int} {k : Nat} {o : Int} {sure : Bool} (h : Scan S T d k o sure) (hk : k < d.length) (hw : wor S T d[k] = 0) (ho : o = 0 ∨ o = d[k]) (h0 : d[k] ≠ 0) : Scan S T d (k + 1) d[k] sure := by
  refine ⟨h.yes, fun hs => ⟨fun x hx => ?_, fun _ => ?_⟩⟩
  · rw [take_succ' hk] at hx
    rcases List.mem_append.1 hx with hx | hx
    · rcases (h.no hs).1 x hx with h1 | ⟨h1, h2⟩
      · exact .inl h1
      · rcases ho with e | e
        · exact absurd e h2
        · exact .inr ⟨h1.trans e, h0⟩
    · simp only [List.mem_singleton] at hx
      exact .inr ⟨hx, h0⟩
  · rcases wor_cases S T d[k] with ⟨e, _⟩ | ⟨e, _⟩ | ⟨_, e1, e2⟩
    · rw [hw] at e; cases e
    · rw [hw] at e; cases e
    · exact ⟨List.getElem_mem hk, e1, e2⟩

/-- The clause's opposites, so far. -/
structure Begun (xs : List Int) (i : Nat) (S T : Int → Bool) : Prop where
  s : ∀ k, S k = true ↔ 0 < k ∧ -k ∈ xs.take i
  t : ∀ k, T k = true ↔ 0 < k ∧ k ∈ xs.take i
  one : ∀ x ∈ xs.take i, -x ∈ xs.take i → False
theorem Begun.zero (xs : List Int) : Begun xs 0 (fun _ => false) (fun _ => false) := ⟨fun k => by simp, fun k => by simp, fun x h => by simp at h⟩
theorem Begun.tr {xs : List Int} {i : Nat} {S T : Int → Bool} (h : Begun xs i S T) {x : Int} : Tr S T x → -x ∈ xs.take i := by
  rintro (⟨h1, h2⟩ | ⟨h1, h2⟩)
  · exact ((h.s x).1 h2).2
  · exact ((h.t (-x)).1 h2).2
theorem Begun.tr' {xs : List Int} {i : Nat} {S T : Int → Bool} (h : Begun xs i S T) {x : Int} (h0 : x ≠ 0) (hx : -x ∈ xs.take i) : Tr S T x := by
  rcases Int.lt_trichotomy x 0 with h1 | h1 | h1
  · exact .inr ⟨h1, (h.t (-x)).2 ⟨by omega, hx⟩⟩
  · exact absurd h1 h0
  · exact .inl ⟨h1, (h.s x).2 ⟨h1, hx⟩⟩
theorem Begun.pair {xs : List Int} {i : Nat} {S T : Int → Bool} (h : Begun xs i S T) (hw : Whole xs) (hi : i < xs.length) (ht : Tr S T xs[i]) (ls : List (List Int)) : Fol ls xs :=
  ⟨hw, .inl ⟨xs[i], List.getElem_mem hi, List.mem_of_mem_take (h.tr ht)⟩⟩
theorem Begun.pos {xs : List Int} {i : Nat} {S T : Int → Bool} (h : Begun xs i S T) (hi : i < xs.length) (ht : ¬ Tr S T xs[i]) (hx : 0 < xs[i]) : Begun xs (i + 1) S (ins T xs[i]) := by
  have hn : -xs[i] ∉ xs.take i := fun hm => ht (h.tr' (by omega) hm)
  refine ⟨fun k => ?_, fun k => ?_, fun x h1 h2 => ?_⟩
  · rw [h.s, take_succ' hi]
    simp only [List.mem_append, List.mem_singleton]
    constructor
    · rintro ⟨a, b⟩; exact ⟨a, .inl b⟩
    · rintro ⟨a, b | b⟩
      · exact ⟨a, b⟩
      · omega
  · rw [take_succ' hi]
    simp only [ins, Bool.or_eq_true, beq_iff_eq, h.t, List.mem_append, List.mem_singleton]
    constructor
    · rintro (rfl | ⟨a, b⟩)
      · exact ⟨hx, .inr rfl⟩
      · exact ⟨a, .inl b⟩
    · rintro ⟨a, b | b⟩
      · exact .inr ⟨a, b⟩
      · exact .inl b
  · rw [take_succ' hi] at h1 h2
    simp only [List.mem_append, List.mem_singleton] at h1 h2
    rcases h1 with h1 | h1 <;> rcases h2 with h2 | h2
    · exact h.one x h1 h2
    · exact hn (by rw [← h2, Int.neg_neg]; exact h1)
    · exact hn (by rw [← h1]; exact h2)
    · omega
theorem Begun.mns {xs : List Int} {i : Nat} {S T : Int → Bool} (h : Begun xs i S T) (hi : i < xs.length) (ht : ¬ Tr S T xs[i]) (hx : xs[i] < 0) : Begun xs (i + 1) (ins S (-xs[i])) T := by
  have hn : -xs[i] ∉ xs.take i := fun hm => ht (h.tr' (by omega) hm)
  refine ⟨fun k => ?_, fun k => ?_, fun x h1 h2 => ?_⟩
  · rw [take_succ' hi]
    simp only [ins, Bool.or_eq_true, beq_iff_eq, h.s, List.mem_append, List.mem_singleton]
    constructor
    · rintro (rfl | ⟨a, b⟩)
      · exact ⟨by omega, .inr (by omega)⟩
      · exact ⟨a, .inl b⟩
    · rintro ⟨a, b | b⟩
      · exact .inr ⟨a, b⟩
      · exact .inl (by omega)
  · rw [h.t, take_succ' hi]
    simp only [List.mem_append, List.mem_singleton]
    constructor
    · rintro ⟨a, b⟩; exact ⟨a, .inl b⟩
    · rintro ⟨a, b | b⟩
      · exact ⟨a, b⟩
      · omega
  · rw [take_succ' hi] at h1 h2
    simp only [List.mem_append, List.mem_singleton] at h1 h2
    rcases h1 with h1 | h1 <;> rcases h2 with h2 | h2
    · exact h.one x h1 h2
    · exact hn (by rw [← h2, Int.neg_neg]; exact h1)
    · exact hn (by rw [← h1]; exact h2)
    · omega
theorem Begun.told {xs : List Int} {i : Nat} {S T : Int → Bool} (h : Begun xs i S T) (hi : xs.length ≤ i) (hw : Whole xs) (ls : List (List Int)) : Told ls xs S T := by
  obtain ⟨hs, ht, ho⟩ := h
  have e := List.take_of_length_le hi
  rw [e] at hs ht ho
  have hb : Begun xs xs.length S T := by
    refine ⟨?_, ?_, ?_⟩ <;> rw [List.take_length] <;> assumption
  refine ⟨fun x hx => hb.tr' ?_ (by rw [List.take_length]; exact hx), fun x hx => Up.base ?_, fun x h1 h2 => ?_⟩
  · rintro rfl
    exact (hw 0 (by simpa [opp] using hx)).1 rfl
  · have := hb.tr hx
    rwa [List.take_length] at this
  · have a := hb.tr h1
    have b := hb.tr h2
    rw [List.take_length] at a b
    exact ho _ a b

end Go.Proofs.Ytmkkhpoedlbafaa

namespace Go.Proofs.Ytmkkhpoedlbafaa
open Go Go.RowKit

/-- w' is w but for one block. -/
structure PutAt (r : Nat) (w w' : World) : Prop where
  os : w'.os = w.os
  tape : w'.tape = w.tape
  output : w'.output = w.output
  size : w'.heap.size = w.heap.size
  block : ∀ k, k ≠ r → w'.heap[k]? = w.heap[k]?
theorem PutAt.below {r B : Nat} {w0 w w' : World} (h : PutAt r w w') (hb : Below B w0 w) (hr : B ≤ r) : Below B w0 w' :=
  ⟨h.os.trans hb.os, h.tape.trans hb.tape, h.output.trans hb.output, by rw [h.size]; exact hb.size, fun k hk => (h.block k (by omega)).trans (hb.block k hk)⟩
/-- What the walk is not to look at. -/
def Hid (p : Prop) : Prop := p
theorem hide {p : Prop} (h : p) : Hid p := h
theorem unhide {p : Prop} (h : Hid p) : p := h
/-- The cell of the i-th element (of so many cells each). -/
def elt (v : Value) (i k : Nat) : Value :=
  match v with
  | .slice (some ⟨b, off, _⟩) _ _ => .pointer (some ⟨b, off + i * k, none⟩)
  | _ => undef
/-- A slice's address. -/
def adr (v : Value) : Addr :=
  match v with
  | .slice (some p) _ _ => p
  | _ => ⟨0, 0, none⟩
/-- What stands in the i-th element. -/
def cv (w : World) (v : Value) (i : Nat) : Value := (w.cell? ⟨(adr v).block, (adr v).off + i, none⟩).getD undef
/-- A slice of n cells in memory below B. -/
def Sn (B : Nat) (v : Value) (n : Nat) : Prop := ∃ a cap, v = .slice a n cap ∧ n ≤ cap ∧ cap ≤ 9223372036854775807 ∧ (n ≠ 0 → ∃ b off, a = some ⟨b, off, none⟩ ∧ b < B)
/-- A slice of ints. -/
def Sl (w : World) (B : Nat) (v : Value) (xs : List Int) : Prop := Sn B v xs.length ∧ ∀ j (h : j < xs.length), cv w v j = .int .i64 xs[j] ∧ -9223372036854775808 ≤ xs[j] ∧ xs[j] ≤ 9223372036854775807
/-- A slice of slices of ints. -/
def Sl2 (w : World) (B : Nat) (v : Value) (ls : List (List Int)) : Prop := Sn B v ls.length ∧ ∀ j (h : j < ls.length), (w.cell? ⟨(adr v).block, (adr v).off + j, none⟩).isSome = true ∧ Sl w B (cv w v j) ls[j]
theorem cv_below {B : Nat} {w w' : World} {v : Value} {n i : Nat} (h : Sn B v n) (hi : i < n) (hb : Below B w w') : cv w' v i = cv w v i := by
  obtain ⟨a, cap, rfl, _, _, ha⟩ := h
  obtain ⟨b, off, rfl, hlt⟩ := ha (by omega)
  simp only [cv, adr]
  rw [hb.cell (p := ⟨b, off + i, none⟩) hlt]
theorem Sl.below {B : Nat} {w w' : World} {v : Value} {xs : List Int} (h : Sl w B v xs) (hb : Below B w w') : Sl w' B v xs :=
  ⟨h.1, fun j hj => by rw [cv_below h.1 hj hb]; exact h.2 j hj⟩
theorem Sl2.below {B : Nat} {w w' : World} {v : Value} {ls : List (List Int)} (h : Sl2 w B v ls) (hb : Below B w w') : Sl2 w' B v ls := by
  refine ⟨h.1, fun j hj => ?_⟩
  obtain ⟨h1, h2⟩ := h.2 j hj
  rw [cv_below h.1 hj hb]
  refine ⟨?_, h2.below hb⟩
  obtain ⟨a, cap, rfl, _, _, ha⟩ := h.1
  obtain ⟨b, off, rfl, hlt⟩ := ha (by omega)
  simp only [adr] at h1 ⊢
  rw [hb.cell (p := ⟨b, off + j, none⟩) hlt]
  exact h1
/-- The walk's own form of a slice of ints: a slice, and its cells. -/
theorem Sl.open {B : Nat} {w : World} {v : Value} {xs : List Int} (h : Sl w B v xs) : ∃ a cap, v = .slice a xs.length cap ∧ xs.length ≤ 9223372036854775807 ∧ ∀ i (hi : i < xs.length), ∃ b off, a = some ⟨b, off, none⟩ ∧ w.cell? ⟨b, off + i, none⟩ = some (.int .i64 xs[i]) ∧ b < B := by
  obtain ⟨⟨a, cap, rfl, h1, h2, ha⟩, h3⟩ := h
  refine ⟨a, cap, rfl, by omega, fun i hi => ?_⟩
  obtain ⟨b, off, rfl, hlt⟩ := ha (by omega)
  refine ⟨b, off, rfl, ?_, hlt⟩
  have := (h3 i hi).1
  simp only [cv, adr] at this
  cases hc : w.cell? ⟨b, off + i, none⟩ with
  | none => rw [hc] at this; cases this
  | some x => rw [hc] at this; simp at this; rw [this]
theorem Sl2.open {B : Nat} {w : World} {v : Value} {ls : List (List Int)} (h : Sl2 w B v ls) : ∃ a cap, v = .slice a ls.length cap ∧ ls.length ≤ 9223372036854775807 ∧ ∀ i (hi : i < ls.length), ∃ b off u, a = some ⟨b, off, none⟩ ∧ w.cell? ⟨b, off + i, none⟩ = some u ∧ b < B ∧ Sl w B u ls[i] := by
  obtain ⟨⟨a, cap, rfl, h1, h2, ha⟩, h3⟩ := h
  refine ⟨a, cap, rfl, by omega, fun i hi => ?_⟩
  obtain ⟨b, off, rfl, hlt⟩ := ha (by omega)
  obtain ⟨h4, h5⟩ := h3 i hi
  simp only [adr] at h4
  obtain ⟨u, hu⟩ := Option.isSome_iff_exists.1 h4
  refine ⟨b, off, u, rfl, hu, hlt, ?_⟩
  simp only [cv, adr, hu, Option.getD_some] at h5
  exact h5
/-- A map of ints: just these have true. -/
def MI (w : World) (r : Nat) (S : Int → Bool) : Prop := ∃ es clock, w.heap[r]? = some (.map es clock) ∧ (∀ e ∈ es.toList, ∃ k, e.key = .int .i64 k ∧ e.val = .bool true) ∧ ∀ k, S k = true ↔ ∃ e ∈ es.toList, e.key = .int .i64 k
theorem MI.lt {w : World} {r : Nat} {S : Int → Bool} (h : MI w r S) : r < w.heap.size := by
  obtain ⟨_, _, h, _⟩ := h
  exact (Array.getElem?_eq_some_iff.1 h).1
theorem MI.below {w w' : World} {r : Nat} {S : Int → Bool} (h : MI w r S) (hb : Below w.heap.size w w') : MI w' r S := by
  have hl := h.lt
  obtain ⟨es, c, h1, h2⟩ := h
  exact ⟨es, c, by rw [hb.block r hl]; exact h1, h2⟩
theorem MI.new (w : World) : MI (w.alloc (.map #[] 0)) w.heap.size (fun _ => false) := ⟨#[], 0, (MapKept.heap_alloc w _).1, fun e h => by simp at h, fun k => by simp⟩
theorem MI.put {w w' : World} {r q : Nat} {S : Int → Bool} (h : MI w r S) (hp : PutAt q w w') (hne : r ≠ q) : MI w' r S := by
  obtain ⟨es, c, h1, h2⟩ := h
  exact ⟨es, c, by rw [hp.block r hne]; exact h1, h2⟩
/-- Just these have true. -/
def told (w : World) (r : Nat) (k : Int) : Bool :=
  match w.heap[r]? with
  | some (.map es _) => es.toList.any fun e => match e.key with
    | .int .i64 j => j == k
    | _ => false
  | _ => false
theorem MI.told {w : World} {r : Nat} {S : Int → Bool} (h : MI w r S) : told w r = S := by
  obtain ⟨es, c, h1, h2, h3⟩ := h
  funext k
  rw [Bool.eq_iff_iff, h3]
  simp only [Go.Proofs.Ytmkkhpoedlbafaa.told, h1, List.any_eq_true]
  constructor
  · rintro ⟨e, he, hk⟩
    obtain ⟨j, hj, _⟩ := h2 e he
    rw [hj] at hk
    simp only [beq_iff_eq] at hk
    exact ⟨e, he, by rw [hj, hk]⟩
  · rintro ⟨e, he, hk⟩
    exact ⟨e, he, by rw [hk]; simp⟩
theorem find_int {k : Int} : ∀ (l : List MapEntry) (i : Nat), (∀ e ∈ l, ∃ k, e.key = .int .i64 k ∧ e.val = .bool true) →
    (Instr.findNow (.int .i64) (.int .i64 k) l i = some none ∧ ∀ e ∈ l, e.key ≠ .int .i64 k) ∨
    ∃ j, Instr.findNow (.int .i64) (.int .i64 k) l i = some (some (i + j, .bool true)) ∧ ∃ h : j < l.length, l[j].key = .int .i64 k
  | [], i, _ => .inl ⟨rfl, fun _ h => by cases h⟩
  | e :: l, i, hl => by
    obtain ⟨k', e1, e2⟩ := hl e (.head _)
    by_cases hk : k = k'
    · subst hk
      exact .inr ⟨0, by simp [Instr.findNow, e1, e2, Instr.sameNow], by simp, e1⟩
    · have hs : Instr.findNow (.int .i64) (.int .i64 k) (e :: l) i = Instr.findNow (.int .i64) (.int .i64 k) l (i + 1) := by
        have hk2 : (k == k') = false := by simp [hk]
        simp [Instr.findNow, e1, Instr.sameNow, hk2]
      rcases find_int l (i + 1) (fun x hx => hl x (.tail _ hx)) with ⟨h1, h2⟩ | ⟨j, h1, hj, h2⟩
      · refine .inl ⟨hs.trans h1, fun x hx => ?_⟩
        rcases List.mem_cons.1 hx with rfl | hx
        · rw [e1]; intro h; injection h with _ h; exact hk h.symm
        · exact h2 x hx
      · exact .inr ⟨j + 1, by rw [hs, h1]; congr 3; omega, by simp; omega, by simpa using h2⟩
theorem um : Try.prog.underlying 40 = some (.map 3 4) := by kernel_rfl
theorem ui : Try.prog.underlying 3 = some (.int .i64) := by kernel_rfl
theorem ub : Try.prog.underlying 4 = some .bool := by kernel_rfl
theorem iskey (k : Int) : MapKept.IsKey (.int .i64) (.int .i64 k) := rfl
set_option maxRecDepth 100000 in
theorem lk {w : World} {r : Nat} {S : Int → Bool} {k : Int} (h : MI w r S) : (Instr.lookup 40 (.map (some r)) (.int .i64 k) false).run Try.prog w = .ok (.bool (S k)) w := by
  obtain ⟨es, c, h1, h2, h3⟩ := h
  have hz : (zeroValue 4).run Try.prog w = .ok (.bool false) w := by go_simp
  rcases find_int (k := k) es.toList 0 h2 with ⟨hf, hn⟩ | ⟨j, hf, hj, hk⟩
  · have hS : S k = false := by
      cases hs : S k with
      | false => rfl
      | true => obtain ⟨e, he, h4⟩ := (h3 k).1 hs; exact absurd h4 (hn e he)
    rw [hS]
    simp [Instr.lookup, run_underlying um, MapKept.run_getObj_map h1, MapKept.run_checkKey ui (iskey k), MapKept.run_findKey ui hf, hz, Result.andThen]
  · have hS : S k = true := (h3 k).2 ⟨_, List.getElem_mem hj, hk⟩
    rw [hS]
    simp [Instr.lookup, run_underlying um, MapKept.run_getObj_map h1, MapKept.run_checkKey ui (iskey k), MapKept.run_findKey ui hf, Result.andThen]
/-- w' is w but for one block. -/
theorem put_obj {w : World} {r : Nat} (o : Obj) (hlt : r < w.heap.size) : PutAt r w { w with heap := w.heap.setIfInBounds r o } ∧ ({ w with heap := w.heap.setIfInBounds r o } : World).heap[r]? = some o :=
  ⟨⟨rfl, rfl, rfl, by simp, fun k hk => by simp [Array.getElem?_setIfInBounds_ne (Ne.symm hk)]⟩, by simp [hlt]⟩
set_option maxRecDepth 100000 in
theorem mu {w : World} {r : Nat} {S : Int → Bool} {k : Int} (h : MI w r S) : ∃ w', (Instr.mapUpdate 40 (.map (some r)) (.int .i64 k) (.bool true)).run Try.prog w = .ok () w' ∧ PutAt r w w' ∧ MI w' r (ins S k) := by
  obtain ⟨es, c, h1, h2, h3⟩ := h
  have hlt := (Array.getElem?_eq_some_iff.1 h1).1
  rcases find_int (k := k) es.toList 0 h2 with ⟨hf, hn⟩ | ⟨j, hf, hj, hk⟩
  · obtain ⟨hp, ho⟩ := put_obj (w := w) (.map (es.push ⟨.int .i64 k, .bool true, c⟩) (c + 1)) hlt
    refine ⟨_, by simp only [Instr.mapUpdate, Sem.run_bind, run_underlying um, MapKept.run_getObj_map h1, MapKept.run_checkKey ui (iskey k), MapKept.run_findKey ui hf, MapKept.run_setObj_map _ h1, Result.andThen], hp, _, _, ho, fun e he => ?_, fun x => ?_⟩
    · simp only [Array.toList_push, List.mem_append, List.mem_singleton] at he
      rcases he with he | rfl
      · exact h2 e he
      · exact ⟨k, rfl, rfl⟩
    · simp only [ins, Bool.or_eq_true, beq_iff_eq, h3, Array.toList_push, List.mem_append, List.mem_singleton]
      constructor
      · rintro (rfl | ⟨e, he, hx⟩)
        · exact ⟨_, .inr rfl, rfl⟩
        · exact ⟨e, .inl he, hx⟩
      · rintro ⟨e, he | rfl, hx⟩
        · exact .inr ⟨e, he, hx⟩
        · injection hx with _ hx
          exact .inl hx.symm
  · have hj2 : es[j]? = some es.toList[j] := by
      have : j < es.size := by simpa using hj
      simp [this]
    obtain ⟨hp, ho⟩ := put_obj (w := w) (.map (es.modify (0 + j) fun e => { e with key := .int .i64 k, val := .bool true }) c) hlt
    have hmod : (es.modify (0 + j) fun e => { e with key := .int .i64 k, val := .bool true }) = es := by
      have hjs : j < es.size := by simpa using hj
      obtain ⟨k', hk', hv'⟩ := h2 _ (List.getElem_mem hj)
      apply Array.ext
      · simp
      · intro i hi1 hi2
        rw [Array.getElem_modify]
        split
        · rename_i e
          have e : i = j := by omega
          subst e
          have hx : es[i] = es.toList[i] := by simp
          rw [hx]
          cases hc : es.toList[i] with
          | mk key val born =>
            rw [hc] at hk hv'
            simp only at hk hv'
            rw [hk, hv']
        · rfl
    rw [hmod] at hp ho
    refine ⟨_, by simp only [Instr.mapUpdate, Sem.run_bind, run_underlying um, MapKept.run_getObj_map h1, MapKept.run_checkKey ui (iskey k), MapKept.run_findKey ui hf, Nat.zero_add, hj2, Option.map_some, Option.getD_some, hk, MapKept.run_keyThatStays (iskey k), MapKept.run_setObj_map _ h1, Result.andThen]; rw [show (es.modify j fun e => { e with key := .int .i64 k, val := .bool true }) = es by simpa using hmod], hp, _, _, ho, h2, fun x => ?_⟩
    simp only [ins, Bool.or_eq_true, beq_iff_eq, h3]
    constructor
    · rintro (rfl | h)
      · exact ⟨_, List.getElem_mem hj, hk⟩
      · exact h
    · exact .inr
end Go.Proofs.Ytmkkhpoedlbafaa
