/- The checker of package rup over plain lists: what it stands for between calls. -/
import Derived.Test.YtmkkhpoedlbafaaQA
set_option linter.unusedVariables false
set_option linter.unusedSimpArgs false

/- The checker of package rup over plain lists: literals, watches, what is told. -/
namespace Go.Proofs.Ytmkkhpoedlbafaa

/-- The opposite of a literal. -/
def op (y : Nat) : Nat := if y % 2 = 0 then y + 1 else y - 1
theorem op_op (y : Nat) : op (op y) = y := by unfold op; split <;> split <;> omega
theorem op_ne (y : Nat) : op y ≠ y := by unfold op; split <;> omega
theorem op_lt {y n : Nat} (h : y < 2 * n) : op y < 2 * n := by unfold op; split <;> omega
theorem op_inj {y z : Nat} (h : op y = op z) : y = z := by rw [← op_op y, h, op_op]
/-- The number of a literal. -/
def num (pl : List Int) (y : Nat) : Int := if y % 2 = 0 then pl.getD (y / 2) 0 else -pl.getD (y / 2) 0
theorem num_op (pl : List Int) (y : Nat) : num pl (op y) = -num pl y := by
  unfold num op
  by_cases h : y % 2 = 0
  · rw [if_pos h, if_neg (by omega), if_pos h, show (y + 1) / 2 = y / 2 by omega]
  · rw [if_neg h, if_pos (by omega), if_neg h, show (y - 1) / 2 = y / 2 by omega]; omega
theorem num_app {pl m : List Int} {y : Nat} (h : y < 2 * pl.length) : num (pl ++ m) y = num pl y := by
  unfold num
  rw [show (pl ++ m).getD (y / 2) 0 = pl.getD (y / 2) 0 by
    simp only [List.getD_eq_getElem?_getD]
    rw [List.getElem?_append_left (by omega)]]
structure Pl (pl : List Int) : Prop where
  pos : ∀ a ∈ pl, 0 < a ∧ a ≤ 9223372036854775807
  inj : ∀ i j, i < pl.length → j < pl.length → pl.getD i 0 = pl.getD j 0 → i = j
theorem getD_mem {pl : List Int} {i : Nat} (h : i < pl.length) : pl.getD i 0 ∈ pl := by
  simp only [List.getD_eq_getElem?_getD, List.getElem?_eq_getElem h, Option.getD_some]
  exact List.getElem_mem h
theorem Pl.at {pl : List Int} (hp : Pl pl) {y : Nat} (h : y < 2 * pl.length) : 0 < pl.getD (y / 2) 0 ∧ pl.getD (y / 2) 0 ≤ 9223372036854775807 := hp.pos _ (getD_mem (by omega))
theorem num_inj {pl : List Int} (hp : Pl pl) {y z : Nat} (hy : y < 2 * pl.length) (hz : z < 2 * pl.length) (h : num pl y = num pl z) : y = z := by
  have h1 := hp.at hy
  have h2 := hp.at hz
  unfold num at h
  by_cases a : y % 2 = 0 <;> by_cases b : z % 2 = 0
  · rw [if_pos a, if_pos b] at h
    have := hp.inj _ _ (by omega) (by omega) h
    omega
  · rw [if_pos a, if_neg b] at h; omega
  · rw [if_neg a, if_pos b] at h; omega
  · rw [if_neg a, if_neg b] at h
    have := hp.inj _ _ (by omega) (by omega) (by omega : pl.getD (y / 2) 0 = pl.getD (z / 2) 0)
    omega
theorem num_ok {pl : List Int} (hp : Pl pl) {y : Nat} (hy : y < 2 * pl.length) : LitOk (num pl y) := by
  have h1 := hp.at hy
  unfold num LitOk
  split <;> omega
theorem Pl.nil : Pl [] := ⟨fun _ h => (by cases h), fun _ _ h => absurd h (Nat.not_lt_zero _)⟩
theorem Pl.push {pl : List Int} (hp : Pl pl) {a : Int} (h0 : 0 < a) (h1 : a ≤ 9223372036854775807) (hn : a ∉ pl) : Pl (pl ++ [a]) := by
  refine ⟨fun b hb => ?_, fun i j hi hj h => ?_⟩
  · rcases List.mem_append.1 hb with hb | hb
    · exact hp.pos b hb
    · simp only [List.mem_singleton] at hb; subst hb; exact ⟨h0, h1⟩
  · simp only [List.length_append, List.length_singleton] at hi hj
    simp only [List.getD_eq_getElem?_getD] at h
    have key : ∀ i, i < pl.length → (pl ++ [a])[i]?.getD 0 ≠ a := fun i hi e => by
      rw [List.getElem?_append_left hi] at e
      have := getD_mem hi
      simp only [List.getD_eq_getElem?_getD] at this
      rw [e] at this
      exact hn this
    have last : (pl ++ [a])[pl.length]?.getD 0 = a := by simp
    by_cases hi2 : i < pl.length <;> by_cases hj2 : j < pl.length
    · refine hp.inj i j hi2 hj2 ?_
      simp only [List.getD_eq_getElem?_getD]
      rwa [List.getElem?_append_left hi2, List.getElem?_append_left hj2] at h
    · have ej : j = pl.length := by omega
      subst ej
      rw [last] at h
      exact absurd h (key i hi2)
    · have ei : i = pl.length := by omega
      subst ei
      rw [last] at h
      exact absurd h.symm (key j hj2)
    · omega
theorem nodup_le : ∀ (N : Nat) (l : List Nat), l.Nodup → (∀ y ∈ l, y < N) → l.length ≤ N
  | 0, [], _, _ => Nat.le_refl _
  | 0, y :: _, _, h => absurd (h y (.head _)) (by omega)
  | N + 1, l, hn, h => by
    by_cases hm : N ∈ l
    · have := nodup_le N (l.erase N) (hn.erase N) (fun y hy => by
        have h1 := (hn.mem_erase_iff.1 hy)
        have := h y h1.2
        have := h1.1
        omega)
      rw [List.length_erase_of_mem hm] at this
      omega
    · have := nodup_le N l hn (fun y hy => by
        have := h y hy
        have : y ≠ N := fun e => hm (e ▸ hy)
        omega)
      omega

/-! ### Truths -/
/-- The truth of a literal: what is on the trail is true. -/
def tv (T : List Nat) (y : Nat) : Int := if y ∈ T then 1 else if op y ∈ T then -1 else 0
theorem tv_one {T : List Nat} {y : Nat} : tv T y = 1 ↔ y ∈ T := by
  unfold tv; by_cases h : y ∈ T
  · simp [h]
  · by_cases h2 : op y ∈ T <;> simp [h, h2]
theorem tv_mns {T : List Nat} {y : Nat} (hc : ∀ y ∈ T, op y ∉ T) : tv T y = -1 ↔ op y ∈ T := by
  unfold tv; by_cases h : y ∈ T
  · simp [h, hc y h]
  · by_cases h2 : op y ∈ T <;> simp [h, h2]
theorem tv_zero {T : List Nat} {y : Nat} : tv T y = 0 ↔ y ∉ T ∧ op y ∉ T := by
  unfold tv; by_cases h : y ∈ T
  · simp [h]
  · by_cases h2 : op y ∈ T <;> simp [h, h2]
theorem tv_cases (T : List Nat) (y : Nat) : tv T y = 1 ∨ tv T y = -1 ∨ tv T y = 0 := by
  unfold tv; split
  · exact .inl rfl
  · split
    · exact .inr (.inl rfl)
    · exact .inr (.inr rfl)

/-! ### Clauses and watches -/
/-- The first two. -/
def Two (c : List Nat) (x : Nat) : Prop := ∃ a b t, c = a :: b :: t ∧ (x = a ∨ x = b)
/-- A watched literal of which the first h of the trail say that it is false: the other one is true. -/
def W (T : List Nat) (h : Nat) (c : List Nat) : Prop := ∀ a b t, c = a :: b :: t → (op a ∈ T.take h → b ∈ T) ∧ (op b ∈ T.take h → a ∈ T)
def BW (T0 : List Nat) (c : List Nat) : Prop := ∀ a b t, c = a :: b :: t → (op a ∈ T0 → b ∈ T0) ∧ (op b ∈ T0 → a ∈ T0)
structure Cl (N : Nat) (c : List Nat × Nat) : Prop where
  len : 2 ≤ c.1.length
  nd : c.1.Nodup
  lt : ∀ y ∈ c.1, y < N
  lo : 2 ≤ c.2
  hi : c.2 ≤ c.1.length
structure Str (L M : List (List Int)) (S0 : Int → Prop) (n : Nat) (pl : List Int) (cs : List (List Nat × Nat)) (ws : List (List Nat)) (T : List Nat) : Prop where
  ppl : Pl pl
  wl : ws.length = 2 * pl.length
  tlt : ∀ y ∈ T, y < 2 * pl.length
  tnd : T.Nodup
  tcon : ∀ y ∈ T, op y ∉ T
  hn : n ≤ T.length
  cl : ∀ (i : Nat) c, cs[i]? = some c → Cl (2 * pl.length) c
  wnd : ∀ (x : Nat) l, ws[x]? = some l → l.Nodup
  wat : ∀ (x : Nat) l, ws[x]? = some l → ∀ i, i ∈ l ↔ ∃ c, cs[i]? = some c ∧ Two c.1 x
  fr : ∀ (i : Nat) c, cs[i]? = some c → ∃ d ∈ L, Whole d ∧ ∀ x, x ∈ d ↔ ∃ y ∈ c.1, num pl y = x
  to : ∀ d ∈ M, Whole d → (∃ x ∈ d, -x ∈ d) ∨ (∃ (i : Nat) (c : List Nat × Nat), cs[i]? = some c ∧ ∀ y ∈ c.1, num pl y ∈ d) ∨ ∃ y ∈ T.take n, num pl y ∈ d
  up : ∀ y ∈ T, Up L S0 (num pl y)
  bw : ∀ (i : Nat) c, cs[i]? = some c → BW (T.take n) c.1
section
variable {L M : List (List Int)} {S0 : Int → Prop} {n : Nat} {pl : List Int} {cs : List (List Nat × Nat)} {ws : List (List Nat)} {T : List Nat}
theorem Str.len (h : Str L M S0 n pl cs ws T) : T.length ≤ 2 * pl.length := nodup_le _ _ h.tnd h.tlt
theorem Str.wlen (h : Str L M S0 n pl cs ws T) {x : Nat} {l : List Nat} (hl : ws[x]? = some l) : l.length ≤ cs.length := by
  refine nodup_le _ _ (h.wnd x l hl) fun i hi => ?_
  obtain ⟨c, hc, _⟩ := (h.wat x l hl i).1 hi
  exact (List.getElem?_eq_some_iff.1 hc).1
/-- A clause all of whose literals are false. -/
theorem Str.clash (h : Str L M S0 n pl cs ws T) {i : Nat} {c : List Nat × Nat} (hc : cs[i]? = some c) (hf : ∀ y ∈ c.1, op y ∈ T) : Clash L S0 := by
  obtain ⟨d, h1, h2, h3⟩ := h.fr i c hc
  refine ⟨d, h1, h2, fun x hx => ?_⟩
  obtain ⟨y, hy, rfl⟩ := (h3 x).1 hx
  rw [← num_op]
  exact h.up _ (hf y hy)
/-- A clause of which all but one are false. -/
theorem Str.unit (h : Str L M S0 n pl cs ws T) {i : Nat} {c : List Nat × Nat} (hc : cs[i]? = some c) {a : Nat} (ha : a ∈ c.1) (hf : ∀ y ∈ c.1, y ≠ a → op y ∈ T) : Up L S0 (num pl a) := by
  obtain ⟨d, h1, h2, h3⟩ := h.fr i c hc
  refine Up.unit h1 h2 ((h3 _).2 ⟨a, ha, rfl⟩) fun x hx hne => ?_
  obtain ⟨y, hy, rfl⟩ := (h3 x).1 hx
  rw [← num_op]
  exact h.up _ (hf y hy fun e => hne (by rw [e]))
/-- One more is true. -/
theorem Str.set (h : Str L M S0 n pl cs ws T) {a : Nat} (ha : a < 2 * pl.length) (h1 : a ∉ T) (h2 : op a ∉ T) (hu : Up L S0 (num pl a)) : Str L M S0 n pl cs ws (T ++ [a]) where
  ppl := h.ppl
  wl := h.wl
  tlt := fun y hy => by
    rcases List.mem_append.1 hy with hy | hy
    · exact h.tlt y hy
    · simp only [List.mem_singleton] at hy; subst hy; exact ha
  tnd := by
    rw [List.nodup_append]
    exact ⟨h.tnd, by simp, fun x hx y hy => by simp only [List.mem_singleton] at hy; subst hy; intro e; subst e; exact h1 hx⟩
  tcon := fun y hy hm => by
    simp only [List.mem_append, List.mem_singleton] at hy hm
    rcases hy with hy | hy <;> rcases hm with hm | hm
    · exact h.tcon y hy hm
    · rw [← op_op y, hm] at hy; exact h2 hy
    · rw [hy] at hm; exact h2 hm
    · rw [hy] at hm; exact op_ne _ hm
  hn := by have := h.hn; simp; omega
  cl := h.cl
  wnd := h.wnd
  wat := h.wat
  fr := h.fr
  to := by rw [List.take_append_of_le_length h.hn]; exact h.to
  up := fun y hy => by
    rcases List.mem_append.1 hy with hy | hy
    · exact h.up y hy
    · simp only [List.mem_singleton] at hy; subst hy; exact hu
  bw := by rw [List.take_append_of_le_length h.hn]; exact h.bw
theorem W.grow {h : Nat} {c : List Nat} (hw : W T h c) (hh : h ≤ T.length) (a : Nat) : W (T ++ [a]) h c := fun x y t e => by
  rw [List.take_append_of_le_length hh]
  exact ⟨fun k => List.mem_append_left _ ((hw x y t e).1 k), fun k => List.mem_append_left _ ((hw x y t e).2 k)⟩
/-- A clause's literals in another order, its watches as they are. -/
theorem Str.same (h : Str L M S0 n pl cs ws T) {i : Nat} {c c' : List Nat × Nat} (hc : cs[i]? = some c) (hcl : Cl (2 * pl.length) c') (hm : ∀ y, y ∈ c'.1 ↔ y ∈ c.1) (ht : ∀ x, Two c'.1 x ↔ Two c.1 x) (hb : BW (T.take n) c'.1) : Str L M S0 n pl (cs.set i c') ws T := by
  have hi : i < cs.length := (List.getElem?_eq_some_iff.1 hc).1
  have hg : ∀ j, (cs.set i c')[j]? = if i = j then some c' else cs[j]? := fun j => by
    rw [List.getElem?_set]; by_cases e : i = j
    · subst e; simp [hi]
    · simp [e]
  refine ⟨h.ppl, h.wl, h.tlt, h.tnd, h.tcon, h.hn, fun j d hd => ?_, h.wnd, fun x l hl j => ?_, fun j d hd => ?_, fun d hd hw => ?_, h.up, fun j d hd => ?_⟩
  · rw [hg] at hd; split at hd
    · cases hd; exact hcl
    · exact h.cl j d hd
  · rw [h.wat x l hl j]
    constructor
    · rintro ⟨d, hd, h2⟩
      by_cases e : i = j
      · subst e; rw [hc] at hd; cases hd; exact ⟨c', by rw [hg]; simp, (ht x).2 h2⟩
      · exact ⟨d, by rw [hg, if_neg e]; exact hd, h2⟩
    · rintro ⟨d, hd, h2⟩
      rw [hg] at hd; split at hd
      · rename_i e; subst e; cases hd; exact ⟨c, hc, (ht x).1 h2⟩
      · exact ⟨d, hd, h2⟩
  · rw [hg] at hd; split at hd
    · cases hd
      obtain ⟨d, h1, h2, h3⟩ := h.fr i c hc
      exact ⟨d, h1, h2, fun x => (h3 x).trans ⟨fun ⟨y, hy, e⟩ => ⟨y, (hm y).2 hy, e⟩, fun ⟨y, hy, e⟩ => ⟨y, (hm y).1 hy, e⟩⟩⟩
    · exact h.fr j d hd
  · rcases h.to d hd hw with h1 | ⟨j, e, he, hy⟩ | h1
    · exact .inl h1
    · refine .inr (.inl ?_)
      by_cases e2 : i = j
      · subst e2; rw [hc] at he; cases he
        exact ⟨i, c', by rw [hg]; simp, fun y hy2 => hy y ((hm y).1 hy2)⟩
      · exact ⟨j, e, by rw [hg, if_neg e2]; exact he, hy⟩
    · exact .inr (.inr h1)
  · rw [hg] at hd; split at hd
    · cases hd; exact hb
    · exact h.bw j d hd
theorem Two.cons {a b x : Nat} {t : List Nat} : Two (a :: b :: t) x ↔ x = a ∨ x = b := by
  constructor
  · rintro ⟨a', b', t', e, h⟩
    simp only [List.cons.injEq] at e
    obtain ⟨rfl, rfl, _⟩ := e
    exact h
  · intro h; exact ⟨a, b, t, rfl, h⟩
theorem BW.cons {a b : Nat} {t : List Nat} : BW T (a :: b :: t) ↔ (op a ∈ T → b ∈ T) ∧ (op b ∈ T → a ∈ T) := by
  constructor
  · intro h; exact h a b t rfl
  · intro h a' b' t' e
    simp only [List.cons.injEq] at e
    obtain ⟨rfl, rfl, _⟩ := e
    exact h
theorem W.cons {a b h : Nat} {t : List Nat} : W T h (a :: b :: t) ↔ (op a ∈ T.take h → b ∈ T) ∧ (op b ∈ T.take h → a ∈ T) := by
  constructor
  · intro h; exact h a b t rfl
  · intro h a' b' t' e
    simp only [List.cons.injEq] at e
    obtain ⟨rfl, rfl, _⟩ := e
    exact h
/-- The first two change places. -/
theorem Str.swap (h : Str L M S0 n pl cs ws T) {i a b m : Nat} {t : List Nat} (hc : cs[i]? = some (a :: b :: t, m)) : Str L M S0 n pl (cs.set i (b :: a :: t, m)) ws T := by
  have hcl := h.cl i _ hc
  have hm : ∀ y, y ∈ (b :: a :: t) ↔ y ∈ (a :: b :: t) := fun y => by
    simp only [List.mem_cons]
    constructor
    · rintro (h | h | h)
      · exact .inr (.inl h)
      · exact .inl h
      · exact .inr (.inr h)
    · rintro (h | h | h)
      · exact .inr (.inl h)
      · exact .inl h
      · exact .inr (.inr h)
  have hnd : (b :: a :: t).Nodup := by
    have := hcl.nd
    simp only [List.nodup_cons, List.mem_cons, not_or] at this ⊢
    exact ⟨⟨fun e => this.1.1 e.symm, this.2.1⟩, this.1.2, this.2.2⟩
  have hb : BW (T.take n) (b :: a :: t) := by
    have := h.bw i _ hc
    rw [BW.cons] at this ⊢
    exact this.symm
  have ht : ∀ x, Two (b :: a :: t) x ↔ Two (a :: b :: t) x := fun x => by rw [Two.cons, Two.cons]; exact Or.comm
  have hh : m ≤ (b :: a :: t).length := hcl.hi
  exact h.same hc ⟨by simp, hnd, fun y hy => hcl.lt y ((hm y).1 hy), hcl.lo, hh⟩ hm ht hb
theorem Str.next (h : Str L M S0 n pl cs ws T) {i m m' : Nat} {c : List Nat} (hc : cs[i]? = some (c, m)) (h1 : 2 ≤ m') (h2 : m' ≤ c.length) : Str L M S0 n pl (cs.set i (c, m')) ws T := by
  have hcl := h.cl i _ hc
  exact h.same hc ⟨hcl.len, hcl.nd, hcl.lt, h1, h2⟩ (fun _ => Iff.rfl) (fun _ => Iff.rfl) (h.bw i (c, m) hc)
end
end Go.Proofs.Ytmkkhpoedlbafaa

/- The checker of package rup over plain lists: visits. -/
namespace Go.Proofs.Ytmkkhpoedlbafaa
theorem split_at : ∀ {t : List Nat} {j y : Nat}, t[j]? = some y → ∃ t1 t2, t = t1 ++ y :: t2 ∧ t1.length = j ∧ ∀ x, t.set j x = t1 ++ x :: t2
  | [], _, _, h => by simp at h
  | z :: t, 0, y, h => by
    simp only [List.getElem?_cons_zero, Option.some.injEq] at h
    subst h
    exact ⟨[], t, rfl, rfl, fun x => rfl⟩
  | z :: t, j + 1, y, h => by
    simp only [List.getElem?_cons_succ] at h
    obtain ⟨t1, t2, e, hl, hs⟩ := split_at h
    exact ⟨z :: t1, t2, by rw [e]; rfl, by simp [hl], fun x => by simp [List.set_cons_succ, hs x]⟩
theorem move_perm {t : List Nat} {j y x : Nat} (h : t[j]? = some y) : (y :: t.set j x).Perm (x :: t) := by
  obtain ⟨t1, t2, e, _, hs⟩ := split_at h
  rw [hs x, e]
  have h1 : (t1 ++ x :: t2).Perm (x :: (t1 ++ t2)) := List.perm_middle
  have h2 : (t1 ++ y :: t2).Perm (y :: (t1 ++ t2)) := List.perm_middle
  exact ((List.Perm.cons y h1).trans (List.Perm.swap x y _)).trans (List.Perm.cons x h2.symm)
theorem get_set (cs : List (List Nat × Nat)) {i : Nat} (hi : i < cs.length) (c' : List Nat × Nat) (j : Nat) : (cs.set i c')[j]? = if i = j then some c' else cs[j]? := by
  rw [List.getElem?_set]; by_cases e : i = j
  · subst e; simp [hi]
  · simp [e]
theorem get_setw (ws : List (List Nat)) {i : Nat} (hi : i < ws.length) (l : List Nat) (j : Nat) : (ws.set i l)[j]? = if i = j then some l else ws[j]? := by
  rw [List.getElem?_set]; by_cases e : i = j
  · subst e; simp [hi]
  · simp [e]
theorem take_one {T : List Nat} {h y : Nat} (hx : T[h]? = some y) : T.take (h + 1) = T.take h ++ [y] := by
  rw [List.take_add_one, hx]; rfl
/-- What stands at h stands not ahead of it. -/
theorem not_take {T : List Nat} (hn : T.Nodup) {h m y : Nat} (hx : T[h]? = some y) (hm : m ≤ h) : y ∉ T.take m := by
  intro hy
  obtain ⟨j, hj, e⟩ := List.mem_iff_getElem.1 hy
  rw [List.getElem_take] at e
  have hj2 : j < m := by rw [List.length_take] at hj; omega
  obtain ⟨hh, e2⟩ := List.getElem?_eq_some_iff.1 hx
  have hjl : j < T.length := by rw [List.length_take] at hj; omega
  have := (List.getElem_inj (h₀ := hjl) (h₁ := hh) hn).1 (e.trans e2.symm)
  omega
section
variable {L M : List (List Int)} {S0 : Int → Prop} {n : Nat} {pl : List Int} {cs : List (List Nat × Nat)} {ws : List (List Nat)} {T : List Nat}
/-- One clause is watched by another literal. -/
theorem Str.move {x y a m j at_ : Nat} {t K rest ly : List Nat} (hx : x < ws.length) (h : Str L M S0 n pl cs (ws.set x (K ++ at_ :: rest)) T) (hc : cs[at_]? = some (a :: x :: t, m)) (hj : t[j]? = some y) (hly : ws[y]? = some ly) (hy : op y ∉ T) (hxT : x ∉ T) (hxn : op x ∉ T.take n) :
    Str L M S0 n pl (cs.set at_ (a :: y :: t.set j x, m)) ((ws.set y (ly ++ [at_])).set x (K ++ rest)) T := by
  have hi : at_ < cs.length := (List.getElem?_eq_some_iff.1 hc).1
  have hcl := h.cl at_ _ hc
  have hp : (a :: y :: t.set j x).Perm (a :: x :: t) := List.Perm.cons a (move_perm hj)
  have hyt : y ∈ t := List.mem_of_getElem? hj
  have hnd0 := hcl.nd
  simp only [List.nodup_cons, List.mem_cons, not_or] at hnd0
  have hyx : y ≠ x := fun e => hnd0.2.1 (e ▸ hyt)
  have hya : y ≠ a := fun e => hnd0.1.2 (e ▸ hyt)
  have hax : a ≠ x := hnd0.1.1
  have hyl : y < ws.length := (List.getElem?_eq_some_iff.1 hly).1
  have hg := get_set cs hi (a :: y :: t.set j x, m)
  have hwl : (ws.set x (K ++ at_ :: rest)).length = 2 * pl.length := h.wl
  have hgx : (ws.set x (K ++ at_ :: rest))[x]? = some (K ++ at_ :: rest) := by simp [hx]
  have hgy : (ws.set x (K ++ at_ :: rest))[y]? = some ly := by rw [List.getElem?_set_ne (Ne.symm hyx)]; exact hly
  have hndx := h.wnd x _ hgx
  have hat1 : at_ ∉ K ++ rest := by
    rw [List.nodup_append] at hndx
    obtain ⟨_, h2, h3⟩ := hndx
    simp only [List.nodup_cons] at h2
    intro hm
    rcases List.mem_append.1 hm with hm | hm
    · exact h3 _ hm _ (.head _) rfl
    · exact h2.1 hm
  have hW : ∀ z l, ((ws.set y (ly ++ [at_])).set x (K ++ rest))[z]? = some l → (z = x ∧ l = K ++ rest) ∨ (z = y ∧ l = ly ++ [at_]) ∨ (z ≠ x ∧ z ≠ y ∧ (ws.set x (K ++ at_ :: rest))[z]? = some l) := by
    intro z l hl
    rw [List.getElem?_set] at hl
    by_cases e : x = z
    · rw [if_pos e] at hl
      simp only [List.length_set, ← e, hx, if_true, Option.some.injEq] at hl
      exact .inl ⟨e.symm, hl.symm⟩
    · rw [if_neg e, List.getElem?_set] at hl
      by_cases e2 : y = z
      · rw [if_pos e2] at hl
        simp only [← e2, hyl, if_true, Option.some.injEq] at hl
        exact .inr (.inl ⟨e2.symm, hl.symm⟩)
      · rw [if_neg e2] at hl
        exact .inr (.inr ⟨Ne.symm e, Ne.symm e2, by rw [List.getElem?_set_ne e]; exact hl⟩)
  have haly : at_ ∉ ly := fun hm => by
    obtain ⟨c, hc2, h2⟩ := (h.wat y ly hgy at_).1 hm
    rw [hc] at hc2
    cases hc2
    rcases Two.cons.1 h2 with e | e
    · exact hya e
    · exact hyx e
  have hTw : ∀ (i z : Nat) (l : List Nat), z ≠ x → z ≠ y → (ws.set x (K ++ at_ :: rest))[z]? = some l → ((∃ c : List Nat × Nat, (cs.set at_ (a :: y :: t.set j x, m))[i]? = some c ∧ Two c.1 z) ↔ ∃ c : List Nat × Nat, cs[i]? = some c ∧ Two c.1 z) := by
    intro i z l h1 h2 _
    by_cases e : at_ = i
    · subst e
      constructor
      · rintro ⟨c, hc2, h3⟩
        rw [hg, if_pos rfl] at hc2
        cases hc2
        rcases Two.cons.1 h3 with e | e
        · exact ⟨_, hc, Two.cons.2 (.inl e)⟩
        · exact absurd e h2
      · rintro ⟨c, hc2, h3⟩
        rw [hc] at hc2
        cases hc2
        rcases Two.cons.1 h3 with e | e
        · exact ⟨_, by rw [hg, if_pos rfl], Two.cons.2 (.inl e)⟩
        · exact absurd e h1
    · rw [hg, if_neg e]
  refine ⟨h.ppl, by simpa using hwl, h.tlt, h.tnd, h.tcon, h.hn, fun i d hd => ?_, fun z l hl => ?_, fun z l hl i => ?_, fun i d hd => ?_, fun d hd hw => ?_, h.up, fun i d hd => ?_⟩
  · rw [hg] at hd; split at hd
    · cases hd
      refine ⟨by simp, hp.nodup_iff.2 hcl.nd, fun z hz => hcl.lt z (hp.mem_iff.1 hz), hcl.lo, ?_⟩
      have := hcl.hi
      simpa using this
    · exact h.cl i d hd
  · rcases hW z l hl with ⟨_, rfl⟩ | ⟨_, rfl⟩ | ⟨_, _, hl⟩
    · rw [List.nodup_append] at hndx ⊢
      obtain ⟨h1, h2, h3⟩ := hndx
      simp only [List.nodup_cons] at h2
      exact ⟨h1, h2.2, fun a ha b hb => h3 a ha b (.tail _ hb)⟩
    · rw [List.nodup_append]
      exact ⟨h.wnd y ly hgy, by simp, fun a ha b hb => by simp only [List.mem_singleton] at hb; subst hb; intro e; subst e; exact haly ha⟩
    · exact h.wnd z l hl
  · rcases hW z l hl with ⟨rfl, rfl⟩ | ⟨rfl, rfl⟩ | ⟨h1, h2, hl⟩
    · have hw := h.wat z _ hgx i
      by_cases e : at_ = i
      · subst e
        refine ⟨fun hm => absurd hm hat1, ?_⟩
        rintro ⟨c, hc2, h3⟩
        rw [hg, if_pos rfl] at hc2
        cases hc2
        rcases Two.cons.1 h3 with e | e
        · exact absurd e.symm hax
        · exact absurd e.symm hyx
      · rw [hg, if_neg e, ← hw]
        simp only [List.mem_append, List.mem_cons]
        constructor
        · rintro (hm | hm)
          · exact .inl hm
          · exact .inr (.inr hm)
        · rintro (hm | hm | hm)
          · exact .inl hm
          · exact absurd hm.symm e
          · exact .inr hm
    · have hw := h.wat z ly hgy i
      by_cases e : at_ = i
      · subst e
        refine ⟨fun _ => ⟨_, by rw [hg, if_pos rfl], Two.cons.2 (.inr rfl)⟩, fun _ => by simp⟩
      · rw [hg, if_neg e, ← hw]
        simp only [List.mem_append, List.mem_singleton]
        constructor
        · rintro (hm | hm)
          · exact hm
          · exact absurd hm.symm e
        · exact .inl
    · rw [hTw i z l h1 h2 hl]
      exact h.wat z l hl i
  · rw [hg] at hd; split at hd
    · cases hd
      obtain ⟨d, h1, h2, h3⟩ := h.fr at_ _ hc
      exact ⟨d, h1, h2, fun x => (h3 x).trans ⟨fun ⟨y, hy, e⟩ => ⟨y, hp.mem_iff.2 hy, e⟩, fun ⟨y, hy, e⟩ => ⟨y, hp.mem_iff.1 hy, e⟩⟩⟩
    · exact h.fr i d hd
  · rcases h.to d hd hw with h1 | ⟨i, e, he, hy⟩ | h1
    · exact .inl h1
    · refine .inr (.inl ?_)
      by_cases e2 : at_ = i
      · subst e2; rw [hc] at he; cases he
        exact ⟨at_, _, by rw [hg, if_pos rfl], fun y hy2 => hy y (hp.mem_iff.1 hy2)⟩
      · exact ⟨i, e, by rw [hg, if_neg e2]; exact he, hy⟩
    · exact .inr (.inr h1)
  · rw [hg] at hd; split at hd
    · cases hd
      have hb := h.bw at_ _ hc
      rw [BW.cons] at hb ⊢
      refine ⟨fun hm => absurd (List.mem_of_mem_take (hb.1 hm)) hxT, fun hm => absurd (List.mem_of_mem_take hm) hy⟩
    · exact h.bw i d hd

/-- In the midst of a visit of x, which the h-th of the trail made false: K are kept, rest are to be looked at. -/
structure Vs (L M : List (List Int)) (S0 : Int → Prop) (n h x : Nat) (pl : List Int) (cs : List (List Nat × Nat)) (ws : List (List Nat)) (T K rest : List Nat) : Prop where
  str : Str L M S0 n pl cs (ws.set x (K ++ rest)) T
  w : ∀ (i : Nat) c, cs[i]? = some c → i ∉ rest → W T (h + 1) c.1
  v : ∀ (i : Nat) c, cs[i]? = some c → i ∈ rest → W T h c.1
  hx : T[h]? = some (op x)
  nh : n ≤ h
  xl : x < ws.length
theorem Vs.xT {h x : Nat} {K rest : List Nat} (v : Vs L M S0 n h x pl cs ws T K rest) : op x ∈ T ∧ x ∉ T := by
  have h1 := List.mem_of_getElem? v.hx
  exact ⟨h1, fun hm => v.str.tcon x hm h1⟩
theorem Vs.hl {h x : Nat} {K rest : List Nat} (v : Vs L M S0 n h x pl cs ws T K rest) : h < T.length := (List.getElem?_eq_some_iff.1 v.hx).1
theorem Vs.start {h x : Nat} {l : List Nat} (s : Str L M S0 n pl cs ws T) (hw : ∀ (i : Nat) c, cs[i]? = some c → W T h c.1) (hx : T[h]? = some (op x)) (nh : n ≤ h) (hl : ws[x]? = some l) : Vs L M S0 n h x pl cs ws T [] l := by
  have xl : x < ws.length := (List.getElem?_eq_some_iff.1 hl).1
  have e : ws.set x ([] ++ l) = ws := by
    apply List.ext_getElem?
    intro i
    rw [List.nil_append, List.getElem?_set]
    by_cases e : x = i
    · subst e; rw [if_pos rfl, if_pos xl]; exact hl.symm
    · simp [e]
  refine ⟨by rw [e]; exact s, fun i c hc hi a b t ec => ?_, fun i c hc _ => hw i c hc, hx, nh, xl⟩
  have hnt : ¬ Two c.1 x := fun h2 => hi ((s.wat x l hl i).2 ⟨c, hc, h2⟩)
  rw [ec, Two.cons, not_or] at hnt
  obtain ⟨h1, h2⟩ := hw i c hc a b t ec
  rw [take_one hx]
  simp only [List.mem_append, List.mem_singleton]
  refine ⟨fun hm => ?_, fun hm => ?_⟩
  · rcases hm with hm | hm
    · exact h1 hm
    · exact absurd (op_inj hm).symm hnt.1
  · rcases hm with hm | hm
    · exact h2 hm
    · exact absurd (op_inj hm).symm hnt.2
/-- The clause at hand watches x, and another literal. -/
theorem Vs.two {h x at_ : Nat} {K rest : List Nat} (v : Vs L M S0 n h x pl cs ws T K (at_ :: rest)) : ∃ a b t m, cs[at_]? = some (a :: b :: t, m) ∧ (x = a ∨ x = b) ∧ a ≠ b := by
  have hg : (ws.set x (K ++ at_ :: rest))[x]? = some (K ++ at_ :: rest) := by simp [v.xl]
  obtain ⟨c, hc, a, b, t, e, h2⟩ := (v.str.wat x _ hg at_).1 (by simp)
  obtain ⟨c1, m⟩ := c
  subst e
  have hnd := (v.str.cl at_ _ hc).nd
  simp only [List.nodup_cons, List.mem_cons, not_or] at hnd
  exact ⟨a, b, t, m, hc, h2, hnd.1.1⟩
theorem Vs.cset {h x at_ : Nat} {K rest : List Nat} {c c' : List Nat × Nat} (v : Vs L M S0 n h x pl cs ws T K (at_ :: rest)) (hc : cs[at_]? = some c) (hs : Str L M S0 n pl (cs.set at_ c') (ws.set x (K ++ at_ :: rest)) T) (hw : W T h c'.1) : Vs L M S0 n h x pl (cs.set at_ c') ws T K (at_ :: rest) := by
  have hi : at_ < cs.length := (List.getElem?_eq_some_iff.1 hc).1
  refine ⟨hs, fun i d hd hr => ?_, fun i d hd hr => ?_, v.hx, v.nh, v.xl⟩
  · rw [get_set cs hi] at hd; split at hd
    · rename_i e; subst e; exact absurd (List.mem_cons_self ..) hr
    · exact v.w i d hd hr
  · rw [get_set cs hi] at hd; split at hd
    · cases hd; exact hw
    · exact v.v i d hd hr
theorem Vs.swap {h x at_ b m : Nat} {t K rest : List Nat} (v : Vs L M S0 n h x pl cs ws T K (at_ :: rest)) (hc : cs[at_]? = some (x :: b :: t, m)) : Vs L M S0 n h x pl (cs.set at_ (b :: x :: t, m)) ws T K (at_ :: rest) := by
  refine v.cset hc (v.str.swap hc) ?_
  have := v.v at_ _ hc (.head _)
  rw [W.cons] at this ⊢
  exact this.symm
theorem Vs.next {h x at_ m m' : Nat} {c K rest : List Nat} (v : Vs L M S0 n h x pl cs ws T K (at_ :: rest)) (hc : cs[at_]? = some (c, m)) (h1 : 2 ≤ m') (h2 : m' ≤ c.length) : Vs L M S0 n h x pl (cs.set at_ (c, m')) ws T K (at_ :: rest) :=
  v.cset hc (v.str.next hc h1 h2) (v.v at_ (c, m) hc (.head _))
/-- Another literal is watched. -/
theorem Vs.move {h x at_ a y m j : Nat} {t K rest ly : List Nat} (v : Vs L M S0 n h x pl cs ws T K (at_ :: rest)) (hc : cs[at_]? = some (a :: x :: t, m)) (hj : t[j]? = some y) (hly : ws[y]? = some ly) (hy : op y ∉ T) :
    Vs L M S0 n h x pl (cs.set at_ (a :: y :: t.set j x, m)) (ws.set y (ly ++ [at_])) T K rest := by
  have hi : at_ < cs.length := (List.getElem?_eq_some_iff.1 hc).1
  obtain ⟨hoT, hxT⟩ := v.xT
  have hndx := v.str.wnd x (K ++ at_ :: rest) (by simp [v.xl])
  rw [List.nodup_append] at hndx
  have hndr := hndx.2.1
  simp only [List.nodup_cons] at hndr
  refine ⟨v.str.move v.xl hc hj hly hy hxT (not_take v.str.tnd v.hx v.nh), fun i d hd hr => ?_, fun i d hd hr => ?_, v.hx, v.nh, by simpa using v.xl⟩
  · rw [get_set cs hi] at hd; split at hd
    · cases hd
      have hw := v.v at_ _ hc (.head _)
      rw [W.cons] at hw ⊢
      refine ⟨fun hm => ?_, fun hm => absurd (List.mem_of_mem_take hm) hy⟩
      rw [take_one v.hx] at hm
      rcases List.mem_append.1 hm with hm | hm
      · exact absurd (hw.1 hm) hxT
      · simp only [List.mem_singleton] at hm
        have hnd := (v.str.cl at_ _ hc).nd
        simp only [List.nodup_cons, List.mem_cons, not_or] at hnd
        exact absurd (op_inj hm) hnd.1.1
    · rename_i e
      exact v.w i d hd fun hm => by
        rcases List.mem_cons.1 hm with hm | hm
        · exact e hm.symm
        · exact hr hm
  · rw [get_set cs hi] at hd; split at hd
    · rename_i e; subst e; exact absurd hr hndr.1
    · exact v.v i d hd (.tail _ hr)
/-- The clause is kept: its other watched literal is true. -/
theorem Vs.keep {h x at_ a m : Nat} {t K rest : List Nat} (v : Vs L M S0 n h x pl cs ws T K (at_ :: rest)) (hc : cs[at_]? = some (a :: x :: t, m)) (ha : a ∈ T) : Vs L M S0 n h x pl cs ws T (K ++ [at_]) rest := by
  have e : K ++ [at_] ++ rest = K ++ at_ :: rest := by simp
  refine ⟨by rw [e]; exact v.str, fun i d hd hr => ?_, fun i d hd hr => v.v i d hd (.tail _ hr), v.hx, v.nh, v.xl⟩
  by_cases e : i = at_
  · subst e
    rw [hc] at hd; cases hd
    rw [W.cons]
    exact ⟨fun hm => absurd (List.mem_of_mem_take hm) (v.str.tcon a ha), fun _ => ha⟩
  · exact v.w i d hd fun hm => by
      rcases List.mem_cons.1 hm with hm | hm
      · exact e hm
      · exact hr hm
theorem Vs.set {h x a : Nat} {K rest : List Nat} (v : Vs L M S0 n h x pl cs ws T K rest) (ha : a < 2 * pl.length) (h1 : a ∉ T) (h2 : op a ∉ T) (hu : Up L S0 (num pl a)) : Vs L M S0 n h x pl cs ws (T ++ [a]) K rest := by
  have hl := v.hl
  refine ⟨v.str.set ha h1 h2 hu, fun i d hd hr => (v.w i d hd hr).grow (by omega) a, fun i d hd hr => (v.v i d hd hr).grow (by omega) a, ?_, v.nh, v.xl⟩
  rw [List.getElem?_append_left hl]
  exact v.hx
/-- All others of the clause at hand are false: it says its first. -/
theorem Vs.says {h x at_ a m : Nat} {t K rest : List Nat} (v : Vs L M S0 n h x pl cs ws T K (at_ :: rest)) (hc : cs[at_]? = some (a :: x :: t, m)) (ht : ∀ y ∈ t, op y ∈ T) : a < 2 * pl.length ∧ Up L S0 (num pl a) := by
  refine ⟨(v.str.cl at_ _ hc).lt a (.head _), v.str.unit hc (.head _) fun y hy hne => ?_⟩
  rcases List.mem_cons.1 hy with hy | hy
  · exact absurd hy hne
  · rcases List.mem_cons.1 hy with hy | hy
    · rw [hy]; exact v.xT.1
    · exact ht y hy
theorem Vs.clash {h x at_ a m : Nat} {t K rest : List Nat} (v : Vs L M S0 n h x pl cs ws T K (at_ :: rest)) (hc : cs[at_]? = some (a :: x :: t, m)) (ht : ∀ y ∈ t, op y ∈ T) (ha : op a ∈ T) : Clash L S0 := by
  refine v.str.clash hc fun y hy => ?_
  rcases List.mem_cons.1 hy with hy | hy
  · rw [hy]; exact ha
  · rcases List.mem_cons.1 hy with hy | hy
    · rw [hy]; exact v.xT.1
    · exact ht y hy
theorem Vs.done {h x : Nat} {K : List Nat} (v : Vs L M S0 n h x pl cs ws T K []) : Str L M S0 n pl cs (ws.set x K) T ∧ ∀ (i : Nat) c, cs[i]? = some c → W T (h + 1) c.1 := by
  have := v.str
  rw [List.append_nil] at this
  exact ⟨this, fun i c hc => v.w i c hc (by simp)⟩

/-! ### What follows -/
theorem Up.how {S : Int → Prop} {x : Int} (h : Up L S x) : S x ∨ ∃ d ∈ L, Whole d ∧ x ∈ d ∧ ∀ y ∈ d, y ≠ x → Up L S (-y) := by
  refine (h (fun x => Up L S x ∧ (S x ∨ ∃ d ∈ L, Whole d ∧ x ∈ d ∧ ∀ y ∈ d, y ≠ x → Up L S (-y))) (fun x hx => ⟨Up.base hx, .inl hx⟩) fun d h1 h2 x h3 h4 => ?_).2
  exact ⟨Up.unit h1 h2 h3 fun y hy hne => (h4 y hy hne).1, .inr ⟨d, h1, h2, h3, fun y hy hne => (h4 y hy hne).1⟩⟩
/-- A literal of c is true all the same: c follows. -/
theorem Fol.hit {c : List Int} (hc : Whole c) {x : Int} (hx : x ∈ c) (h : Up L (opp c) x) : Fol L c := by
  refine ⟨hc, ?_⟩
  rcases h.how with h | ⟨d, h1, h2, h3, h4⟩
  · exact .inl ⟨x, hx, h⟩
  · refine .inr ⟨d, h1, h2, fun y hy => ?_⟩
    by_cases e : y = x
    · subst e
      exact Up.base (by show - -y ∈ c; rw [Int.neg_neg]; exact hx)
    · exact h4 y hy e
/-- All is followed up, and no clause is false: c does not follow. -/
theorem Str.shut {c : List Int} (h : Str L L (opp c) n pl cs ws T) (hw : ∀ (i : Nat) d, cs[i]? = some d → W T T.length d.1) (hc : ∀ x ∈ c, ∃ y ∈ T, num pl y = -x) : ¬ Fol L c := by
  have hone : ∀ x, (∃ y ∈ T, num pl y = x) → (∃ y ∈ T, num pl y = -x) → False := by
    rintro x ⟨y, hy, e1⟩ ⟨z, hz, e2⟩
    have : num pl (op y) = num pl z := by rw [num_op, e1, e2]
    have := num_inj h.ppl (op_lt (h.tlt y hy)) (h.tlt z hz) this
    exact h.tcon y hy (this ▸ hz)
  rintro ⟨_, ⟨x, h1, h2⟩ | hcl⟩
  · have := hc _ h2
    rw [Int.neg_neg] at this
    exact hone x this (hc x h1)
  · refine no_clash (S := fun x => ∃ y ∈ T, num pl y = x) (fun x hx => ?_) (fun d hd hwd => ?_) hone hcl
    · have := hc _ hx
      rwa [Int.neg_neg] at this
    · have hopen : ∀ y, y < 2 * pl.length → op y ∉ T → ¬ ∃ z ∈ T, num pl z = -num pl y := by
        rintro y hy hn ⟨z, hz, e⟩
        rw [← num_op] at e
        have := num_inj h.ppl (h.tlt z hz) (op_lt hy) e
        exact hn (this ▸ hz)
      rcases h.to d hd hwd with ⟨x, h1, h2⟩ | ⟨i, e, he, hy⟩ | ⟨y, hy, h2⟩
      · by_cases hx : ∃ y ∈ T, num pl y = x
        · exact .inl ⟨x, h1, hx⟩
        · by_cases hx2 : ∃ y ∈ T, num pl y = -x
          · exact .inl ⟨-x, h2, hx2⟩
          · refine .inr ⟨x, h1, -x, h2, ?_, hx2, ?_⟩
            · have := (hwd x h1).1; omega
            · rw [Int.neg_neg]; exact hx
      · have hcl := h.cl i e he
        obtain ⟨e1, m⟩ := e
        match e1, hcl, hy, hw i _ he with
        | a :: b :: t, hcl, hy, hw =>
          rw [W.cons, List.take_length] at hw
          have hla := hcl.lt a (.head _)
          have hlb := hcl.lt b (.tail _ (.head _))
          by_cases ha : op a ∈ T
          · exact .inl ⟨_, hy b (.tail _ (.head _)), b, hw.1 ha, rfl⟩
          · by_cases hb : op b ∈ T
            · exact .inl ⟨_, hy a (.head _), a, hw.2 hb, rfl⟩
            · refine .inr ⟨_, hy a (.head _), _, hy b (.tail _ (.head _)), fun e => ?_, hopen a hla ha, hopen b hlb hb⟩
              have := num_inj h.ppl hla hlb e
              have hnd := hcl.nd
              simp only [List.nodup_cons, List.mem_cons, not_or] at hnd
              exact hnd.1.1 this
        | [a], hcl, _, _ => exact absurd hcl.len (by simp)
        | [], hcl, _, _ => exact absurd hcl.len (by simp)
      · exact .inl ⟨_, h2, y, List.mem_of_mem_take hy, rfl⟩
end
end Go.Proofs.Ytmkkhpoedlbafaa

namespace Go.Proofs.Ytmkkhpoedlbafaa
section
variable {L M : List (List Int)} {S0 : Int → Prop} {n : Nat} {pl : List Int} {cs : List (List Nat × Nat)} {ws : List (List Nat)} {T : List Nat}
theorem Str.grow (h : Str L M S0 n pl cs ws T) {a : Int} (hp : Pl (pl ++ [a])) : Str L M S0 n (pl ++ [a]) cs (ws ++ [[], []]) T := by
  have hl : (pl ++ [a]).length = pl.length + 1 := by simp
  have hle : ∀ y, y < 2 * pl.length → y < 2 * (pl ++ [a]).length := fun y hy => by rw [hl]; omega
  have hws : ∀ (x : Nat) l, (ws ++ [[], []])[x]? = some l → ws[x]? = some l ∨ (2 * pl.length ≤ x ∧ l = []) := by
    intro x l hx
    by_cases e : x < ws.length
    · rw [List.getElem?_append_left e] at hx; exact .inl hx
    · have hlt := (List.getElem?_eq_some_iff.1 hx).1
      simp only [List.length_append, List.length_cons, List.length_nil] at hlt
      rw [List.getElem?_append_right (by omega)] at hx
      refine .inr ⟨by have := h.wl; omega, ?_⟩
      have : x - ws.length = 0 ∨ x - ws.length = 1 := by omega
      rcases this with e | e <;> rw [e] at hx <;> simp at hx <;> exact hx
  refine ⟨hp, by simp [h.wl]; omega, fun y hy => hle y (h.tlt y hy), h.tnd, h.tcon, h.hn, fun i c hc => ?_, fun x l hx => ?_, fun x l hx i => ?_, fun i c hc => ?_, fun d hd hw => ?_, fun y hy => ?_, h.bw⟩
  · have := h.cl i c hc
    exact ⟨this.len, this.nd, fun y hy => hle y (this.lt y hy), this.lo, this.hi⟩
  · rcases hws x l hx with h1 | ⟨_, rfl⟩
    · exact h.wnd x l h1
    · exact List.nodup_nil
  · rcases hws x l hx with h1 | ⟨h1, rfl⟩
    · exact h.wat x l h1 i
    · refine ⟨fun hm => (by cases hm), ?_⟩
      rintro ⟨c, hc, a', b', t, e, h2⟩
      have := (h.cl i c hc).lt x (by rw [e]; rcases h2 with rfl | rfl <;> simp)
      omega
  · obtain ⟨d, h1, h2, h3⟩ := h.fr i c hc
    refine ⟨d, h1, h2, fun x => (h3 x).trans ⟨fun ⟨y, hy, e⟩ => ⟨y, hy, ?_⟩, fun ⟨y, hy, e⟩ => ⟨y, hy, ?_⟩⟩⟩
    · rw [num_app ((h.cl i c hc).lt y hy)]; exact e
    · rw [num_app ((h.cl i c hc).lt y hy)] at e; exact e
  · rcases h.to d hd hw with h1 | ⟨i, c, hc, h1⟩ | ⟨y, hy, h1⟩
    · exact .inl h1
    · exact .inr (.inl ⟨i, c, hc, fun y hy => by rw [num_app ((h.cl i c hc).lt y hy)]; exact h1 y hy⟩)
    · exact .inr (.inr ⟨y, hy, by rw [num_app (h.tlt y (List.mem_of_mem_take hy))]; exact h1⟩)
  · rw [num_app (h.tlt y hy)]; exact h.up y hy
theorem Str.weak (h : Str L M S0 n pl cs ws T) {S1 : Int → Prop} (hs : ∀ x, S0 x → S1 x) : Str L M S1 n pl cs ws T :=
  ⟨h.ppl, h.wl, h.tlt, h.tnd, h.tcon, h.hn, h.cl, h.wnd, h.wat, h.fr, h.to, fun y hy => (h.up y hy).mono (fun _ h => h) hs, h.bw⟩
theorem Str.moreL (h : Str L M S0 n pl cs ws T) {L' : List (List Int)} (hs : ∀ d ∈ L, d ∈ L') : Str L' M S0 n pl cs ws T :=
  ⟨h.ppl, h.wl, h.tlt, h.tnd, h.tcon, h.hn, h.cl, h.wnd, h.wat, fun i c hc => let ⟨d, h1, h2⟩ := h.fr i c hc; ⟨d, hs d h1, h2⟩, h.to, fun y hy => (h.up y hy).mono hs fun _ h => h, h.bw⟩
theorem Str.moreM (h : Str L M S0 n pl cs ws T) {e : List Int} (hs : (∃ x ∈ e, -x ∈ e) ∨ (∃ (i : Nat) (c : List Nat × Nat), cs[i]? = some c ∧ ∀ y ∈ c.1, num pl y ∈ e) ∨ ∃ y ∈ T.take n, num pl y ∈ e) : Str L (M ++ [e]) S0 n pl cs ws T :=
  ⟨h.ppl, h.wl, h.tlt, h.tnd, h.tcon, h.hn, h.cl, h.wnd, h.wat, h.fr, fun d hd hw => by
    rcases List.mem_append.1 hd with hd | hd
    · exact h.to d hd hw
    · simp only [List.mem_singleton] at hd; subst hd; exact hs, h.up, h.bw⟩
theorem Str.rebase (h : Str L M S0 n pl cs ws T) (hw : ∀ (i : Nat) c, cs[i]? = some c → W T T.length c.1) : Str L M S0 T.length pl cs ws T :=
  ⟨h.ppl, h.wl, h.tlt, h.tnd, h.tcon, Nat.le_refl _, h.cl, h.wnd, h.wat, h.fr, fun d hd hwd => by
    rcases h.to d hd hwd with h1 | h1 | ⟨y, hy, h1⟩
    · exact .inl h1
    · exact .inr (.inl h1)
    · exact .inr (.inr ⟨y, by rw [List.take_length]; exact List.mem_of_mem_take hy, h1⟩), h.up, fun i c hc a b t e => by
    have := hw i c hc a b t e
    rw [List.take_length] at this ⊢
    exact this⟩
theorem Str.back (h : Str L M S0 n pl cs ws T) {S1 : Int → Prop} (hu : ∀ y ∈ T.take n, Up L S1 (num pl y)) : Str L M S1 n pl cs ws (T.take n) ∧ ∀ (i : Nat) c, cs[i]? = some c → W (T.take n) n c.1 := by
  have e : (T.take n).take n = T.take n := by rw [List.take_take, Nat.min_self]
  refine ⟨⟨h.ppl, h.wl, fun y hy => h.tlt y (List.mem_of_mem_take hy), h.tnd.sublist (List.take_sublist _ _), fun y hy hm => h.tcon y (List.mem_of_mem_take hy) (List.mem_of_mem_take hm), ?_, h.cl, h.wnd, h.wat, h.fr, ?_, hu, ?_⟩, fun i c hc a b t ec => ?_⟩
  · rw [List.length_take]; have := h.hn; omega
  · rw [e]; exact h.to
  · rw [e]; exact h.bw
  · rw [e]; exact h.bw i c hc a b t ec
/-- A new clause, its first two not false. -/
theorem Str.add (h : Str L M S0 n pl cs ws T) {a b : Nat} {t la lb : List Nat} (hla : ws[a]? = some la) (hlb : ws[b]? = some lb) (hnd : (a :: b :: t).Nodup) (hlt : ∀ y ∈ a :: b :: t, y < 2 * pl.length) (ha : op a ∉ T) (hb : op b ∉ T) (hd : ∃ d ∈ L, Whole d ∧ ∀ x, x ∈ d ↔ ∃ y ∈ a :: b :: t, num pl y = x) :
    Str L M S0 n pl (cs ++ [(a :: b :: t, 2)]) ((ws.set a (la ++ [cs.length])).set b (lb ++ [cs.length])) T := by
  have hab : a ≠ b := by simp only [List.nodup_cons, List.mem_cons, not_or] at hnd; exact hnd.1.1
  have hal : a < ws.length := (List.getElem?_eq_some_iff.1 hla).1
  have hbl : b < ws.length := (List.getElem?_eq_some_iff.1 hlb).1
  have hg : ∀ (i : Nat) c, (cs ++ [(a :: b :: t, 2)])[i]? = some c → cs[i]? = some c ∨ (i = cs.length ∧ c = (a :: b :: t, 2)) := by
    intro i c hc
    by_cases e : i < cs.length
    · rw [List.getElem?_append_left e] at hc; exact .inl hc
    · have hlt := (List.getElem?_eq_some_iff.1 hc).1
      simp only [List.length_append, List.length_singleton] at hlt
      have : i = cs.length := by omega
      subst this
      simp at hc
      exact .inr ⟨rfl, hc.symm⟩
  have hold : ∀ (i : Nat) c, cs[i]? = some c → (cs ++ [(a :: b :: t, 2)])[i]? = some c := fun i c hc => by
    rw [List.getElem?_append_left (List.getElem?_eq_some_iff.1 hc).1]; exact hc
  have hnew : (cs ++ [(a :: b :: t, 2)])[cs.length]? = some (a :: b :: t, 2) := by simp
  have hW : ∀ (z : Nat) l, ((ws.set a (la ++ [cs.length])).set b (lb ++ [cs.length]))[z]? = some l → (∃ l0, ws[z]? = some l0 ∧ (z = a ∨ z = b) ∧ l = l0 ++ [cs.length]) ∨ (z ≠ a ∧ z ≠ b ∧ ws[z]? = some l) := by
    intro z l hl
    rw [List.getElem?_set] at hl
    by_cases e : b = z
    · subst e
      simp only [List.length_set, hbl, if_true, Option.some.injEq] at hl
      exact .inl ⟨lb, hlb, .inr rfl, hl.symm⟩
    · rw [if_neg e, List.getElem?_set] at hl
      by_cases e2 : a = z
      · subst e2
        simp only [hal, if_true, Option.some.injEq] at hl
        exact .inl ⟨la, hla, .inl rfl, hl.symm⟩
      · rw [if_neg e2] at hl
        exact .inr ⟨Ne.symm e2, Ne.symm e, hl⟩
  have hfresh : ∀ (z : Nat) l, ws[z]? = some l → cs.length ∉ l := fun z l hl hm => by
    obtain ⟨c, hc, _⟩ := (h.wat z l hl _).1 hm
    have := (List.getElem?_eq_some_iff.1 hc).1
    omega
  refine ⟨h.ppl, by simpa using h.wl, h.tlt, h.tnd, h.tcon, h.hn, fun i c hc => ?_, fun z l hl => ?_, fun z l hl i => ?_, fun i c hc => ?_, fun d hd hw => ?_, h.up, fun i c hc => ?_⟩
  · rcases hg i c hc with hc | ⟨_, rfl⟩
    · exact h.cl i c hc
    · exact ⟨by simp, hnd, hlt, Nat.le_refl _, by simp⟩
  · rcases hW z l hl with ⟨l0, h0, _, rfl⟩ | ⟨_, _, hl⟩
    · rw [List.nodup_append]
      exact ⟨h.wnd z l0 h0, by simp, fun a ha b hb => by simp only [List.mem_singleton] at hb; subst hb; intro e; subst e; exact hfresh z l0 h0 ha⟩
    · exact h.wnd z l hl
  · rcases hW z l hl with ⟨l0, h0, hz, rfl⟩ | ⟨h1, h2, hl⟩
    · have hw := h.wat z l0 h0 i
      rw [List.mem_append, List.mem_singleton, hw]
      constructor
      · rintro (⟨c, hc, h2⟩ | rfl)
        · exact ⟨c, hold i c hc, h2⟩
        · exact ⟨_, hnew, Two.cons.2 hz⟩
      · rintro ⟨c, hc, h2⟩
        rcases hg i c hc with hc | ⟨e, _⟩
        · exact .inl ⟨c, hc, h2⟩
        · exact .inr e
    · rw [h.wat z l hl i]
      constructor
      · rintro ⟨c, hc, h2⟩; exact ⟨c, hold i c hc, h2⟩
      · rintro ⟨c, hc, h3⟩
        rcases hg i c hc with hc | ⟨_, rfl⟩
        · exact ⟨c, hc, h3⟩
        · rcases Two.cons.1 h3 with e | e
          · exact absurd e h1
          · exact absurd e h2
  · rcases hg i c hc with hc | ⟨_, rfl⟩
    · exact h.fr i c hc
    · exact hd
  · rcases h.to d hd hw with h1 | ⟨i, c, hc, h1⟩ | h1
    · exact .inl h1
    · exact .inr (.inl ⟨i, c, hold i c hc, h1⟩)
    · exact .inr (.inr h1)
  · rcases hg i c hc with hc | ⟨_, rfl⟩
    · exact h.bw i c hc
    · exact BW.cons.2 ⟨fun hm => absurd (List.mem_of_mem_take hm) ha, fun hm => absurd (List.mem_of_mem_take hm) hb⟩
end
/-- The checker: numbers by places, clauses with their marks, watches, trail .. -/
structure KS where
  pl : List Int
  cs : List (List Nat × Nat)
  ws : List (List Nat)
  trail : List Nat
  head : Nat
  empty : Bool
  refuted : Bool
def no0 : Int → Prop := fun _ => False
def AllW (k : KS) (h : Nat) : Prop := ∀ (i : Nat) c, k.cs[i]? = some c → W k.trail h c.1
/-- The checker stands for these clauses. -/
structure Rep (L : List (List Int)) (k : KS) : Prop where
  yes : k.refuted = true → Clash L no0
  no : k.refuted = false → Str L L no0 k.trail.length k.pl k.cs k.ws k.trail ∧ AllW k k.trail.length ∧ k.head = k.trail.length
  emp : k.empty = true ↔ [] ∈ L
def KS.grow (k : KS) (a : Int) : KS := { k with pl := k.pl ++ [a], ws := k.ws ++ [[], []] }
def KS.nil : KS := ⟨[], [], [], [], 0, false, false⟩
theorem Rep.nil : Rep [] KS.nil where
  yes := fun h => by cases h
  no := fun _ => ⟨⟨Pl.nil, rfl, fun _ h => (by cases h), List.nodup_nil, fun _ h => (by cases h), Nat.le_refl _, fun i c h => by simp [KS.nil] at h, fun x l h => by simp [KS.nil] at h, fun x l h => by simp [KS.nil] at h, fun i c h => by simp [KS.nil] at h, fun _ h => (by cases h), fun _ h => (by cases h), fun i c h => by simp [KS.nil] at h⟩, fun i c h => by simp [KS.nil] at h, rfl⟩
  emp := by simp [KS.nil]
end Go.Proofs.Ytmkkhpoedlbafaa
