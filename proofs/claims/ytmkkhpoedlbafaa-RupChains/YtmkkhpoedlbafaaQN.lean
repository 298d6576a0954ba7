/- Package rup: add: a clause of which no literal, or one alone, is not false. -/
import Derived.Test.YtmkkhpoedlbafaaQL
import Derived.Test.YtmkkhpoedlbafaaQM
set_option linter.unusedVariables false
set_option linter.unusedSimpArgs false

/- Package rup: add, over plain lists. -/
namespace Go.Proofs.Ytmkkhpoedlbafaa
theorem swap_perm {zs : List Nat} {a i x y : Nat} (ha : zs[a]? = some y) (hi : zs[i]? = some x) : ((zs.set a x).set i y).Perm zs := by
  have h1 : (y :: zs.set a x).Perm (x :: zs) := move_perm ha
  have hl : a < zs.length := (List.getElem?_eq_some_iff.1 ha).1
  have h2 : (zs.set a x)[i]? = some x := by
    rw [List.getElem?_set]
    by_cases e : a = i
    · rw [if_pos e, if_pos hl]
    · rw [if_neg e]; exact hi
  have h3 : (x :: (zs.set a x).set i y).Perm (y :: zs.set a x) := move_perm h2
  exact List.Perm.cons_inv (h3.trans h1)
/-- The first i have been looked at, o of them, which are not false, stand in front. -/
structure Sift (T : List Nat) (ys zs : List Nat) (i o : Nat) : Prop where
  pm : zs.Perm ys
  oi : o ≤ i
  o2 : o ≤ 2
  fr : ∀ t z, t < o → zs[t]? = some z → op z ∉ T
  fl : o < 2 → ∀ t z, o ≤ t → t < i → zs[t]? = some z → op z ∈ T
theorem Sift.start (T ys : List Nat) : Sift T ys ys 0 0 := ⟨.refl _, Nat.le_refl _, by omega, fun _ _ h => absurd h (Nat.not_lt_zero _), fun _ _ _ _ h => absurd h (Nat.not_lt_zero _)⟩
theorem Sift.pass {T ys zs : List Nat} {i o x : Nat} (h : Sift T ys zs i o) (hx : zs[i]? = some x) (hc : o < 2 → op x ∈ T) : Sift T ys zs (i + 1) o := by
  refine ⟨h.pm, by have := h.oi; omega, h.o2, h.fr, fun ho t z h1 h2 hz => ?_⟩
  by_cases e : t < i
  · exact h.fl ho t z h1 e hz
  · have e2 : t = i := by omega
    subst e2
    rw [hx] at hz; cases hz; exact hc ho
theorem Sift.take {T ys zs : List Nat} {i o x y : Nat} (h : Sift T ys zs i o) (hx : zs[i]? = some x) (ho : o < 2) (hy : zs[o]? = some y) (hn : op x ∉ T) : Sift T ys ((zs.set o x).set i y) (i + 1) (o + 1) := by
  have hol : o < zs.length := (List.getElem?_eq_some_iff.1 hy).1
  have hil : i < zs.length := (List.getElem?_eq_some_iff.1 hx).1
  have oi := h.oi
  have hg : ∀ t, ((zs.set o x).set i y)[t]? = if i = t then some y else if o = t then some x else zs[t]? := fun t => by
    rw [List.getElem?_set]
    by_cases e : i = t
    · subst e; simp [hil]
    · rw [if_neg e, if_neg e, List.getElem?_set]
      by_cases e2 : o = t
      · subst e2; simp [hol]
      · rw [if_neg e2, if_neg e2]
  refine ⟨(swap_perm hy hx).trans h.pm, by omega, by omega, fun t z h1 hz => ?_, fun h2 t z h3 h4 hz => ?_⟩
  · rw [hg] at hz
    by_cases e : i = t
    · rw [if_pos e] at hz
      have e2 : o = i := by omega
      subst e2
      rw [hx] at hy; cases hy; cases hz; exact hn
    · rw [if_neg e] at hz
      by_cases e2 : o = t
      · rw [if_pos e2] at hz; cases hz; exact hn
      · rw [if_neg e2] at hz; exact h.fr t z (by omega) hz
  · rw [hg] at hz
    by_cases e : i = t
    · rw [if_pos e] at hz
      cases hz
      exact h.fl ho o y (Nat.le_refl _) (by omega) hy
    · rw [if_neg e, if_neg (by omega)] at hz
      exact h.fl ho t z (by omega) (by omega) hz
theorem Sift.none {T ys zs : List Nat} {i : Nat} (h : Sift T ys zs i 0) (hi : zs.length ≤ i) : ∀ y ∈ ys, op y ∈ T := fun y hy => by
  obtain ⟨t, ht, e⟩ := List.mem_iff_getElem.1 (h.pm.mem_iff.2 hy)
  exact h.fl (by omega) t y (Nat.zero_le _) (by omega) (by rw [List.getElem?_eq_getElem ht, e])
theorem Sift.one {T ys zs : List Nat} {i : Nat} (h : Sift T ys zs i 1) (hi : zs.length = i) : ∃ z t, zs = z :: t ∧ op z ∉ T ∧ ∀ y ∈ t, op y ∈ T := by
  have := h.oi
  match zs, h, hi with
  | z :: t, h, hi =>
    refine ⟨z, t, rfl, h.fr 0 z (by omega) rfl, fun y hy => ?_⟩
    obtain ⟨j, hj, e⟩ := List.mem_iff_getElem.1 hy
    simp only [List.length_cons] at hi
    exact h.fl (by omega) (j + 1) y (by omega) (by omega) (by rw [List.getElem?_cons_succ, List.getElem?_eq_getElem hj, e])
  | [], h, hi => simp at hi; omega
theorem Sift.two {T ys zs : List Nat} {i : Nat} (h : Sift T ys zs i 2) (hi : zs.length = i) : ∃ a b t, zs = a :: b :: t ∧ op a ∉ T ∧ op b ∉ T := by
  have := h.oi
  match zs, h, hi with
  | a :: b :: t, h, hi => exact ⟨a, b, t, rfl, h.fr 0 a (by omega) rfl, h.fr 1 b (by omega) rfl⟩
  | [_], h, hi => simp at hi; omega
  | [], h, hi => simp at hi; omega
/-- What the checker stands for, empty clauses aside. -/
structure Rq (L : List (List Int)) (k : KS) : Prop where
  yes : k.refuted = true → Clash L no0
  no : k.refuted = false → Str L L no0 k.trail.length k.pl k.cs k.ws k.trail ∧ AllW k k.trail.length ∧ k.head = k.trail.length
theorem Rep.rq {L : List (List Int)} {k : KS} (h : Rep L k) : Rq L k := ⟨h.yes, h.no⟩
theorem Rq.empty {L : List (List Int)} {k : KS} (h : Rq L k) (b : Bool) : Rq L { k with empty := b } := ⟨h.yes, h.no⟩
theorem Gr.rq {k k' : KS} {c : Nat} {L : List (List Int)} (h : Gr k k' c) (hR : Rq L k) : Rq L k' := by
  refine ⟨fun e => hR.yes (by rw [← h.re]; exact e), fun e => ?_⟩
  obtain ⟨s0, s1, s2⟩ := hR.no (by rw [← h.re]; exact e)
  have s3 := h.st L L no0 k.trail.length s0
  refine ⟨by rw [h.tr]; rw [h.tr] at s3; exact s3, fun i d hd => ?_, by rw [h.hd, h.tr]; exact s2⟩
  rw [h.tr]
  exact s1 i d (by rw [← h.cs]; exact hd)
theorem inl {L : List (List Int)} {xs : List Int} : ∀ d ∈ L, d ∈ L ++ [xs] := fun _ h => List.mem_append_left _ h
section
variable {L : List (List Int)} {k : KS} {xs : List Int} {ys zs : List Nat}
theorem Rq.more (h : Rq L k) (hs : k.refuted = false → (∃ x ∈ xs, -x ∈ xs) ∨ (∃ (i : Nat) (c : List Nat × Nat), k.cs[i]? = some c ∧ ∀ y ∈ c.1, num k.pl y ∈ xs) ∨ ∃ y ∈ k.trail.take k.trail.length, num k.pl y ∈ xs) : Rq (L ++ [xs]) k :=
  ⟨fun e => (h.yes e).mono inl fun _ h => h, fun e => ⟨((h.no e).1.moreL inl).moreM (hs e), (h.no e).2⟩⟩
theorem add_none (h : Rq L k) (hr : k.refuted = false) (hw : Whole xs) (ht : Tidy k.pl xs ys) (hf : ∀ y ∈ ys, op y ∈ k.trail) : Rq (L ++ [xs]) { k with refuted := true } := by
  refine ⟨fun _ => ⟨xs, by simp, hw, fun x hx => ?_⟩, fun e => by cases e⟩
  obtain ⟨y, hy, rfl⟩ := (ht.mem x).1 hx
  rw [← num_op]
  exact ((h.no hr).1.up _ (hf y hy)).mono inl fun _ h => h
/-- One literal of a new clause is not false: it is set. -/
theorem add_one {z : Nat} {t : List Nat} (h : Rq L k) (hr : k.refuted = false) (hw : Whole xs) (ht : Tidy k.pl xs ys) (hp : (z :: t).Perm ys) (hz : op z ∉ k.trail) (hf : ∀ y ∈ t, op y ∈ k.trail) (k2 : KS) (hk : k2 = if tv k.trail z = 0 then { k with trail := k.trail ++ [z] } else k) :
    Str (L ++ [xs]) L no0 k.trail.length k2.pl k2.cs k2.ws k2.trail ∧ AllW k2 k2.head ∧ k.trail.length ≤ k2.head ∧ k2.head ≤ k2.trail.length ∧ z ∈ k2.trail ∧ num k.pl z ∈ xs ∧ k2.pl = k.pl ∧ k2.cs = k.cs ∧ k2.empty = k.empty ∧ k2.refuted = k.refuted := by
  obtain ⟨s0, s1, s2⟩ := h.no hr
  have hzy : z ∈ ys := hp.mem_iff.1 (.head _)
  have hzx : num k.pl z ∈ xs := (ht.mem _).2 ⟨z, hzy, rfl⟩
  have s0' := s0.moreL (L' := L ++ [xs]) inl
  have hu : Up (L ++ [xs]) no0 (num k.pl z) := Up.unit (d := xs) (by simp) hw hzx fun x hx hne => by
    obtain ⟨y, hy, rfl⟩ := (ht.mem x).1 hx
    rcases List.mem_cons.1 (hp.mem_iff.2 hy) with rfl | hy2
    · exact absurd rfl hne
    · rw [← num_op]; exact s0'.up _ (hf y hy2)
  subst hk
  by_cases e : tv k.trail z = 0
  · rw [if_pos e]
    obtain ⟨e1, e2⟩ := tv_zero.1 e
    exact ⟨s0'.set (ht.lt z hzy) e1 e2 hu, fun i c hc => by
      show W (k.trail ++ [z]) k.head c.1
      rw [s2]
      exact (s1 i c hc).grow (Nat.le_refl _) z, by show k.trail.length ≤ k.head; omega, by show k.head ≤ (k.trail ++ [z]).length; simp; omega, by simp, hzx, rfl, rfl, rfl, rfl⟩
  · rw [if_neg e]
    have hm : z ∈ k.trail := by
      rcases tv_cases k.trail z with h1 | h1 | h1
      · exact tv_one.1 h1
      · exact absurd ((tv_mns s0.tcon).1 h1) hz
      · exact absurd h1 e
    exact ⟨s0', by rw [s2]; exact s1, by omega, by omega, hm, hzx, rfl, rfl, rfl, rfl⟩
theorem add_one_end {n z : Nat} {b : Bool} {k2 k3 : KS} (hl : Lp k2 k3) (hz : z ∈ k2.trail) (hx : num k2.pl z ∈ xs) (hs : Str (L ++ [xs]) L no0 n k3.pl k3.cs k3.ws k3.trail) (ht : b = true → AllW k3 k3.trail.length ∧ k3.head = k3.trail.length) (hf : b = false → Clash (L ++ [xs]) no0) : Rq (L ++ [xs]) { k3 with refuted := !b } := by
  cases b with
  | false => exact ⟨fun _ => hf rfl, fun e => by cases e⟩
  | true =>
    refine ⟨fun e => (by cases e), fun _ => ?_⟩
    obtain ⟨a1, a2⟩ := ht rfl
    obtain ⟨t, ht⟩ := hl.tr
    have h1 := hs.rebase a1
    have h2 := h1.moreM (e := xs) (.inr (.inr ⟨z, by rw [List.take_length, ht]; exact List.mem_append_left _ hz, by rw [hl.pl]; exact hx⟩))
    exact ⟨h2, a1, a2⟩
/-- Two literals of a new clause are not false: it is kept. -/
theorem add_two {a b : Nat} {t la lb : List Nat} (h : Rq L k) (hr : k.refuted = false) (hw : Whole xs) (ht : Tidy k.pl xs ys) (hp : (a :: b :: t).Perm ys) (ha : op a ∉ k.trail) (hb : op b ∉ k.trail) (hla : k.ws[a]? = some la) (hlb : k.ws[b]? = some lb) :
    Rq (L ++ [xs]) { k with cs := k.cs ++ [(a :: b :: t, 2)], ws := (k.ws.set a (la ++ [k.cs.length])).set b (lb ++ [k.cs.length]) } := by
  obtain ⟨s0, s1, s2⟩ := h.no hr
  have hnd : (a :: b :: t).Nodup := hp.nodup_iff.2 ht.nd
  have hlt : ∀ y ∈ a :: b :: t, y < 2 * k.pl.length := fun y hy => ht.lt y (hp.mem_iff.1 hy)
  have hd : ∀ x, x ∈ xs ↔ ∃ y ∈ a :: b :: t, num k.pl y = x := fun x => (ht.mem x).trans ⟨fun ⟨y, hy, e⟩ => ⟨y, hp.mem_iff.2 hy, e⟩, fun ⟨y, hy, e⟩ => ⟨y, hp.mem_iff.1 hy, e⟩⟩
  have s3 := (s0.moreL (L' := L ++ [xs]) inl).add hla hlb hnd hlt ha hb ⟨xs, by simp, hw, hd⟩
  have s4 := s3.moreM (e := xs) (.inr (.inl ⟨k.cs.length, (a :: b :: t, 2), by simp, fun y hy => (hd _).2 ⟨y, hy, rfl⟩⟩))
  refine ⟨fun e => (by rw [show ({ k with cs := k.cs ++ [(a :: b :: t, 2)], ws := (k.ws.set a (la ++ [k.cs.length])).set b (lb ++ [k.cs.length]) } : KS).refuted = false from hr] at e; cases e), fun _ => ⟨s4, fun i c hc => ?_, s2⟩⟩
  have hc' : (k.cs ++ [(a :: b :: t, 2)])[i]? = some c := hc
  show W k.trail k.trail.length c.1
  by_cases e : i < k.cs.length
  · rw [List.getElem?_append_left e] at hc'
    exact s1 i c hc'
  · have hl := (List.getElem?_eq_some_iff.1 hc').1
    simp only [List.length_append, List.length_singleton] at hl
    have ei : i = k.cs.length := by omega
    subst ei
    simp only [List.getElem?_concat_length, Option.some.injEq] at hc'
    subst hc'
    exact W.cons.2 ⟨fun hm => absurd (List.mem_of_mem_take hm) ha, fun hm => absurd (List.mem_of_mem_take hm) hb⟩
end
end Go.Proofs.Ytmkkhpoedlbafaa

/- Package rup: add: its pieces, its frames. -/
namespace Go.Proofs.Ytmkkhpoedlbafaa
open Go Go.RowKit Go.Sort
def cE : Code → Code
  | .cond _ _ b => b
  | c => c
def aAll (f : Func) : Code := (f.body).getD .skip
def aRest (f : Func) : Code := cR (cR (cR (aAll f)))
def aFor (f : Func) : Code := cR (aRest f)
def aLoop (f : Func) : Code := cB (cB (cR (cL (aFor f))))
def aSw (f : Func) : Code := cR (aFor f)
def aBody (f : Func) : Code := cB (cR (aSw f))
def aNone (f : Func) : Code := cT (cR (aBody f))
def aMore (f : Func) : Code := cE (cR (aBody f))
def aOne (f : Func) : Code := cT (cR (aMore f))
def aTwo (f : Func) : Code := cE (cR (aMore f))
def aW0 (f : Func) : Code := cL (aTwo f)
def aW1 (f : Func) : Code := cL (cR (aTwo f))
def aCl (f : Func) : Code := cR (cR (aTwo f))
/-- Where the literals are looked at. -/
structure AA (a : Act) (r g n cap : Nat) (ov : Int) : Prop where
  dfr : a.defers = []
  sz : a.tmps.size = 146
  s0 : a.tmps[0]? = some (.pointer (some ⟨r, 0, none⟩))
  s4 : a.tmps[4]? = some (.slice (some ⟨g, 0, none⟩) n cap)
  s6 : a.tmps[6]? = some (.int .i64 ov)
set_option maxRecDepth 100000 in
theorem AA.lit {a : Act} {r g n cap : Nat} {ov : Int} (h : AA a r g n cap ov) : ∃ u : Nat → Value, a = ⟨#[.pointer (some ⟨r, 0, none⟩), u 1, u 2, u 3, .slice (some ⟨g, 0, none⟩) n cap, u 5, .int .i64 ov, u 7, u 8, u 9, u 10, u 11, u 12, u 13, u 14, u 15, u 16, u 17, u 18, u 19, u 20, u 21, u 22, u 23, u 24, u 25, u 26, u 27, u 28, u 29, u 30, u 31, u 32, u 33, u 34, u 35, u 36, u 37, u 38, u 39, u 40, u 41, u 42, u 43, u 44, u 45, u 46, u 47, u 48, u 49, u 50, u 51, u 52, u 53, u 54, u 55, u 56, u 57, u 58, u 59, u 60, u 61, u 62, u 63, u 64, u 65, u 66, u 67, u 68, u 69, u 70, u 71, u 72, u 73, u 74, u 75, u 76, u 77, u 78, u 79, u 80, u 81, u 82, u 83, u 84, u 85, u 86, u 87, u 88, u 89, u 90, u 91, u 92, u 93, u 94, u 95, u 96, u 97, u 98, u 99, u 100, u 101, u 102, u 103, u 104, u 105, u 106, u 107, u 108, u 109, u 110, u 111, u 112, u 113, u 114, u 115, u 116, u 117, u 118, u 119, u 120, u 121, u 122, u 123, u 124, u 125, u 126, u 127, u 128, u 129, u 130, u 131, u 132, u 133, u 134, u 135, u 136, u 137, u 138, u 139, u 140, u 141, u 142, u 143, u 144, u 145], []⟩ := by
  obtain ⟨tmps, dfr⟩ := a
  refine ⟨fun i => tmps.getD i undef, ?_⟩
  have hd : dfr = [] := h.dfr
  have hl := arr_lit (show tmps.size = 146 from h.sz)
  have g0 : tmps.getD 0 undef = .pointer (some ⟨r, 0, none⟩) := getD_some h.s0
  have g4 : tmps.getD 4 undef = .slice (some ⟨g, 0, none⟩) n cap := getD_some h.s4
  have g6 : tmps.getD 6 undef = .int .i64 ov := getD_some h.s6
  subst hd
  congr 1
  have e : ((List.range 146).map fun i => tmps.getD i undef).toArray = #[tmps.getD 0 undef, tmps.getD 1 undef, tmps.getD 2 undef, tmps.getD 3 undef, tmps.getD 4 undef, tmps.getD 5 undef, tmps.getD 6 undef, tmps.getD 7 undef, tmps.getD 8 undef, tmps.getD 9 undef, tmps.getD 10 undef, tmps.getD 11 undef, tmps.getD 12 undef, tmps.getD 13 undef, tmps.getD 14 undef, tmps.getD 15 undef, tmps.getD 16 undef, tmps.getD 17 undef, tmps.getD 18 undef, tmps.getD 19 undef, tmps.getD 20 undef, tmps.getD 21 undef, tmps.getD 22 undef, tmps.getD 23 undef, tmps.getD 24 undef, tmps.getD 25 undef, tmps.getD 26 undef, tmps.getD 27 undef, tmps.getD 28 undef, tmps.getD 29 undef, tmps.getD 30 undef, tmps.getD 31 undef, tmps.getD 32 undef, tmps.getD 33 undef, tmps.getD 34 undef, tmps.getD 35 undef, tmps.getD 36 undef, tmps.getD 37 undef, tmps.getD 38 undef, tmps.getD 39 undef, tmps.getD 40 undef, tmps.getD 41 undef, tmps.getD 42 undef, tmps.getD 43 undef, tmps.getD 44 undef, tmps.getD 45 undef, tmps.getD 46 undef, tmps.getD 47 undef, tmps.getD 48 undef, tmps.getD 49 undef, tmps.getD 50 undef, tmps.getD 51 undef, tmps.getD 52 undef, tmps.getD 53 undef, tmps.getD 54 undef, tmps.getD 55 undef, tmps.getD 56 undef, tmps.getD 57 undef, tmps.getD 58 undef, tmps.getD 59 undef, tmps.getD 60 undef, tmps.getD 61 undef, tmps.getD 62 undef, tmps.getD 63 undef, tmps.getD 64 undef, tmps.getD 65 undef, tmps.getD 66 undef, tmps.getD 67 undef, tmps.getD 68 undef, tmps.getD 69 undef, tmps.getD 70 undef, tmps.getD 71 undef, tmps.getD 72 undef, tmps.getD 73 undef, tmps.getD 74 undef, tmps.getD 75 undef, tmps.getD 76 undef, tmps.getD 77 undef, tmps.getD 78 undef, tmps.getD 79 undef, tmps.getD 80 undef, tmps.getD 81 undef, tmps.getD 82 undef, tmps.getD 83 undef, tmps.getD 84 undef, tmps.getD 85 undef, tmps.getD 86 undef, tmps.getD 87 undef, tmps.getD 88 undef, tmps.getD 89 undef, tmps.getD 90 undef, tmps.getD 91 undef, tmps.getD 92 undef, tmps.getD 93 undef, tmps.getD 94 undef, tmps.getD 95 undef, tmps.getD 96 undef, tmps.getD 97 undef, tmps.getD 98 undef, tmps.getD 99 undef, tmps.getD 100 undef, tmps.getD 101 undef, tmps.getD 102 undef, tmps.getD 103 undef, tmps.getD 104 undef, tmps.getD 105 undef, tmps.getD 106 undef, tmps.getD 107 undef, tmps.getD 108 undef, tmps.getD 109 undef, tmps.getD 110 undef, tmps.getD 111 undef, tmps.getD 112 undef, tmps.getD 113 undef, tmps.getD 114 undef, tmps.getD 115 undef, tmps.getD 116 undef, tmps.getD 117 undef, tmps.getD 118 undef, tmps.getD 119 undef, tmps.getD 120 undef, tmps.getD 121 undef, tmps.getD 122 undef, tmps.getD 123 undef, tmps.getD 124 undef, tmps.getD 125 undef, tmps.getD 126 undef, tmps.getD 127 undef, tmps.getD 128 undef, tmps.getD 129 undef, tmps.getD 130 undef, tmps.getD 131 undef, tmps.getD 132 undef, tmps.getD 133 undef, tmps.getD 134 undef, tmps.getD 135 undef, tmps.getD 136 undef, tmps.getD 137 undef, tmps.getD 138 undef, tmps.getD 139 undef, tmps.getD 140 undef, tmps.getD 141 undef, tmps.getD 142 undef, tmps.getD 143 undef, tmps.getD 144 undef, tmps.getD 145 undef] := rfl
  rw [e, g0, g4, g6] at hl
  exact hl
/-- In the midst of the look. -/
structure AG (a : Act) (r g n cap : Nat) (ov iv : Int) : Prop where
  dfr : a.defers = []
  sz : a.tmps.size = 146
  s0 : a.tmps[0]? = some (.pointer (some ⟨r, 0, none⟩))
  s4 : a.tmps[4]? = some (.slice (some ⟨g, 0, none⟩) n cap)
  s6 : a.tmps[6]? = some (.int .i64 ov)
  s35 : a.tmps[35]? = some (.slice (some ⟨g, 0, none⟩) n cap)
  s36 : a.tmps[36]? = some (.int .i64 n)
  s37 : a.tmps[37]? = some (.int .i64 iv)
set_option maxRecDepth 100000 in
theorem AG.lit {a : Act} {r g n cap : Nat} {ov iv : Int} (h : AG a r g n cap ov iv) : ∃ u : Nat → Value, a = ⟨#[.pointer (some ⟨r, 0, none⟩), u 1, u 2, u 3, .slice (some ⟨g, 0, none⟩) n cap, u 5, .int .i64 ov, u 7, u 8, u 9, u 10, u 11, u 12, u 13, u 14, u 15, u 16, u 17, u 18, u 19, u 20, u 21, u 22, u 23, u 24, u 25, u 26, u 27, u 28, u 29, u 30, u 31, u 32, u 33, u 34, .slice (some ⟨g, 0, none⟩) n cap, .int .i64 n, .int .i64 iv, u 38, u 39, u 40, u 41, u 42, u 43, u 44, u 45, u 46, u 47, u 48, u 49, u 50, u 51, u 52, u 53, u 54, u 55, u 56, u 57, u 58, u 59, u 60, u 61, u 62, u 63, u 64, u 65, u 66, u 67, u 68, u 69, u 70, u 71, u 72, u 73, u 74, u 75, u 76, u 77, u 78, u 79, u 80, u 81, u 82, u 83, u 84, u 85, u 86, u 87, u 88, u 89, u 90, u 91, u 92, u 93, u 94, u 95, u 96, u 97, u 98, u 99, u 100, u 101, u 102, u 103, u 104, u 105, u 106, u 107, u 108, u 109, u 110, u 111, u 112, u 113, u 114, u 115, u 116, u 117, u 118, u 119, u 120, u 121, u 122, u 123, u 124, u 125, u 126, u 127, u 128, u 129, u 130, u 131, u 132, u 133, u 134, u 135, u 136, u 137, u 138, u 139, u 140, u 141, u 142, u 143, u 144, u 145], []⟩ := by
  obtain ⟨tmps, dfr⟩ := a
  refine ⟨fun i => tmps.getD i undef, ?_⟩
  have hd : dfr = [] := h.dfr
  have hl := arr_lit (show tmps.size = 146 from h.sz)
  have g0 : tmps.getD 0 undef = .pointer (some ⟨r, 0, none⟩) := getD_some h.s0
  have g4 : tmps.getD 4 undef = .slice (some ⟨g, 0, none⟩) n cap := getD_some h.s4
  have g6 : tmps.getD 6 undef = .int .i64 ov := getD_some h.s6
  have g35 : tmps.getD 35 undef = .slice (some ⟨g, 0, none⟩) n cap := getD_some h.s35
  have g36 : tmps.getD 36 undef = .int .i64 n := getD_some h.s36
  have g37 : tmps.getD 37 undef = .int .i64 iv := getD_some h.s37
  subst hd
  congr 1
  have e : ((List.range 146).map fun i => tmps.getD i undef).toArray = #[tmps.getD 0 undef, tmps.getD 1 undef, tmps.getD 2 undef, tmps.getD 3 undef, tmps.getD 4 undef, tmps.getD 5 undef, tmps.getD 6 undef, tmps.getD 7 undef, tmps.getD 8 undef, tmps.getD 9 undef, tmps.getD 10 undef, tmps.getD 11 undef, tmps.getD 12 undef, tmps.getD 13 undef, tmps.getD 14 undef, tmps.getD 15 undef, tmps.getD 16 undef, tmps.getD 17 undef, tmps.getD 18 undef, tmps.getD 19 undef, tmps.getD 20 undef, tmps.getD 21 undef, tmps.getD 22 undef, tmps.getD 23 undef, tmps.getD 24 undef, tmps.getD 25 undef, tmps.getD 26 undef, tmps.getD 27 undef, tmps.getD 28 undef, tmps.getD 29 undef, tmps.getD 30 undef, tmps.getD 31 undef, tmps.getD 32 undef, tmps.getD 33 undef, tmps.getD 34 undef, tmps.getD 35 undef, tmps.getD 36 undef, tmps.getD 37 undef, tmps.getD 38 undef, tmps.getD 39 undef, tmps.getD 40 undef, tmps.getD 41 undef, tmps.getD 42 undef, tmps.getD 43 undef, tmps.getD 44 undef, tmps.getD 45 undef, tmps.getD 46 undef, tmps.getD 47 undef, tmps.getD 48 undef, tmps.getD 49 undef, tmps.getD 50 undef, tmps.getD 51 undef, tmps.getD 52 undef, tmps.getD 53 undef, tmps.getD 54 undef, tmps.getD 55 undef, tmps.getD 56 undef, tmps.getD 57 undef, tmps.getD 58 undef, tmps.getD 59 undef, tmps.getD 60 undef, tmps.getD 61 undef, tmps.getD 62 undef, tmps.getD 63 undef, tmps.getD 64 undef, tmps.getD 65 undef, tmps.getD 66 undef, tmps.getD 67 undef, tmps.getD 68 undef, tmps.getD 69 undef, tmps.getD 70 undef, tmps.getD 71 undef, tmps.getD 72 undef, tmps.getD 73 undef, tmps.getD 74 undef, tmps.getD 75 undef, tmps.getD 76 undef, tmps.getD 77 undef, tmps.getD 78 undef, tmps.getD 79 undef, tmps.getD 80 undef, tmps.getD 81 undef, tmps.getD 82 undef, tmps.getD 83 undef, tmps.getD 84 undef, tmps.getD 85 undef, tmps.getD 86 undef, tmps.getD 87 undef, tmps.getD 88 undef, tmps.getD 89 undef, tmps.getD 90 undef, tmps.getD 91 undef, tmps.getD 92 undef, tmps.getD 93 undef, tmps.getD 94 undef, tmps.getD 95 undef, tmps.getD 96 undef, tmps.getD 97 undef, tmps.getD 98 undef, tmps.getD 99 undef, tmps.getD 100 undef, tmps.getD 101 undef, tmps.getD 102 undef, tmps.getD 103 undef, tmps.getD 104 undef, tmps.getD 105 undef, tmps.getD 106 undef, tmps.getD 107 undef, tmps.getD 108 undef, tmps.getD 109 undef, tmps.getD 110 undef, tmps.getD 111 undef, tmps.getD 112 undef, tmps.getD 113 undef, tmps.getD 114 undef, tmps.getD 115 undef, tmps.getD 116 undef, tmps.getD 117 undef, tmps.getD 118 undef, tmps.getD 119 undef, tmps.getD 120 undef, tmps.getD 121 undef, tmps.getD 122 undef, tmps.getD 123 undef, tmps.getD 124 undef, tmps.getD 125 undef, tmps.getD 126 undef, tmps.getD 127 undef, tmps.getD 128 undef, tmps.getD 129 undef, tmps.getD 130 undef, tmps.getD 131 undef, tmps.getD 132 undef, tmps.getD 133 undef, tmps.getD 134 undef, tmps.getD 135 undef, tmps.getD 136 undef, tmps.getD 137 undef, tmps.getD 138 undef, tmps.getD 139 undef, tmps.getD 140 undef, tmps.getD 141 undef, tmps.getD 142 undef, tmps.getD 143 undef, tmps.getD 144 undef, tmps.getD 145 undef] := rfl
  rw [e, g0, g4, g6, g35, g36, g37] at hl
  exact hl
/-- Behind the look. -/
structure AS (a : Act) (r g n cap : Nat) : Prop where
  dfr : a.defers = []
  sz : a.tmps.size = 146
  s0 : a.tmps[0]? = some (.pointer (some ⟨r, 0, none⟩))
  s4 : a.tmps[4]? = some (.slice (some ⟨g, 0, none⟩) n cap)
set_option maxRecDepth 100000 in
theorem AS.lit {a : Act} {r g n cap : Nat} (h : AS a r g n cap) : ∃ u : Nat → Value, a = ⟨#[.pointer (some ⟨r, 0, none⟩), u 1, u 2, u 3, .slice (some ⟨g, 0, none⟩) n cap, u 5, u 6, u 7, u 8, u 9, u 10, u 11, u 12, u 13, u 14, u 15, u 16, u 17, u 18, u 19, u 20, u 21, u 22, u 23, u 24, u 25, u 26, u 27, u 28, u 29, u 30, u 31, u 32, u 33, u 34, u 35, u 36, u 37, u 38, u 39, u 40, u 41, u 42, u 43, u 44, u 45, u 46, u 47, u 48, u 49, u 50, u 51, u 52, u 53, u 54, u 55, u 56, u 57, u 58, u 59, u 60, u 61, u 62, u 63, u 64, u 65, u 66, u 67, u 68, u 69, u 70, u 71, u 72, u 73, u 74, u 75, u 76, u 77, u 78, u 79, u 80, u 81, u 82, u 83, u 84, u 85, u 86, u 87, u 88, u 89, u 90, u 91, u 92, u 93, u 94, u 95, u 96, u 97, u 98, u 99, u 100, u 101, u 102, u 103, u 104, u 105, u 106, u 107, u 108, u 109, u 110, u 111, u 112, u 113, u 114, u 115, u 116, u 117, u 118, u 119, u 120, u 121, u 122, u 123, u 124, u 125, u 126, u 127, u 128, u 129, u 130, u 131, u 132, u 133, u 134, u 135, u 136, u 137, u 138, u 139, u 140, u 141, u 142, u 143, u 144, u 145], []⟩ := by
  obtain ⟨tmps, dfr⟩ := a
  refine ⟨fun i => tmps.getD i undef, ?_⟩
  have hd : dfr = [] := h.dfr
  have hl := arr_lit (show tmps.size = 146 from h.sz)
  have g0 : tmps.getD 0 undef = .pointer (some ⟨r, 0, none⟩) := getD_some h.s0
  have g4 : tmps.getD 4 undef = .slice (some ⟨g, 0, none⟩) n cap := getD_some h.s4
  subst hd
  congr 1
  have e : ((List.range 146).map fun i => tmps.getD i undef).toArray = #[tmps.getD 0 undef, tmps.getD 1 undef, tmps.getD 2 undef, tmps.getD 3 undef, tmps.getD 4 undef, tmps.getD 5 undef, tmps.getD 6 undef, tmps.getD 7 undef, tmps.getD 8 undef, tmps.getD 9 undef, tmps.getD 10 undef, tmps.getD 11 undef, tmps.getD 12 undef, tmps.getD 13 undef, tmps.getD 14 undef, tmps.getD 15 undef, tmps.getD 16 undef, tmps.getD 17 undef, tmps.getD 18 undef, tmps.getD 19 undef, tmps.getD 20 undef, tmps.getD 21 undef, tmps.getD 22 undef, tmps.getD 23 undef, tmps.getD 24 undef, tmps.getD 25 undef, tmps.getD 26 undef, tmps.getD 27 undef, tmps.getD 28 undef, tmps.getD 29 undef, tmps.getD 30 undef, tmps.getD 31 undef, tmps.getD 32 undef, tmps.getD 33 undef, tmps.getD 34 undef, tmps.getD 35 undef, tmps.getD 36 undef, tmps.getD 37 undef, tmps.getD 38 undef, tmps.getD 39 undef, tmps.getD 40 undef, tmps.getD 41 undef, tmps.getD 42 undef, tmps.getD 43 undef, tmps.getD 44 undef, tmps.getD 45 undef, tmps.getD 46 undef, tmps.getD 47 undef, tmps.getD 48 undef, tmps.getD 49 undef, tmps.getD 50 undef, tmps.getD 51 undef, tmps.getD 52 undef, tmps.getD 53 undef, tmps.getD 54 undef, tmps.getD 55 undef, tmps.getD 56 undef, tmps.getD 57 undef, tmps.getD 58 undef, tmps.getD 59 undef, tmps.getD 60 undef, tmps.getD 61 undef, tmps.getD 62 undef, tmps.getD 63 undef, tmps.getD 64 undef, tmps.getD 65 undef, tmps.getD 66 undef, tmps.getD 67 undef, tmps.getD 68 undef, tmps.getD 69 undef, tmps.getD 70 undef, tmps.getD 71 undef, tmps.getD 72 undef, tmps.getD 73 undef, tmps.getD 74 undef, tmps.getD 75 undef, tmps.getD 76 undef, tmps.getD 77 undef, tmps.getD 78 undef, tmps.getD 79 undef, tmps.getD 80 undef, tmps.getD 81 undef, tmps.getD 82 undef, tmps.getD 83 undef, tmps.getD 84 undef, tmps.getD 85 undef, tmps.getD 86 undef, tmps.getD 87 undef, tmps.getD 88 undef, tmps.getD 89 undef, tmps.getD 90 undef, tmps.getD 91 undef, tmps.getD 92 undef, tmps.getD 93 undef, tmps.getD 94 undef, tmps.getD 95 undef, tmps.getD 96 undef, tmps.getD 97 undef, tmps.getD 98 undef, tmps.getD 99 undef, tmps.getD 100 undef, tmps.getD 101 undef, tmps.getD 102 undef, tmps.getD 103 undef, tmps.getD 104 undef, tmps.getD 105 undef, tmps.getD 106 undef, tmps.getD 107 undef, tmps.getD 108 undef, tmps.getD 109 undef, tmps.getD 110 undef, tmps.getD 111 undef, tmps.getD 112 undef, tmps.getD 113 undef, tmps.getD 114 undef, tmps.getD 115 undef, tmps.getD 116 undef, tmps.getD 117 undef, tmps.getD 118 undef, tmps.getD 119 undef, tmps.getD 120 undef, tmps.getD 121 undef, tmps.getD 122 undef, tmps.getD 123 undef, tmps.getD 124 undef, tmps.getD 125 undef, tmps.getD 126 undef, tmps.getD 127 undef, tmps.getD 128 undef, tmps.getD 129 undef, tmps.getD 130 undef, tmps.getD 131 undef, tmps.getD 132 undef, tmps.getD 133 undef, tmps.getD 134 undef, tmps.getD 135 undef, tmps.getD 136 undef, tmps.getD 137 undef, tmps.getD 138 undef, tmps.getD 139 undef, tmps.getD 140 undef, tmps.getD 141 undef, tmps.getD 142 undef, tmps.getD 143 undef, tmps.getD 144 undef, tmps.getD 145 undef] := rfl
  rw [e, g0, g4] at hl
  exact hl
section
variable {w0 w : World} {B r : Nat} {ρ : Nat → Nat × Nat} {q : Mv} {k : KS} {g n cap : Nat} {zs : List Int}
theorem Own.set (h : Own w0 w B r ρ q k g n cap zs) (j : Nat) (z : Int) : Own w0 (w.setCell ⟨g, j, none⟩ (.int .i64 z)) B r ρ q k g n cap (zs.set j z) := by
  refine ⟨h.ck.other (put_cell _ _ _ _) h.mr h.blk.1, h.mr, by rw [List.length_set, h.ln], ?_⟩
  rw [List.map_set]
  exact (h.row.stored j _).1
theorem Own.frozen (h : Own w0 w B r ρ q k g n cap zs) (j : Nat) : w.frozen? ⟨g, j, none⟩ = false := h.row.frozenAt j
theorem Own.alloc (h : Own w0 w B r ρ q k g n cap zs) (o : Obj) : Own w0 (w.alloc o) B r ρ q k g n cap zs := ⟨h.ck.alloc o, h.mr, h.ln, owns_stay h.row (Below.heap_alloc w o g h.lt)⟩
theorem Own.pushWatch (h : Own w0 w B r ρ q k g n cap zs) {w1 : World} {g1 cap1 gW nW capW y at_ : Nat} {v : Value} {l : List Nat} (hc : k.ws[y]? = some l) (hl : q.wv[y]? = some v) (hv : q.vW = .slice (some ⟨gW, 0, none⟩) nW capW) (hnW : nW = k.ws.length) (ho : w1.ownsRow B 3 1 (.slice (some ⟨g1, 0, none⟩) (l.length + 1) cap1) (l.length + 1) (l.map nv ++ [.int .i64 at_])) (hg : w.grownBy w1 v.ownBlock) (hw : v.ownBlock = some g1 ∨ g1 = w.heap.size) :
    Own w0 (w1.setCell ⟨gW, y, none⟩ (.slice (some ⟨g1, 0, none⟩) (l.length + 1) cap1)) B r (upd ρ g1 (7, y)) { q with wv := q.wv.set y (.slice (some ⟨g1, 0, none⟩) (l.length + 1) cap1) } { k with ws := k.ws.set y (l ++ [at_]) } g n cap zs := by
  have hrow := h.ck.rx y v l hl hc
  have hrt := h.ck.rw_
  rw [hv] at hrt
  have hgW : ρ gW = (3, 0) := hrt.2 gW rfl
  have hne : g ≠ g1 := fun e => by
    rcases hw with hw | hw
    · have := hrow.2 g1 hw; rw [← e, h.mr] at this; cases this
    · have := h.lt; omega
  have hneW : g ≠ gW := fun e => by rw [← e, h.mr] at hgW; cases hgW
  have hnv : some g ≠ v.ownBlock := fun e => by have := hrow.2 g e.symm; rw [h.mr] at this; cases this
  exact ⟨h.ck.pushWatch hc hl hv hnW ho hg hw, (upd_other hne).trans h.mr, h.ln, owns_stay h.row ((Below.heap_setCell w1 _ _ g hneW).trans (hg.block g h.lt hnv))⟩
end
end Go.Proofs.Ytmkkhpoedlbafaa

/- Package rup: add: a round of its look. -/
namespace Go.Proofs.Ytmkkhpoedlbafaa
open Go Go.RowKit Go.Sort
/-- In the midst of the look. -/
def AI (w0 : World) (B r : Nat) (ρ : Nat → Nat × Nat) (q : Mv) (k : KS) (g n cap : Nat) (ys : List Nat) (a : Act) (w : World) : Prop :=
  ∃ (i o : Nat) (zs : List Nat), AG a r g n cap o i ∧ i ≤ n ∧ Own w0 w B r ρ q k g n cap (zs.map (fun y : Nat => (y : Int))) ∧ Sift k.trail ys zs i o
set_option maxRecDepth 100000 in
set_option maxHeartbeats 16000000 in
theorem look_round {Q : Exit → Act → World → Prop} {a : Act} {w0 w : World} {B r : Nat} {ρ : Nat → Nat × Nat} {q : Mv} {k : KS} {g n cap : Nat} {ys : List Nat} (hI : AI w0 B r ρ q k g n cap ys a w) (hlt : ∀ y ∈ ys, y < 2 * k.pl.length) (hP : k.pl.length ≤ 1000000000) (hcon : ∀ y ∈ k.trail, op y ∉ k.trail) (hn : n ≤ 1000000000)
    (hx : ∀ a' w' (o : Nat) (zs : List Nat), AA a' r g n cap o → Own w0 w' B r ρ q k g n cap (zs.map (fun y : Nat => (y : Int))) → Sift k.trail ys zs n o → Q (.exit 0) a' w') :
    Code.wp Try.prog (aLoop Try.f22) (Exit.then (fun a' w' => AI w0 B r ρ q k g n cap ys a' w' ∧ n - (intOf (a'.tmps.getD 37 undef)).toNat < n - (intOf (a.tmps.getD 37 undef)).toNat) Q) a w := by
  obtain ⟨i, o, zs, hs, hi, hO, hS⟩ := hI
  obtain ⟨u, rfl⟩ := hs.lit
  clear hs
  by_cases hin : i < n
  · have hzl : zs.length = n := by have := hO.ln; rwa [List.length_map] at this
    obtain ⟨x, hx1⟩ : ∃ x, zs[i]? = some x := ⟨zs[i]'(by omega), List.getElem?_eq_getElem _⟩
    have c1 := hO.cell (j := i) (z := (x : Int)) (by rw [List.getElem?_map, hx1]; rfl)
    have hxl := hlt x (hS.pm.mem_iff.1 (List.mem_of_getElem? hx1))
    have i1 : (0 : Int) ≤ (i : Int) := by omega
    have i2 : (i : Int) < (n : Int) := by omega
    have i3 : (n : Int) ≤ 1000000000 := by omega
    have HIN := hide hin
    have hend : ∀ (a' : Act) (w' : World) (o' : Nat) (zs' : List Nat), AG a' r g n cap o' ((i + 1 : Nat) : Int) → Own w0 w' B r ρ q k g n cap (zs'.map (fun y : Nat => (y : Int))) → Sift k.trail ys zs' (i + 1) o' → AI w0 B r ρ q k g n cap ys a' w' := fun a' w' o' zs' h1 h2 h3 => ⟨i + 1, o', zs', h1, by omega, h2, h3⟩
    by_cases ho : o < 2
    · have hrt := hO.ck.rt
      obtain ⟨gT, capT, hvT, _, _, _, _, _⟩ := hrt.open (by rw [trs_length]; omega)
      have d3 := hO.ck.cells.2.2.2.1
      rw [hvT, trs_length] at d3
      rw [hvT] at hrt
      have tx := (hrt.cell (j := x) (u := .int .i8 (tv k.trail x)) (by rw [List.getElem?_map, trs_get hxl]; rfl)).1
      obtain ⟨NT, hNT⟩ : ∃ NT, 2 * k.pl.length = NT := ⟨_, rfl⟩
      rw [hNT] at d3 hxl
      have x1 : (0 : Int) ≤ (x : Int) := by omega
      have x2 : (x : Int) < (NT : Int) := by omega
      have o1 : (o : Int) < 2 := by omega
      have o0 : (0 : Int) ≤ (o : Int) := by omega
      by_cases hf : op x ∈ k.trail
      · have ht : (tv k.trail x != -1) = false := by
          have := (tv_mns hcon (y := x)).2 hf
          simp [this]
        have HE := hide (fun (a' : Act) (h1 : AG a' r g n cap o ((i + 1 : Nat) : Int)) => hend a' w o zs h1 hO (hS.pass hx1 fun _ => hf))
        clear hend hrt hvT hNT hO hS hx hx1 hxl hzl hlt hP hcon hn hi hin hf ho
        conv => arg 2; whnf
        go_wp2
        refine ⟨unhide HE _ ⟨rfl, rfl, rfl, rfl, rfl, rfl, rfl, by simp⟩, ?_⟩
        have := unhide HIN
        simp [intOf]
        omega
      · have ht : (tv k.trail x != -1) = true := by
          have : ¬ tv k.trail x = -1 := fun e => hf ((tv_mns hcon).1 e)
          simpa using this
        have oi := hS.oi
        obtain ⟨y, hy1⟩ : ∃ y, zs[o]? = some y := ⟨zs[o]'(by omega), List.getElem?_eq_getElem _⟩
        have c2 := hO.cell (j := o) (z := (y : Int)) (by rw [List.getElem?_map, hy1]; rfl)
        have f1 := hO.frozen i
        have f2 := hO.frozen o
        have o2 : (o : Int) < (n : Int) := by omega
        have HE := hide (fun (a' : Act) (h1 : AG a' r g n cap ((o + 1 : Nat) : Int) ((i + 1 : Nat) : Int)) => hend a' _ (o + 1) ((zs.set o x).set i y) h1 (by
          have := (hO.set o (x : Int)).set i (y : Int)
          rw [List.map_set, List.map_set]
          exact this) (hS.take hx1 ho hy1 hf))
        have HIO := hide oi
        by_cases e : o = i
        · subst e
          have exy : y = x := by rw [hx1] at hy1; cases hy1; rfl
          subst exy
          clear c2 f2 hend hrt hvT hNT hO hS hx hx1 hy1 hxl hzl hlt hP hcon hn hi hin hf ho oi
          conv => arg 2; whnf
          go_wp2
          refine ⟨unhide HE _ ⟨rfl, rfl, rfl, rfl, by simp, rfl, rfl, by simp⟩, ?_⟩
          have := unhide HIN
          simp [intOf]
          omega
        · have e' := Ne.symm e
          clear hend hrt hvT hNT hO hS hx hx1 hy1 hxl hzl hlt hP hcon hn hi hin hf ho oi
          conv => arg 2; whnf
          go_wp2
          refine ⟨unhide HE _ ⟨rfl, rfl, rfl, rfl, by simp, rfl, rfl, by simp⟩, ?_⟩
          have := unhide HIN
          simp [intOf]
          omega
    · have ho2 : decide ((o : Int) < 2) = false := by simp; omega
      have ho3 : (2 : Int) ≤ (o : Int) := by omega
      have HE := hide (fun (a' : Act) (h1 : AG a' r g n cap o ((i + 1 : Nat) : Int)) => hend a' w o zs h1 hO (hS.pass hx1 fun h => absurd h ho))
      clear hend hO hS hx hx1 hxl hzl hlt hP hcon hn hi hin ho
      conv => arg 2; whnf
      go_wp2
      refine ⟨unhide HE _ ⟨rfl, rfl, rfl, rfl, rfl, rfl, rfl, by simp⟩, ?_⟩
      have := unhide HIN
      simp [intOf]
      omega
  · have hf : decide ((i : Int) < (n : Int)) = false := by simp; omega
    have hle : (n : Int) ≤ (i : Int) := by omega
    have hjm : i = n := by omega
    subst hjm
    have HX := hide (fun (a' : Act) (h1 : AA a' r g i cap o) => hx a' w o zs h1 hO hS)
    clear hx hO hS hlt hP hcon hn hi hin
    conv => arg 2; whnf
    go_wp2
    exact unhide HX _ ⟨rfl, rfl, rfl, rfl, rfl⟩
end Go.Proofs.Ytmkkhpoedlbafaa

namespace Go.Proofs.Ytmkkhpoedlbafaa
open Go Go.RowKit Go.Sort
/-- What add leaves of a checker k that knows the literals. -/
def AE (w0 : World) (B r : Nat) (L : List (List Int)) (xs : List Int) (k : KS) (w' : World) : Prop := ∃ k' ρ' q', Ck w0 w' B r ρ' q' k' (trs (2 * k'.pl.length) k'.trail) ∧ Rq (L ++ [xs]) k' ∧ Bs k' ∧ k'.empty = k.empty ∧ k'.pl = k.pl ∧ k'.cs.length ≤ k.cs.length + 1
set_option maxRecDepth 100000 in
set_option maxHeartbeats 16000000 in
theorem none_any {Q : Exit → Act → World → Prop} {a : Act} {w0 w : World} {B r g n cap : Nat} {ρ : Nat → Nat × Nat} {q : Mv} {k : KS} {L : List (List Int)} {xs : List Int} {ys : List Nat} (hs : AS a r g n cap) (hck : Ck w0 w B r ρ q k (trs (2 * k.pl.length) k.trail)) (hB : Bs k) (hR : Rq L k) (hr : k.refuted = false) (hw : Whole xs) (ht : Tidy k.pl xs ys) (hf : ∀ y ∈ ys, op y ∈ k.trail)
    (hq : ∀ a' w', a'.defers = [] → AE w0 B r L xs k w' → Q .normal a' w') : Code.wp Try.prog (aNone Try.f22) Q a w := by
  obtain ⟨u, rfl⟩ := hs.lit
  clear hs
  have d7 := hck.cells.2.2.2.2.2.2.2.1
  have f7 := hck.cells.2.2.2.2.2.2.2.2 7
  have HQ := hide (fun (a' : Act) (h1 : a'.defers = []) => hq a' _ h1 ⟨_, ρ, q, hck.setRefuted true, add_none hR hr hw ht hf, ⟨hB.wl, hB.tlt, hB.ppl⟩, rfl, rfl, Nat.le_succ _⟩)
  clear hq hck hB hR hr hw ht hf
  conv => arg 2; whnf
  go_wp2
  exact unhide HQ _ rfl
set_option maxRecDepth 100000 in
set_option maxHeartbeats 16000000 in
theorem one_any {Q : Exit → Act → World → Prop} {a : Act} {w0 w : World} {B r g n cap : Nat} {ρ : Nat → Nat × Nat} {q : Mv} {k : KS} {L : List (List Int)} {xs : List Int} {ys : List Nat} {z : Nat} {t : List Nat} (hs : AS a r g n cap) (hO : Own w0 w B r ρ q k g n cap ((z :: t).map (fun y : Nat => (y : Int)))) (hR : Rq L k) (hr : k.refuted = false) (hw : Whole xs) (ht : Tidy k.pl xs ys) (hp : (z :: t).Perm ys) (hz : op z ∉ k.trail) (hf : ∀ y ∈ t, op y ∈ k.trail) (hP : k.pl.length ≤ 1000000000) (hcs : k.cs.length ≤ 1000000000)
    (hq : ∀ a' w', a'.defers = [] → AE w0 B r L xs k w' → Q .normal a' w') : Code.wp Try.prog (aOne Try.f22) Q a w := by
  obtain ⟨u, rfl⟩ := hs.lit
  clear hs
  obtain ⟨s0, _, _⟩ := hR.no hr
  have hzl := ht.lt z (hp.mem_iff.1 (.head _))
  have HSet := hide (set_any w0 w B r ρ q k z hO.ck hzl hP s0.len)
  obtain ⟨k2, hk2⟩ : ∃ k2 : KS, k2 = if tv k.trail z = 0 then { k with trail := k.trail ++ [z] } else k := ⟨_, rfl⟩
  obtain ⟨t1, t2, t3, t4, t5, t6, t7, t8, t9, t10⟩ := add_one hR hr hw ht hp hz hf k2 hk2
  have HCk : Hid (∀ w2 ρ2 v2, Ck w0 w2 B r ρ2 { q with vL := v2 } (if tv k.trail z = 0 then { k with trail := k.trail ++ [z] } else k) (trs (2 * k.pl.length) (if tv k.trail z = 0 then k.trail ++ [z] else k.trail)) → Ck w0 w2 B r ρ2 { q with vL := v2 } k2 (trs (2 * k2.pl.length) k2.trail)) := fun w2 ρ2 v2 h => by
    rw [hk2]
    by_cases e : tv k.trail z = 0
    · rw [if_pos e, if_pos e] at h; rw [if_pos e]; exact h
    · rw [if_neg e, if_neg e] at h; rw [if_neg e]; exact h
  have HProp : Hid (∀ w2 ρ2 q2, Ck w0 w2 B r ρ2 q2 k2 (trs (2 * k2.pl.length) k2.trail) → Calls Try.prog 25 #[.pointer (some ⟨r, 0, none⟩)] w2 fun e w3 => ∃ b3 k3 ρ3 q3, e = .returned (.bool b3) ∧ Ck w0 w3 B r ρ3 q3 k3 (trs (2 * k3.pl.length) k3.trail) ∧ AE w0 B r L xs k (w3.setCell ⟨r, 7, none⟩ (.bool (!b3)))) := fun w2 ρ2 q2 h => by
    refine (propagate_any w0 w2 B r ρ2 q2 k2 (L ++ [xs]) L no0 k.trail.length ⟨h, Lp.refl k2, t1, t2, t3, t4⟩ (by rw [t7]; exact hP) (by rw [t8]; exact hcs)).mono ?_
    rintro e w3 ⟨b, k3, ρ3, q3, rfl, c3, l3, s3, h4, h5⟩
    refine ⟨b, k3, ρ3, q3, rfl, c3, _, ρ3, q3, c3.setRefuted (!b), add_one_end l3 t5 (by rw [t7]; exact t6) s3 h4 h5, ⟨s3.wl, s3.tlt, s3.ppl⟩, l3.em.trans t9, l3.pl.trans t7, ?_⟩
    show k3.cs.length ≤ _
    rw [l3.cs, t8]
    exact Nat.le_succ _
  have c0 := hO.cell (j := 0) (z := (z : Int)) rfl
  have n1 : (0 : Int) < (n : Int) := by
    have := hO.ln
    simp at this
    omega
  have HQ := hide hq
  clear hq hO hR hr hw ht hp hz hf hP hcs s0 hzl hk2 t1 t2 t3 t4 t5 t6 t7 t8 t9 t10
  conv => arg 2; whnf
  go_wp2_with (first
    | (go_at_call 28; refine (unhide HSet).mono ?_; intro e w2 h2; obtain ⟨rfl, ρ2, v2, h2⟩ := h2; have H2 := hide (unhide HCk _ _ _ h2); clear h2)
    | (go_at_call 25; refine (unhide HProp _ _ _ (unhide H2)).mono ?_; intro e w3 h3; obtain ⟨b3, k3, ρ3, q3, rfl, c3, h3⟩ := h3; have d7 := c3.cells.2.2.2.2.2.2.2.1; have f7 := c3.cells.2.2.2.2.2.2.2.2 7; have H3 := hide h3; clear h3 c3))
  exact unhide HQ _ _ rfl (unhide H3)
end Go.Proofs.Ytmkkhpoedlbafaa
