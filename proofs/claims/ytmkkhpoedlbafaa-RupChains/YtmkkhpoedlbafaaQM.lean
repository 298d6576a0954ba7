/- Package rup: literals, whole. -/
import Derived.Test.YtmkkhpoedlbafaaQC
import Derived.Lib.SlicesCompact
import Derived.Test.YtmkkhpoedlbafaaQL
import Derived.Test.YtmkkhpoedlbafaaSh
import Derived.Sort.OwnSortedInts
set_option linter.unusedVariables false
set_option linter.unusedSimpArgs false

/- Sorted lists without twice: what slices.Sort and slices.Compact make of a list of literals. -/
namespace Go.Proofs.Ytmkkhpoedlbafaa
open Go Go.Lib
theorem cu_mem (d : Array Int) : ∀ (m : Nat) (x : Int), x ∈ compactUpTo d m ↔ ∃ j, j < m ∧ d[j]! = x
  | 0, x => by simp [compactUpTo]
  | m + 1, x => by
    rw [compactUpTo_succ, List.mem_append, cu_mem d m x]
    constructor
    · rintro (⟨j, h1, h2⟩ | h)
      · exact ⟨j, by omega, h2⟩
      · by_cases hk : keeps d m = true
        · rw [if_pos hk] at h
          simp only [List.mem_singleton] at h
          exact ⟨m, by omega, h.symm⟩
        · rw [if_neg hk] at h; cases h
    · rintro ⟨j, h1, h2⟩
      by_cases hj : j < m
      · exact .inl ⟨j, hj, h2⟩
      · have e : j = m := by omega
        subst e
        by_cases hk : keeps d j = true
        · rw [if_pos hk]; exact .inr (by simp [h2])
        · refine .inl ⟨j - 1, ?_, ?_⟩
          · rcases Nat.eq_zero_or_pos j with h0 | h0
            · subst h0; exact absurd (by simp [keeps]) hk
            · omega
          · by_cases e : d[j]! = d[j - 1]!
            · rw [← e]; exact h2
            · exact absurd (keeps_pos e) hk
theorem cu_lt (d : Array Int) (hs : ∀ i j, i ≤ j → j < d.size → d[i]! ≤ d[j]!) : ∀ (m : Nat), m ≤ d.size → (compactUpTo d m).Pairwise (· < ·)
  | 0, _ => by simp [compactUpTo]
  | m + 1, hm => by
    rw [compactUpTo_succ, List.pairwise_append]
    refine ⟨cu_lt d hs m (by omega), by split <;> simp, fun x hx y hy => ?_⟩
    by_cases hk : keeps d m = true
    · rw [if_pos hk] at hy
      simp only [List.mem_singleton] at hy
      subst hy
      obtain ⟨j, h1, rfl⟩ := (cu_mem d m x).1 hx
      have hne : d[m]! ≠ d[m - 1]! := fun e => by rw [keeps_neg (by omega) e] at hk; cases hk
      have a := hs j (m - 1) (by omega) (by omega)
      have b := hs (m - 1) m (by omega) (by omega)
      omega
    · rw [if_neg hk] at hy; cases hy
/-- A list of numbers, sorted, each once. -/
theorem tidy (zs : List Int) : (∀ x, x ∈ compact (zs.mergeSort fun x y => decide (x ≤ y)) ↔ x ∈ zs) ∧ (compact (zs.mergeSort fun x y => decide (x ≤ y))).Pairwise (· < ·) := by
  have hp : (zs.mergeSort fun x y => decide (x ≤ y)).Pairwise (fun a b => decide (a ≤ b) = true) := List.pairwise_mergeSort (fun a b c h1 h2 => by simp at *; omega) (fun a b => by simp; omega) zs
  have hm : ∀ x, x ∈ (zs.mergeSort fun x y => decide (x ≤ y)) ↔ x ∈ zs := fun x => (List.mergeSort_perm zs _).mem_iff
  generalize (zs.mergeSort fun x y => decide (x ≤ y)) = ts at hp hm
  refine ⟨fun x => ?_, ?_⟩
  · rw [← hm]
    unfold compact
    rw [cu_mem, List.mem_iff_getElem]
    constructor
    · rintro ⟨j, h1, h2⟩
      refine ⟨j, h1, ?_⟩
      rw [getElem!_pos _ j (by simpa using h1)] at h2
      simpa using h2
    · rintro ⟨j, h1, h2⟩
      refine ⟨j, h1, ?_⟩
      rw [getElem!_pos _ j (by simpa using h1)]
      simpa using h2
  · refine cu_lt _ (fun i j hij hj => ?_) _ (by simp)
    have hj' : j < ts.length := by simpa using hj
    rw [getElem!_pos _ i (by simp; omega), getElem!_pos _ j hj]
    rcases Nat.eq_or_lt_of_le hij with e | h
    · subst e; exact Int.le_refl _
    · have := List.pairwise_iff_getElem.1 hp i j (by omega) hj' h
      simpa using this
/-- The literals of a clause, as the checker keeps them: rising. -/
structure Tidy (pl : List Int) (xs : List Int) (ys : List Nat) : Prop where
  up : ys.Pairwise (· < ·)
  lt : ∀ y ∈ ys, y < 2 * pl.length
  mem : ∀ x, x ∈ xs ↔ ∃ y ∈ ys, num pl y = x
theorem Tidy.nd {pl xs : List Int} {ys : List Nat} (h : Tidy pl xs ys) : ys.Nodup := h.up.imp fun h => Nat.ne_of_lt h
theorem cast_back {cs : List Int} (h : ∀ x ∈ cs, 0 ≤ x) : (cs.map Int.toNat).map (fun y : Nat => (y : Int)) = cs := by
  rw [List.map_map]
  conv => rhs; rw [← List.map_id cs]
  apply List.map_congr_left
  intro x hx
  have := h x hx
  simp; omega
theorem Tidy.of {pl xs : List Int} {zs : List Nat} (hn : zs.map (num pl) = xs) (hl : ∀ y ∈ zs, y < 2 * pl.length) : ∃ ys : List Nat, Tidy pl xs ys ∧ compact ((zs.map (fun y : Nat => (y : Int))).mergeSort fun x y => decide (x ≤ y)) = ys.map (fun y : Nat => (y : Int)) := by
  obtain ⟨h1, h2⟩ := tidy (zs.map (fun y : Nat => (y : Int)))
  generalize compact ((zs.map (fun y : Nat => (y : Int))).mergeSort fun x y => decide (x ≤ y)) = cs at h1 h2
  have h0 : ∀ x ∈ cs, 0 ≤ x := fun x hx => by
    obtain ⟨y, _, rfl⟩ := List.mem_map.1 ((h1 x).1 hx)
    omega
  have hm : ∀ y : Nat, y ∈ cs.map Int.toNat ↔ y ∈ zs := fun y => by
    constructor
    · intro h
      obtain ⟨x, hx, rfl⟩ := List.mem_map.1 h
      obtain ⟨z, hz, rfl⟩ := List.mem_map.1 ((h1 x).1 hx)
      simpa using hz
    · intro h
      exact List.mem_map.2 ⟨(y : Int), (h1 _).2 (List.mem_map.2 ⟨y, h, rfl⟩), by simp⟩
  refine ⟨cs.map Int.toNat, ⟨?_, fun y hy => hl y ((hm y).1 hy), fun x => ?_⟩, (cast_back h0).symm⟩
  · rw [List.pairwise_map]
    refine h2.imp_of_mem fun {a b} ha hb h => ?_
    have := h0 a ha
    have := h0 b hb
    omega
  · rw [← hn, List.mem_map]
    constructor
    · rintro ⟨y, hy, e⟩; exact ⟨y, (hm y).2 hy, e⟩
    · rintro ⟨y, hy, e⟩; exact ⟨y, (hm y).1 hy, e⟩
/-- Rising, and no two side by side are opposites: none are. -/
theorem no_pair {ys : List Nat} (hu : ys.Pairwise (· < ·)) (hp : ∀ (j a b : Nat), ys[j]? = some a → ys[j + 1]? = some b → b ≠ op a) : ∀ y ∈ ys, op y ∉ ys := by
  have key : ∀ y, y % 2 = 0 → y ∈ ys → y + 1 ∈ ys → False := fun y h0 h1 h2 => by
    obtain ⟨i, hi, e1⟩ := List.mem_iff_getElem.1 h1
    obtain ⟨j, hj, e2⟩ := List.mem_iff_getElem.1 h2
    have mono := List.pairwise_iff_getElem.1 hu
    have hij : i < j := by
      rcases Nat.lt_trichotomy i j with h | h | h
      · exact h
      · subst h; omega
      · have := mono j i hj hi h; omega
    have hj1 : j = i + 1 := by
      rcases Nat.eq_or_lt_of_le (show i + 1 ≤ j by omega) with h | h
      · exact h.symm
      · have a := mono i (i + 1) hi (by omega) (by omega)
        have b := mono (i + 1) j (by omega) hj h
        omega
    subst hj1
    refine hp i y (y + 1) (by rw [List.getElem?_eq_getElem hi, e1]) (by rw [List.getElem?_eq_getElem hj, e2]) ?_
    unfold op; rw [if_pos h0]
  intro y hy h
  unfold op at h
  by_cases h0 : y % 2 = 0
  · rw [if_pos h0] at h; exact key y h0 hy h
  · rw [if_neg h0] at h
    exact key (y - 1) (by omega) h (by rw [show y - 1 + 1 = y by omega]; exact hy)
end Go.Proofs.Ytmkkhpoedlbafaa

/- Package rup: literals: its slice, sorted, each once. -/
namespace Go.Proofs.Ytmkkhpoedlbafaa
open Go Go.RowKit Go.Sort
section
variable {w0 w : World} {B r : Nat} {ρ : Nat → Nat × Nat} {q : Mv} {k : KS} {tr : List Int}
/-- Memory that grows, one block of the mark (9, 9) changed. -/
theorem Ck.nine {w1 : World} {g : Nat} (h : Ck w0 w B r ρ q k tr) (hg : w.grownBy w1 (some g)) (hρ : ρ g = (9, 9)) (hB : B ≤ g) : Ck w0 w1 B r ρ q k tr := by
  have hs : ∀ g', g' < w.heap.size → ¬ (ρ g' = (9, 9)) → w1.heap[g']? = w.heap[g']? ∧ ρ g' = ρ g' := fun g' h1 h2 => ⟨hg.block g' h1 (fun e => h2 (by cases e; exact hρ)), rfl⟩
  have c := @Rw.carry w w1 B ρ ρ (fun x => x = (9, 9)) hs
  have hr := hs r h.lt (by rw [h.rr]; simp)
  have hm := hs q.m h.mp.lt (by rw [h.mr]; simp)
  exact ⟨hr.1.trans h.blk, h.rB, h.rr, h.mp.step hm.1, h.mB, h.mr, c h.rc (by simp), h.ll, fun i v d h1 h2 => c (h.rl i v d h1 h2) (by simp), c h.rw_ (by simp), fun x v l h1 h2 => c (h.rx x v l h1 h2) (by simp), c h.rt (by simp), c h.rT (by simp), h.bl.grown hg h.size (fun b e => by cases e; exact hB)⟩
end
/-- A slice of ints of one's own, in a block that bears the mark (9, 9), beside the checker. -/
structure Own (w0 w : World) (B r : Nat) (ρ : Nat → Nat × Nat) (q : Mv) (k : KS) (g n cap : Nat) (zs : List Int) : Prop where
  ck : Ck w0 w B r ρ q k (trs (2 * k.pl.length) k.trail)
  mr : ρ g = (9, 9)
  ln : zs.length = n
  row : w.ownsRow B 3 1 (.slice (some ⟨g, 0, none⟩) n cap) n (zs.map (Value.int .i64))
section
variable {w0 w : World} {B r : Nat} {ρ : Nat → Nat × Nat} {q : Mv} {k : KS} {g n cap : Nat} {zs : List Int}
theorem Own.blk (h : Own w0 w B r ρ q k g n cap zs) : B ≤ g ∧ ∃ cur, w.heap[g]? = some (.cells cur 3 (0, 0)) ∧ n ≤ cap ∧ cap ≤ maxLen ∧ cur.size = cap * 1 ∧ cur.toList.take n = zs.map (Value.int .i64) := by
  obtain ⟨_, h1⟩ := h.row
  rcases h1 with ⟨h', _⟩ | ⟨g', cap', cur, h', hb, hg, h5, h6, h7, h8⟩
  · simp at h'
  · simp only [Value.slice.injEq, Option.some.injEq, Addr.mk.injEq, and_true, true_and] at h'
    obtain ⟨rfl, rfl⟩ := h'
    rw [Nat.mul_one] at h8
    exact ⟨hb, cur, hg, h5, h6, h7, h8⟩
theorem Own.holds (h : Own w0 w B r ρ q k g n cap zs) : Holds (Value.int .i64) w g 0 zs.toArray := by
  obtain ⟨_, cur, hg, _, _, _, ht⟩ := h.blk
  exact holds_of_blockI hg (by rw [h.ln]; exact ht)
theorem Own.lt (h : Own w0 w B r ρ q k g n cap zs) : g < w.heap.size := by
  obtain ⟨_, cur, hg, _⟩ := h.blk
  exact lt_of_heap hg
theorem Own.room (h : Own w0 w B r ρ q k g n cap zs) : n ≤ cap ∧ cap ≤ 9223372036854775807 := by
  obtain ⟨_, cur, hg, h1, h2, _⟩ := h.blk
  unfold maxLen at h2
  exact ⟨h1, by omega⟩
theorem Own.put (h : Own w0 w B r ρ q k g n cap zs) {ts : List Int} (hl : ts.length = n) (m : Nat) (os : Array Obj) : Own w0 (grow (putRow (Value.int .i64) (Sort.ahead w m) g 0 ts.toArray) os) B r ρ q k g n cap ts := by
  obtain ⟨hB, cur, hg, h1, h2, h3, h4⟩ := h.blk
  refine ⟨h.ck.nine (grownBy_sortedI ts.toArray) h.mr hB, h.mr, hl, ?_⟩
  have := ownsRow_sortedI (w := w) (base := B) (g := g) (cap := cap) (n := m) (e := 3) (os := os) (cur := cur) (ss := zs) (ts := ts) (by rw [hl, h.ln]) hB hg (by rw [h.ln]; exact h1) h2 h3
  rw [h.ln] at this
  exact this
theorem Own.cut (h : Own w0 w B r ρ q k g n cap zs) {m : Nat} (hm : m ≤ n) : Own w0 w B r ρ q k g m cap (zs.take m) := by
  have h1 : Rw w B ρ (9, 9) 3 1 (.slice (some ⟨g, 0, none⟩) n cap) n (zs.map (Value.int .i64)) := ⟨h.row, fun g' e => by cases e; exact h.mr⟩
  have h2 := (h1.cut hm).1
  rw [Nat.mul_one, ← List.map_take] at h2
  exact ⟨h.ck, h.mr, by rw [List.length_take, h.ln]; omega, h2⟩
theorem Own.cell (h : Own w0 w B r ρ q k g n cap zs) {j : Nat} {z : Int} (hj : zs[j]? = some z) : w.cell? ⟨g, j, none⟩ = some (.int .i64 z) := by
  have hl := (List.getElem?_eq_some_iff.1 hj).1
  rw [h.ln] at hl
  rw [h.row.cellAt j (by omega), List.getElem?_map, hj]
  rfl
theorem Own.ints {ys : List Nat} : ys.map nv = (ys.map (fun y : Nat => (y : Int))).map (Value.int .i64) := by rw [List.map_map]; rfl
end
def lPair (f : Func) : Code := cR (cR (lTail f))
def lLoop (f : Func) : Code := cB (cB (cR (cL (lPair f))))
/-- What literals answers. -/
def LitsPost (w0 : World) (B r : Nat) (k : KS) (xs : List Int) (e : Ending) (w' : World) : Prop := ∃ k' ρ' q', Gr k k' xs.length ∧
  ((e = .returned (.tuple #[.slice none 0 0, .bool false]) ∧ Ck w0 w' B r ρ' q' k' (trs (2 * k'.pl.length) k'.trail) ∧ ∃ x ∈ xs, -x ∈ xs) ∨
   ∃ g cap ys, e = .returned (.tuple #[.slice (some ⟨g, 0, none⟩) ys.length cap, .bool true]) ∧ Own w0 w' B r ρ' q' k' g ys.length cap (ys.map (fun y : Nat => (y : Int))) ∧ Tidy k'.pl xs ys ∧ ∀ y ∈ ys, op y ∉ ys)
/-- Behind the first loop. -/
structure LA (a : Act) (vO : Value) : Prop where
  dfr : a.defers = []
  sz : a.tmps.size = 49
  s6 : a.tmps[6]? = some (vO)
set_option maxRecDepth 100000 in
theorem LA.lit {a : Act} {vO : Value} (h : LA a vO) : ∃ u : Nat → Value, a = ⟨#[u 0, u 1, u 2, u 3, u 4, u 5, vO, u 7, u 8, u 9, u 10, u 11, u 12, u 13, u 14, u 15, u 16, u 17, u 18, u 19, u 20, u 21, u 22, u 23, u 24, u 25, u 26, u 27, u 28, u 29, u 30, u 31, u 32, u 33, u 34, u 35, u 36, u 37, u 38, u 39, u 40, u 41, u 42, u 43, u 44, u 45, u 46, u 47, u 48], []⟩ := by
  obtain ⟨tmps, dfr⟩ := a
  refine ⟨fun i => tmps.getD i undef, ?_⟩
  have hd : dfr = [] := h.dfr
  have hl := arr_lit (show tmps.size = 49 from h.sz)
  have g6 : tmps.getD 6 undef = vO := getD_some h.s6
  subst hd
  congr 1
  have e : ((List.range 49).map fun i => tmps.getD i undef).toArray = #[tmps.getD 0 undef, tmps.getD 1 undef, tmps.getD 2 undef, tmps.getD 3 undef, tmps.getD 4 undef, tmps.getD 5 undef, tmps.getD 6 undef, tmps.getD 7 undef, tmps.getD 8 undef, tmps.getD 9 undef, tmps.getD 10 undef, tmps.getD 11 undef, tmps.getD 12 undef, tmps.getD 13 undef, tmps.getD 14 undef, tmps.getD 15 undef, tmps.getD 16 undef, tmps.getD 17 undef, tmps.getD 18 undef, tmps.getD 19 undef, tmps.getD 20 undef, tmps.getD 21 undef, tmps.getD 22 undef, tmps.getD 23 undef, tmps.getD 24 undef, tmps.getD 25 undef, tmps.getD 26 undef, tmps.getD 27 undef, tmps.getD 28 undef, tmps.getD 29 undef, tmps.getD 30 undef, tmps.getD 31 undef, tmps.getD 32 undef, tmps.getD 33 undef, tmps.getD 34 undef, tmps.getD 35 undef, tmps.getD 36 undef, tmps.getD 37 undef, tmps.getD 38 undef, tmps.getD 39 undef, tmps.getD 40 undef, tmps.getD 41 undef, tmps.getD 42 undef, tmps.getD 43 undef, tmps.getD 44 undef, tmps.getD 45 undef, tmps.getD 46 undef, tmps.getD 47 undef, tmps.getD 48 undef] := rfl
  rw [e, g6] at hl
  exact hl
/-- In the last loop. -/
structure LB (a : Act) (vO : Value) (iv : Int) : Prop where
  dfr : a.defers = []
  sz : a.tmps.size = 49
  s6 : a.tmps[6]? = some (vO)
  s9 : a.tmps[9]? = some (.int .i64 iv)
set_option maxRecDepth 100000 in
theorem LB.lit {a : Act} {vO : Value} {iv : Int} (h : LB a vO iv) : ∃ u : Nat → Value, a = ⟨#[u 0, u 1, u 2, u 3, u 4, u 5, vO, u 7, u 8, .int .i64 iv, u 10, u 11, u 12, u 13, u 14, u 15, u 16, u 17, u 18, u 19, u 20, u 21, u 22, u 23, u 24, u 25, u 26, u 27, u 28, u 29, u 30, u 31, u 32, u 33, u 34, u 35, u 36, u 37, u 38, u 39, u 40, u 41, u 42, u 43, u 44, u 45, u 46, u 47, u 48], []⟩ := by
  obtain ⟨tmps, dfr⟩ := a
  refine ⟨fun i => tmps.getD i undef, ?_⟩
  have hd : dfr = [] := h.dfr
  have hl := arr_lit (show tmps.size = 49 from h.sz)
  have g6 : tmps.getD 6 undef = vO := getD_some h.s6
  have g9 : tmps.getD 9 undef = .int .i64 iv := getD_some h.s9
  subst hd
  congr 1
  have e : ((List.range 49).map fun i => tmps.getD i undef).toArray = #[tmps.getD 0 undef, tmps.getD 1 undef, tmps.getD 2 undef, tmps.getD 3 undef, tmps.getD 4 undef, tmps.getD 5 undef, tmps.getD 6 undef, tmps.getD 7 undef, tmps.getD 8 undef, tmps.getD 9 undef, tmps.getD 10 undef, tmps.getD 11 undef, tmps.getD 12 undef, tmps.getD 13 undef, tmps.getD 14 undef, tmps.getD 15 undef, tmps.getD 16 undef, tmps.getD 17 undef, tmps.getD 18 undef, tmps.getD 19 undef, tmps.getD 20 undef, tmps.getD 21 undef, tmps.getD 22 undef, tmps.getD 23 undef, tmps.getD 24 undef, tmps.getD 25 undef, tmps.getD 26 undef, tmps.getD 27 undef, tmps.getD 28 undef, tmps.getD 29 undef, tmps.getD 30 undef, tmps.getD 31 undef, tmps.getD 32 undef, tmps.getD 33 undef, tmps.getD 34 undef, tmps.getD 35 undef, tmps.getD 36 undef, tmps.getD 37 undef, tmps.getD 38 undef, tmps.getD 39 undef, tmps.getD 40 undef, tmps.getD 41 undef, tmps.getD 42 undef, tmps.getD 43 undef, tmps.getD 44 undef, tmps.getD 45 undef, tmps.getD 46 undef, tmps.getD 47 undef, tmps.getD 48 undef] := rfl
  rw [e, g6, g9] at hl
  exact hl
end Go.Proofs.Ytmkkhpoedlbafaa

/- Package rup: literals stands whole. -/
namespace Go.Proofs.Ytmkkhpoedlbafaa
open Go Go.RowKit Go.Sort
section
variable {w0 w : World} {B r : Nat} {ρ : Nat → Nat × Nat} {q : Mv} {k : KS} {g n cap : Nat} {zs : List Int}
theorem Own.drew (h : Own w0 w B r ρ q k g n cap zs) : Own w0 w.drew B r ρ q k g n cap zs := ⟨h.ck.drew, h.mr, h.ln, owns_stay h.row rfl⟩
end
/-- In the last loop of literals: none of the first pairs are opposites. -/
def LI (w0 : World) (B r : Nat) (ρ : Nat → Nat × Nat) (q : Mv) (k : KS) (g cap : Nat) (ys : List Nat) (a : Act) (w : World) : Prop :=
  ∃ i j : Nat, i = j + 1 ∧ LB a (.slice (some ⟨g, 0, none⟩) ys.length cap) (i : Int) ∧ (j < ys.length ∨ j = 0) ∧ (∀ t, t < j → ∀ x y, ys[t]? = some x → ys[t + 1]? = some y → y ≠ op x) ∧ Own w0 w B r ρ q k g ys.length cap (ys.map (fun y : Nat => (y : Int)))
set_option maxRecDepth 100000 in
set_option maxHeartbeats 16000000 in
theorem lits_round {Q : Exit → Act → World → Prop} {a : Act} {w0 w : World} {B r : Nat} {ρ : Nat → Nat × Nat} {q : Mv} {k : KS} {g cap : Nat} {ys : List Nat} (hI : LI w0 B r ρ q k g cap ys a w) (hb : ∀ y ∈ ys, y < 4611686018427387904) (hn : ys.length ≤ 1000000000)
    (hx : ∀ a' w', LA a' (.slice (some ⟨g, 0, none⟩) ys.length cap) → Own w0 w' B r ρ q k g ys.length cap (ys.map (fun y : Nat => (y : Int))) → (∀ t x y, ys[t]? = some x → ys[t + 1]? = some y → y ≠ op x) → Q (.exit 2) a' w')
    (hr : ∀ a' w', a'.defers = [] → a'.tmps[4]? = some (.slice none 0 0) → a'.tmps[5]? = some (.bool false) → Own w0 w' B r ρ q k g ys.length cap (ys.map (fun y : Nat => (y : Int))) → (∃ y ∈ ys, op y ∈ ys) → Q .ret a' w') :
    Code.wp Try.prog (lLoop Try.f27) (Exit.then (fun a' w' => LI w0 B r ρ q k g cap ys a' w' ∧ ys.length + 1 - (intOf (a'.tmps.getD 9 undef)).toNat < ys.length + 1 - (intOf (a.tmps.getD 9 undef)).toNat) Q) a w := by
  obtain ⟨i, j, hij, hs, hj, hp, hO⟩ := hI
  obtain ⟨u, rfl⟩ := hs.lit
  clear hs
  obtain ⟨m, hm⟩ : ∃ m, ys.length = m := ⟨_, rfl⟩
  by_cases hlt : j + 1 < m
  · obtain ⟨x, hx1⟩ : ∃ x, ys[j]? = some x := ⟨ys[j]'(by omega), List.getElem?_eq_getElem _⟩
    obtain ⟨y, hy1⟩ : ∃ y, ys[j + 1]? = some y := ⟨ys[j + 1]'(by omega), List.getElem?_eq_getElem _⟩
    have c1 := hO.cell (j := j) (z := (x : Int)) (by rw [List.getElem?_map, hx1]; rfl)
    have c2 := hO.cell (j := i) (z := (y : Int)) (by rw [hij, List.getElem?_map, hy1]; rfl)
    have hxb := hb x (List.mem_of_getElem? hx1)
    have j1 : (0 : Int) ≤ (j : Int) := by omega
    have j0 : (0 : Int) ≤ (i : Int) := by omega
    have j2 : (i : Int) < (m : Int) := by omega
    have jw : IntKind.i64.wrap ((i : Int) - 1) = (j : Int) := by rw [IntKind.wrap_i64]; omega
    have HIJ := hide hij
    have j2b : (j : Int) < (m : Int) := by omega
    have j3 : (m : Int) ≤ 2000000000 := by omega
    by_cases he : y = op x
    · have HR : Hid (∀ a' : Act, a'.defers = [] → a'.tmps[4]? = some (.slice none 0 0) → a'.tmps[5]? = some (.bool false) → Q .ret a' w.drew) := fun a' h1 h2 h3 => hr a' w.drew h1 h2 h3 hO.drew ⟨x, List.mem_of_getElem? hx1, by rw [← he]; exact List.mem_of_getElem? hy1⟩
      subst he
      rw [hm]
      clear hx hr hO hp hj hx1 hy1 hb hn hlt hm hij
      conv => arg 2; whnf
      go_wp2
      refine wp_region_noPanic ?_
      go_region_held3 (fun w' => w'.cell? ⟨g, j, none⟩ = some (.int .i64 x) ∧ w'.cell? ⟨g, i, none⟩ = some (.int .i64 (op x))) (go_keep) (first | (go_at_call 26; refine (opposite_any x _ (by assumption)).mono ?_; rintro e w' ⟨rfl, rfl⟩))
      refine NoPanic.normal ?_
      rename_i hHeld
      clear hHeld
      go_wp2
      exact unhide HR _ rfl rfl rfl
    · have HE : Hid (∀ a' : Act, LB a' (.slice (some ⟨g, 0, none⟩) m cap) ((i + 1 : Nat) : Int) → LI w0 B r ρ q k g cap ys a' w.drew) := fun a' h1 => ⟨i + 1, j + 1, by omega, by rw [hm]; exact h1, .inl (by omega), fun t ht x' y' h2 h3 => by
        by_cases e : t < j
        · exact hp t e x' y' h2 h3
        · have e2 : t = j := by omega
          subst e2
          rw [hx1] at h2; rw [hy1] at h3
          cases h2; cases h3; exact he, hO.drew⟩
      have hne : ((y : Int) == (op x : Int)) = false := by simp; omega
      have HLT := hide hlt
      rw [hm]
      clear hx hr hO hp hj hx1 hy1 hb hn hlt hm hij he
      conv => arg 2; whnf
      go_wp2
      refine wp_region_noPanic ?_
      go_region_held3 (fun w' => w'.cell? ⟨g, j, none⟩ = some (.int .i64 x) ∧ w'.cell? ⟨g, i, none⟩ = some (.int .i64 y)) (go_keep) (first | (go_at_call 26; refine (opposite_any x _ (by assumption)).mono ?_; rintro e w' ⟨rfl, rfl⟩))
      refine NoPanic.normal ?_
      rename_i hHeld
      clear hHeld
      go_wp2
      refine ⟨unhide HE _ ⟨rfl, rfl, rfl, by simp⟩, ?_⟩
      have := unhide HLT
      have := unhide HIJ
      simp [intOf]
      omega
  · have hf : decide ((i : Int) < (m : Int)) = false := by simp; omega
    have hle : (m : Int) ≤ (i : Int) := by omega
    have HX : Hid (∀ a' : Act, LA a' (.slice (some ⟨g, 0, none⟩) m cap) → Q (.exit 2) a' w) := fun a' h1 => hx a' w (by rw [hm]; exact h1) hO fun t x y h2 h3 => by
      have := (List.getElem?_eq_some_iff.1 h3).1
      exact hp t (by omega) x y h2 h3
    rw [hm]
    clear hx hr hO hp hj hb hn hlt hm hij
    conv => arg 2; whnf
    go_wp2
    exact unhide HX _ ⟨rfl, rfl, rfl⟩
end Go.Proofs.Ytmkkhpoedlbafaa

namespace Go.Proofs.Ytmkkhpoedlbafaa
open Go Go.RowKit Go.Sort
theorem res_two {W : World} {fn : Func} {a : Act} {s t : Nat} {u v : Value} (hf : fn.results = #[.tmp s, .tmp t]) (hs : a.tmps[s]? = some u) (ht : a.tmps[t]? = some v) : (results fn a.tmps).run Try.prog W = .ok (.tuple #[u, v]) W := by
  simp [results, hf, go_sem, hs, ht]
set_option maxRecDepth 100000 in
set_option maxHeartbeats 16000000 in
theorem lits_tail {a : Act} {w0 w : World} {B r : Nat} {ρ : Nat → Nat × Nat} {q : Mv} {k k' : KS} {g n : Nat} {xs : List Int} {zs : List Nat} (hs : LA a (.slice (some ⟨g, 0, none⟩) n n)) (hO : Own w0 w B r ρ q k' g n n (zs.map (fun y : Nat => (y : Int)))) (hG : Gr k k' xs.length) (hnm : zs.map (num k'.pl) = xs) (hl : ∀ y ∈ zs, y < 2 * k'.pl.length) (hP : k'.pl.length ≤ 1000000000) (hn : n ≤ 1000000000) :
    Code.wp Try.prog (lTail Try.f27) (bodyPost Try.prog Try.f27 (LitsPost w0 B r k xs)) a w := by
  obtain ⟨u, rfl⟩ := hs.lit
  clear hs
  obtain ⟨ys, hT, hc⟩ := Tidy.of hnm hl
  have HS := Try.slices_Sort_int g 0 n (zs.map (fun y : Nat => (y : Int))) w hO.holds hO.lt (by rw [hO.ln]; omega)
  rw [hO.ln] at HS
  generalize hts : (zs.map (fun y : Nat => (y : Int))).mergeSort (fun x y => decide (x ≤ y)) = ts at HS hc
  have htl : ts.length = n := by rw [← hts, List.length_mergeSort, hO.ln]
  have HP2 : Hid (∀ (m : Nat) (os : Array Obj), Own w0 (grow (putRow (Value.int .i64) (Sort.ahead w m) g 0 ts.toArray) os) B r ρ q k' g n n ts) := fun m os => hO.put htl m os
  have hcl : ys.length ≤ n := by
    have := Lib.compact_length_le ts
    rw [hc, List.length_map, htl] at this
    exact this
  have HC : Hid (∀ w1, Own w0 w1 B r ρ q k' g n n ts → Calls Try.prog 33 #[.slice (some ⟨g, 0, none⟩) n n] w1 fun e w' => e = .returned (.slice (some ⟨g, 0, none⟩) ys.length n) ∧ Own w0 w' B r ρ q k' g ys.length n (ys.map (fun y : Nat => (y : Int)))) := fun w1 h1 => by
    have h2 := Try.slices_Compact_int g 0 n ts w1 h1.holds (by rw [htl]; omega) (by rw [htl]; omega)
    rw [htl] at h2
    refine h2.mono ?_
    rintro e w' ⟨rfl, q2, rfl⟩
    rw [hc, List.length_map]
    refine ⟨rfl, ?_⟩
    have h3 := h1.put (ts := ys.map (fun y : Nat => (y : Int)) ++ List.replicate (n - ys.length) 0) (by simp; omega) q2 #[]
    rw [grow_empty] at h3
    have h4 := h3.cut (m := ys.length) hcl
    rw [List.take_append_of_le_length (by simp), List.take_of_length_le (by simp)] at h4
    exact h4
  have hb : ∀ y ∈ ys, y < 4611686018427387904 := fun y hy => by have := hT.lt y hy; omega
  have HR : Hid (∀ (a' : Act) (w' : World), LI w0 B r ρ q k' g n ys a' w' → ∀ (Q : Exit → Act → World → Prop),
      (∀ a' w', LA a' (.slice (some ⟨g, 0, none⟩) ys.length n) → LitsPost w0 B r k xs (.returned (.tuple #[.slice (some ⟨g, 0, none⟩) ys.length n, .bool true])) w' → Q (.exit 2) a' w') →
      (∀ a' w', a'.defers = [] → a'.tmps[4]? = some (.slice none 0 0) → a'.tmps[5]? = some (.bool false) → LitsPost w0 B r k xs (.returned (.tuple #[.slice none 0 0, .bool false])) w' → Q .ret a' w') →
      Code.wp Try.prog (lLoop Try.f27) (Exit.then (fun a'' w' => LI w0 B r ρ q k' g n ys a'' w' ∧ ys.length + 1 - (intOf (a''.tmps.getD 9 undef)).toNat < ys.length + 1 - (intOf (a'.tmps.getD 9 undef)).toNat) Q) a' w') := fun a' w' hI Q h1 h2 =>
    lits_round hI hb (by omega) (fun a2 w2 h3 h4 h5 => h1 a2 w2 h3 ⟨k', ρ, q, hG, .inr ⟨g, n, ys, rfl, h4, hT, no_pair hT.up h5⟩⟩) (fun a2 w2 h3 h4 h5 h6 h7 => h2 a2 w2 h3 h4 h5 ⟨k', ρ, q, hG, .inl ⟨rfl, h6.ck, by
      obtain ⟨y, hy, hy2⟩ := h7
      exact ⟨num k'.pl y, (hT.mem _).2 ⟨y, hy, rfl⟩, (hT.mem _).2 ⟨op y, hy2, num_op _ _⟩⟩⟩⟩)
  have HI : Hid (∀ (a' : Act) (w' : World), LB a' (.slice (some ⟨g, 0, none⟩) ys.length n) ((1 : Nat) : Int) → Own w0 w' B r ρ q k' g ys.length n (ys.map (fun y : Nat => (y : Int))) → LI w0 B r ρ q k' g n ys a' w') := fun a' w' h1 h2 => ⟨1, 0, rfl, h1, .inr rfl, fun t ht => absurd ht (Nat.not_lt_zero _), h2⟩
  have HSS := hide HS
  obtain ⟨m, hm⟩ : ∃ m, ys.length = m := ⟨_, rfl⟩
  rw [hm] at HC HR HI
  clear hT hc hts htl hcl hO hG hnm hl hP hn hb HS hm
  change Code.wp Try.prog (.seq (cL (lTail Try.f27)) (.seq (cL (cR (lTail Try.f27))) (.seq (.seq (cL (cL (lPair Try.f27))) (.block 2 (.loop (lLoop Try.f27)))) (cR (lPair Try.f27))))) _ _ _
  conv => arg 2; arg 1; whnf
  conv => arg 2; arg 2; arg 1; whnf
  conv => arg 2; arg 2; arg 2; arg 1; arg 1; whnf
  conv => arg 2; arg 2; arg 2; arg 2; whnf
  go_wp2_with (first
    | (go_at_call 32; refine (unhide HSS).mono ?_; intro e w1 h1; obtain ⟨rfl, m1, os, rfl⟩ := h1; have H1 := hide (unhide HP2 m1 os); generalize grow (putRow (Value.int .i64) (Sort.ahead w m1) g 0 ts.toArray) os = w1 at H1 ⊢)
    | (go_at_call 33; refine (unhide HC _ (unhide H1)).mono ?_; intro e w2 h2; obtain ⟨rfl, h2⟩ := h2; have H2 := hide h2; clear h2))
  refine wp_loop (LI w0 B r ρ q k' g n ys) (fun a w => m + 1 - (intOf (a.tmps.getD 9 undef)).toNat) ?_ (fun a' w' hI => unhide HR a' w' hI _ ?_ ?_)
  · exact unhide HI _ _ ⟨rfl, rfl, rfl, rfl⟩ (unhide H2)
  · intro a3 w3 h3 h4
    obtain ⟨u3, rfl⟩ := h3.lit
    have H4 := hide h4
    clear h3 h4
    go_wp2
    exact bodyPost_ret (res_two rfl rfl rfl) rfl (unhide H4)
  · intro a3 w3 h3 h4 h5 h6
    exact bodyPost_ret (res_two rfl h4 h5) h3 h6
theorem literals_any (w0 w : World) (B r : Nat) (ρ : Nat → Nat × Nat) (q : Mv) (k : KS) (v : Value) (xs : List Int) (hC : Ck w0 w B r ρ q k (trs (2 * k.pl.length) k.trail)) (hB : Bs k) (hv : Sl w0 B v xs) (hw : Whole xs) (hP : k.pl.length + xs.length ≤ 1000000000) :
    Calls Try.prog 27 #[.pointer (some ⟨r, 0, none⟩), v] w (LitsPost w0 B r k xs) := by
  refine literals_of w0 w B r ρ q k v xs _ hC hB hv hw hP fun a' w' k' ρ' q' ys h1 h2 h3 h4 => ?_
  have hp := h4.gr.len
  refine lits_tail (zs := ys) ⟨h1, h2, h3⟩ ⟨h4.ck, h4.mr, by rw [List.length_map, h4.len], ?_⟩ h4.gr (by rw [h4.nm, List.take_length]) h4.lt (by omega) (by omega)
  have := h4.row
  rw [Nat.sub_self, List.replicate_zero, List.append_nil, Own.ints] at this
  exact this
end Go.Proofs.Ytmkkhpoedlbafaa
