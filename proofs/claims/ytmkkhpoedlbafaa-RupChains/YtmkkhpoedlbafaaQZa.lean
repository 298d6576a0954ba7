/- avowlaw7: RupChains. -/
import Derived.Test.YtmkkhpoedlbafaaQZ
set_option linter.unusedVariables false
set_option linter.unusedSimpArgs false

/- avowlaw7: RupChains over plain lists. -/
namespace Go.Proofs.Ytmkkhpoedlbafaa
open Go
/-- The number of link t. -/
def kk (p N t : Nat) : Nat := 1 + (t + p) % N
def lsT (p N : Nat) : Nat → List (List Int)
  | 0 => []
  | t + 1 => lsT p N t ++ [[-(kk p N (t + 1) : Int), (kk p N (t + 1) : Int) + 1]]
def msT (p N G : Nat) : Nat → List (List Int)
  | 0 => []
  | t + 1 => if kk p N (t + 1) = G + 1 then msT p N G t else msT p N G t ++ [[(kk p N (t + 1) : Int) + 1, -(kk p N (t + 1) : Int)]]
theorem kk_rng {p N t : Nat} (hN : 0 < N) : 1 ≤ kk p N t ∧ kk p N t ≤ N := by
  have := Nat.mod_lt (t + p) hN
  unfold kk; omega
theorem kk_all {p N k : Nat} (hN : 0 < N) (h1 : 1 ≤ k) (h2 : k ≤ N) : ∃ t, 1 ≤ t ∧ t ≤ N ∧ kk p N t = k := by
  have hs := Nat.mod_lt p hN
  have hp := Nat.mod_add_div p N
  have key : ∀ t c, t + p = k - 1 + N * c → kk p N t = k := fun t c e => by
    unfold kk
    rw [e, Nat.add_mul_mod_self_left, Nat.mod_eq_of_lt (by omega)]
    omega
  by_cases h : p % N < k - 1
  · exact ⟨k - 1 - p % N, by omega, by omega, key _ (p / N) (by omega)⟩
  · refine ⟨k - 1 + N - p % N, by omega, by omega, key _ (p / N + 1) ?_⟩
    rw [Nat.mul_add, Nat.mul_one]
    omega
theorem lsT_mem {p N : Nat} {d : List Int} : ∀ {n : Nat}, d ∈ lsT p N n ↔ ∃ t, 1 ≤ t ∧ t ≤ n ∧ d = [-(kk p N t : Int), (kk p N t : Int) + 1]
  | 0 => by simp [lsT]; intro t h1 h2; omega
  | n + 1 => by
    rw [lsT, List.mem_append, lsT_mem, List.mem_singleton]
    constructor
    · rintro (⟨t, h1, h2, h3⟩ | h)
      · exact ⟨t, h1, by omega, h3⟩
      · exact ⟨n + 1, by omega, by omega, h⟩
    · rintro ⟨t, h1, h2, h3⟩
      by_cases e : t = n + 1
      · subst e; exact .inr h3
      · exact .inl ⟨t, h1, by omega, h3⟩
theorem msT_mem {p N G : Nat} {d : List Int} : ∀ {n : Nat}, d ∈ msT p N G n → ∃ k, 1 ≤ k ∧ k ≠ G + 1 ∧ (0 < N → k ≤ N) ∧ d = [(k : Int) + 1, -(k : Int)]
  | 0, h => by simp [msT] at h
  | n + 1, h => by
    rw [msT] at h
    by_cases e : kk p N (n + 1) = G + 1
    · rw [if_pos e] at h; exact msT_mem h
    · rw [if_neg e, List.mem_append, List.mem_singleton] at h
      rcases h with h | h
      · exact msT_mem h
      · exact ⟨kk p N (n + 1), by unfold kk; omega, e, fun hN => (kk_rng hN).2, h⟩
theorem lsT_len (p N : Nat) : ∀ n, (lsT p N n).length = n ∧ tot (lsT p N n) = 3 * n
  | 0 => ⟨rfl, rfl⟩
  | n + 1 => by
    obtain ⟨h1, h2⟩ := lsT_len p N n
    rw [lsT, List.length_append, tot_app, tot_one]
    simp
    omega
theorem msT_len (p N G : Nat) : ∀ n, (msT p N G n).length ≤ n ∧ tot (msT p N G n) ≤ 3 * n
  | 0 => ⟨Nat.le_refl _, Nat.le_refl _⟩
  | n + 1 => by
    obtain ⟨h1, h2⟩ := msT_len p N G n
    rw [msT]
    split
    · omega
    · rw [List.length_append, tot_app, tot_one]
      simp
      omega
theorem chain_go {l : List (List Int)} {S0 : Int → Prop} {N : Nat} (hN : N ≤ 1000) (h1 : Up l S0 1) (hl : ∀ k : Nat, 1 ≤ k → k ≤ N → [-(k : Int), (k : Int) + 1] ∈ l) : ∀ m : Nat, m ≤ N → Up l S0 ((m : Int) + 1)
  | 0, _ => by simpa using h1
  | m + 1, hm => by
    have ih := chain_go hN h1 hl m (by omega)
    have hd := hl (m + 1) (by omega) hm
    refine Up.unit hd (fun x hx => ?_) (by simp) fun y hy hne => ?_
    · simp at hx; unfold LitOk; omega
    · simp at hy
      rcases hy with rfl | rfl
      · rw [Int.neg_neg]; exact ih
      · exact absurd (by omega) hne
theorem link_whole {k : Nat} (h1 : 1 ≤ k) (h2 : k ≤ 1000) : Whole [-(k : Int), (k : Int) + 1] := fun x hx => by
  simp at hx; unfold LitOk; omega
section
variable {p N : Nat}
theorem chain_yes (hN : 1 ≤ N) (hN2 : N ≤ 1000) : Fol (lsT p N N) [-1, (N : Int) + 1] := by
  have hl : ∀ k : Nat, 1 ≤ k → k ≤ N → [-(k : Int), (k : Int) + 1] ∈ lsT p N N := fun k h1 h2 => by
    obtain ⟨t, t1, t2, e⟩ := kk_all (p := p) (by omega) h1 h2
    exact lsT_mem.2 ⟨t, t1, t2, by rw [e]⟩
  refine ⟨fun x hx => ?_, .inr ⟨[-(N : Int), (N : Int) + 1], hl N hN (Nat.le_refl _), link_whole hN hN2, fun y hy => ?_⟩⟩
  · simp at hx; unfold LitOk; omega
  · have hg := chain_go hN2 (Up.base (l := lsT p N N) (S0 := opp [-1, (N : Int) + 1]) (x := 1) (by simp [opp])) hl (N - 1) (by omega)
    simp at hy
    rcases hy with rfl | rfl
    · rw [Int.neg_neg]
      have e : ((N - 1 : Nat) : Int) + 1 = N := by omega
      rw [e] at hg; exact hg
    · exact Up.base (by simp [opp])
theorem chain_ends (hN : 1 ≤ N) (hN2 : N ≤ 1000) : Fol (lsT p N N ++ [[1], [-((N : Int) + 1)]]) [] := by
  have hl : ∀ k : Nat, 1 ≤ k → k ≤ N → [-(k : Int), (k : Int) + 1] ∈ lsT p N N ++ [[1], [-((N : Int) + 1)]] := fun k h1 h2 => by
    obtain ⟨t, t1, t2, e⟩ := kk_all (p := p) (by omega) h1 h2
    exact List.mem_append_left _ (lsT_mem.2 ⟨t, t1, t2, by rw [e]⟩)
  have h1 : Up (lsT p N N ++ [[1], [-((N : Int) + 1)]]) (opp []) 1 := Up.unit (d := [1]) (by simp) (fun x hx => by simp at hx; unfold LitOk; omega) (by simp) fun y hy hne => by simp at hy; exact absurd hy hne
  have h2 := chain_go hN2 h1 hl N (Nat.le_refl _)
  refine ⟨fun x hx => (by cases hx), .inr ⟨[-((N : Int) + 1)], by simp, fun x hx => by simp at hx; unfold LitOk; omega, fun y hy => ?_⟩⟩
  simp at hy
  subst hy
  have e : - -((N : Int) + 1) = (N : Int) + 1 := by omega
  first
    | exact h2
    | (rw [e]; exact h2)
    | (have e2 : -(-1 + -(N : Int)) = (N : Int) + 1 := by omega
       rw [e2]; exact h2)
theorem chain_no {G n : Nat} (hN : 1 ≤ N) (hG : G < N) : ¬ Fol (msT p N G n) [-1, (N : Int) + 1] := by
  have hS : ∀ x, Up (msT p N G n) (opp [-1, (N : Int) + 1]) x → (1 ≤ x ∧ x ≤ (G : Int) + 1) ∨ (-((N : Int) + 1) ≤ x ∧ x ≤ -((G : Int) + 2)) := fun x h => h (fun x => (1 ≤ x ∧ x ≤ (G : Int) + 1) ∨ (-((N : Int) + 1) ≤ x ∧ x ≤ -((G : Int) + 2))) (fun x hx => by
      simp [opp] at hx
      rcases hx with hx | hx <;> omega) fun d hd _ x hx hall => by
      obtain ⟨k, k1, k2, k3, rfl⟩ := msT_mem hd
      have k3 := k3 (by omega)
      have a1 : x ≠ (k : Int) + 1 → (1 ≤ -((k : Int) + 1) ∧ -((k : Int) + 1) ≤ (G : Int) + 1) ∨ (-((N : Int) + 1) ≤ -((k : Int) + 1) ∧ -((k : Int) + 1) ≤ -((G : Int) + 2)) := fun h => hall ((k : Int) + 1) (by simp) (fun e => h e.symm)
      have a2 : x ≠ -(k : Int) → (1 ≤ - -(k : Int) ∧ - -(k : Int) ≤ (G : Int) + 1) ∨ (-((N : Int) + 1) ≤ - -(k : Int) ∧ - -(k : Int) ≤ -((G : Int) + 2)) := fun h => hall (-(k : Int)) (by simp) (fun e => h e.symm)
      simp at hx
      rcases hx with rfl | rfl
      · have := a2 (by omega)
        omega
      · have := a1 (by omega)
        omega
  rintro ⟨_, ⟨x, h1, h2⟩ | ⟨d, hd, _, hy⟩⟩
  · simp at h1 h2
    omega
  · obtain ⟨k, k1, k2, k3, rfl⟩ := msT_mem hd
    have k3 := k3 (by omega)
    have b1 := hS _ (hy ((k : Int) + 1) (by simp))
    have b2 := hS _ (hy (-(k : Int)) (by simp))
    omega
end
end Go.Proofs.Ytmkkhpoedlbafaa

namespace Go.Proofs.Ytmkkhpoedlbafaa
open Go Go.RowKit Go.Sort
/-- Slices of ints, each in a block of its own. -/
structure El (w : World) (us : List Value) (ls : List (List Int)) : Prop where
  len : us.length = ls.length
  at_ : ∀ (j : Nat) u l, us[j]? = some u → ls[j]? = some l → (∃ g, u = .slice (some ⟨g, 0, none⟩) l.length l.length ∧ w.heap[g]? = some (.cells (l.map (Value.int .i64)).toArray 3)) ∧ ∀ x ∈ l, -1000 ≤ x ∧ x ≤ 1000
theorem El.nil (w : World) : El w [] [] := ⟨rfl, fun j u l h => by simp at h⟩
theorem El.step {w w2 : World} {us : List Value} {ls : List (List Int)} (h : El w us ls) (hs : ∀ (g : Nat) (cs : Array Value), w.heap[g]? = some (.cells cs 3) → w2.heap[g]? = w.heap[g]?) : El w2 us ls := ⟨h.len, fun j u l h1 h2 => by
  obtain ⟨⟨g, e, hg⟩, hx⟩ := h.at_ j u l h1 h2
  exact ⟨⟨g, e, (hs g _ hg).trans hg⟩, hx⟩⟩
theorem El.push {w : World} {us : List Value} {ls : List (List Int)} (h : El w us ls) {g : Nat} {l : List Int} (hg : w.heap[g]? = some (.cells (l.map (Value.int .i64)).toArray 3)) (hx : ∀ x ∈ l, -1000 ≤ x ∧ x ≤ 1000) : El w (us ++ [.slice (some ⟨g, 0, none⟩) l.length l.length]) (ls ++ [l]) := by
  refine ⟨by simp [h.len], fun j u l' h1 h2 => ?_⟩
  have hl := h.len
  by_cases e : j < us.length
  · rw [List.getElem?_append_left e] at h1
    rw [List.getElem?_append_left (by omega)] at h2
    exact h.at_ j u l' h1 h2
  · have hj := (List.getElem?_eq_some_iff.1 h1).1
    simp at hj
    have ej : j = us.length := by omega
    subst ej
    rw [hl] at h2
    simp at h1 h2
    subst h1 h2
    exact ⟨⟨g, rfl, hg⟩, hx⟩
theorem El.vl {w : World} {us : List Value} {ls : List (List Int)} (h : El w us ls) (hs : ∀ l ∈ ls, l.length ≤ 1000) : Vl w w.heap.size us ls := ⟨h.len, fun j u l h1 h2 => by
  obtain ⟨⟨g, rfl, hg⟩, hx⟩ := h.at_ j u l h1 h2
  have := hs l (List.mem_of_getElem? h2)
  exact Sl.at hg (lt_of_heap hg) (Nat.le_refl _) (by omega) fun x hx' => by have := hx x hx'; omega⟩
theorem El.one {w : World} {us : List Value} {ls : List (List Int)} (h : El w us ls) : ∀ u ∈ us, u.oneCell' = true := fun u hu => by
  obtain ⟨j, hj, e⟩ := List.mem_iff_getElem.1 hu
  have hj2 : j < ls.length := by have := h.len; omega
  obtain ⟨⟨g, rfl, _⟩, _⟩ := h.at_ j u _ (by rw [List.getElem?_eq_getElem hj, e]) (List.getElem?_eq_getElem hj2)
  rfl
/-- Two rows of clauses that are being made. -/
structure CI (w0 w : World) (lv mv : Value) (ls ms : List (List Int)) (us ums : List Value) : Prop where
  lo : w.ownsRow w0.heap.size 23 1 lv ls.length us
  mo : w.ownsRow w0.heap.size 23 1 mv ms.length ums
  le : El w us ls
  me : El w ums ms
  ne : ∀ g, lv.ownBlock = some g → mv.ownBlock ≠ some g
  bl : Below w0.heap.size w0 w
theorem CI.swap {w0 w : World} {lv mv : Value} {ls ms : List (List Int)} {us ums : List Value} (h : CI w0 w lv mv ls ms us ums) : CI w0 w mv lv ms ls ums us := ⟨h.mo, h.lo, h.me, h.le, fun g h1 h2 => h.ne g h2 h1, h.bl⟩
theorem owns_type {w : World} {B n : Nat} {v : Value} {xs : List Value} {g : Nat} (h : w.ownsRow B 23 1 v n xs) (hg : v.ownBlock = some g) : ∃ cur, w.heap[g]? = some (.cells cur 23) := by
  rcases h.2 with ⟨rfl, _⟩ | ⟨g', cap, cur, rfl, _, hh, _⟩
  · cases hg
  · cases hg
    exact ⟨cur, hh⟩
theorem keep_int {w w2 : World} {B n : Nat} {v : Value} {xs : List Value} (h : w.ownsRow B 23 1 v n xs) (hg : w.grownBy w2 v.ownBlock) : ∀ (g : Nat) (cs : Array Value), w.heap[g]? = some (.cells cs 3) → w2.heap[g]? = w.heap[g]? := fun g cs hc => hg.block g (lt_of_heap hc) fun e => by
  obtain ⟨cur, hh⟩ := owns_type h e.symm
  rw [hh] at hc
  cases hc
theorem keep_alloc (w : World) (o : Obj) : ∀ (g : Nat) (cs : Array Value), w.heap[g]? = some (.cells cs 3) → (w.alloc o).heap[g]? = w.heap[g]? := fun g _ hc => Below.heap_alloc w o g (lt_of_heap hc)
/-- One more clause of two literals in the first row. -/
theorem CI.push {w0 w : World} {lv mv : Value} {ls ms : List (List Int)} {us ums : List Value} (h : CI w0 w lv mv ls ms us ums) (a b : Int) (ha : -1000 ≤ a ∧ a ≤ 1000) (hb : -1000 ≤ b ∧ b ≤ 1000) (hn : ls.length ≤ 1000) :
    ∃ v' w', (Builtin.append_ #[22, 22] 22 #[lv, .slice (some ⟨w.heap.size + 1, 0, none⟩) 1 1]).run Try.prog ((w.alloc (.cells #[.int .i64 a, .int .i64 b] 3)).alloc (.cells #[.slice (some ⟨w.heap.size, 0, none⟩) 2 2] 23)) = .ok v' w' ∧ CI w0 w' v' mv (ls ++ [[a, b]]) ms (us ++ [.slice (some ⟨w.heap.size, 0, none⟩) 2 2]) ums := by
  have hg0 : ((w.alloc (.cells #[.int .i64 a, .int .i64 b] 3)).alloc (.cells #[.slice (some ⟨w.heap.size, 0, none⟩) 2 2] 23)).heap[w.heap.size]? = some (.cells ([a, b].map (Value.int .i64)).toArray 3) := (Below.heap_alloc _ _ _ (by simp)).trans (heap_alloc_new w _)
  have hg1 : ((w.alloc (.cells #[.int .i64 a, .int .i64 b] 3)).alloc (.cells #[.slice (some ⟨w.heap.size, 0, none⟩) 2 2] 23)).heap[w.heap.size + 1]? = some (.cells #[.slice (some ⟨w.heap.size, 0, none⟩) 2 2] 23) := alloc_at (by simp)
  have hl1 : El ((w.alloc (.cells #[.int .i64 a, .int .i64 b] 3)).alloc (.cells #[.slice (some ⟨w.heap.size, 0, none⟩) 2 2] 23)) us ls := (h.le.step (keep_alloc _ _)).step (keep_alloc _ _)
  have hm1 : El ((w.alloc (.cells #[.int .i64 a, .int .i64 b] 3)).alloc (.cells #[.slice (some ⟨w.heap.size, 0, none⟩) 2 2] 23)) ums ms := (h.me.step (keep_alloc _ _)).step (keep_alloc _ _)
  have ho1 := (h.lo.alloc (.cells #[.int .i64 a, .int .i64 b] 3)).alloc (.cells #[.slice (some ⟨w.heap.size, 0, none⟩) 2 2] 23)
  have hq1 := (h.mo.alloc (.cells #[.int .i64 a, .int .i64 b] 3)).alloc (.cells #[.slice (some ⟨w.heap.size, 0, none⟩) 2 2] 23)
  have hb1 : Below w0.heap.size w0 ((w.alloc (.cells #[.int .i64 a, .int .i64 b] 3)).alloc (.cells #[.slice (some ⟨w.heap.size, 0, none⟩) 2 2] 23)) := (h.bl.alloc h.bl.size _).alloc (by have := h.bl.size; simp; omega) _
  have hsz : ((w.alloc (.cells #[.int .i64 a, .int .i64 b] 3)).alloc (.cells #[.slice (some ⟨w.heap.size, 0, none⟩) 2 2] 23)).heap.size = w.heap.size + 2 := by simp
  generalize (w.alloc (.cells #[.int .i64 a, .int .i64 b] 3)).alloc (.cells #[.slice (some ⟨w.heap.size, 0, none⟩) 2 2] 23) = W at hg0 hg1 hl1 hm1 ho1 hq1 hb1 hsz ⊢
  obtain ⟨i, hi, hz, h1, h2⟩ := inf_sl
  obtain ⟨g, cap, w', r, o', g', hw, _⟩ := run_append_lies (P := Try.prog) W 22 22 w0.heap.size 23 i _ 1 24 us_rows hi hz h1 h2 rfl (by omega) lv ls.length us ho1 ⟨w.heap.size + 1, 0, none⟩ 1 1 [.slice (some ⟨w.heap.size, 0, none⟩) 2 2] rfl (World.news_of_block hg1) (fun u hu => by simp at hu; subst hu; rfl) (by omega) (by unfold maxLen; omega) (by omega) hb1.size _ rfl
  have hk := keep_int ho1 g'
  have hne : some w.heap.size ≠ lv.ownBlock := fun e => by
    have := (h.lo.lt _ e.symm).2
    omega
  refine ⟨_, w', r, by simpa using o', ?_, ?_, hm1.step hk, ?_, below_app hb1 g' ho1 hb1.size⟩
  · refine hq1.kept g' ?_
    cases hmv : mv.ownBlock with
    | none => exact .inl rfl
    | some q => exact .inr fun e => h.ne q e.symm hmv
  · exact (hl1.step hk).push (l := [a, b]) ((hk _ _ hg0).trans hg0) (fun x hx => by simp at hx; rcases hx with rfl | rfl <;> assumption)
  · intro q e1 e2
    cases e1
    change mv.ownBlock = some g at e2
    rcases hw with hw | hw
    · exact h.ne _ hw e2
    · have := (hq1.lt _ e2).2
      omega
theorem CI.below {w0 w w2 : World} {lv mv : Value} {ls ms : List (List Int)} {us ums : List Value} (h : CI w0 w lv mv ls ms us ums) (hb : Below w.heap.size w w2) : CI w0 w2 lv mv ls ms us ums := by
  have hs : ∀ (g : Nat) (cs : Array Value), w.heap[g]? = some (.cells cs 3) → w2.heap[g]? = w.heap[g]? := fun g cs hc => hb.block g (lt_of_heap hc)
  exact ⟨owns_below h.lo hb, owns_below h.mo hb, h.le.step hs, h.me.step hs, h.ne, h.bl.trans (hb.mono h.bl.size)⟩
theorem CI.sl {w0 w : World} {lv mv : Value} {ls ms : List (List Int)} {us ums : List Value} (h : CI w0 w lv mv ls ms us ums) (hs : ∀ l ∈ ls, l.length ≤ 1000) : Sl2 w w.heap.size lv ls := Sl2.own h.lo (Nat.le_refl _) (h.le.vl hs)
theorem ls_two {p N n : Nat} : ∀ l ∈ lsT p N n, l.length ≤ 1000 := fun l h => by
  obtain ⟨t, _, _, rfl⟩ := lsT_mem.1 h
  simp
theorem ms_two {p N G n : Nat} : ∀ l ∈ msT p N G n, l.length ≤ 1000 := fun l h => by
  obtain ⟨t, _, _, _, rfl⟩ := msT_mem h
  simp
/-- The chain with its beginning and the opposite of its end. -/
theorem CI.ends {w0 w : World} {lv mv : Value} {ls ms : List (List Int)} {us ums : List Value} (h : CI w0 w lv mv ls ms us ums) (z : Int) (hz : -1000 ≤ z ∧ z ≤ 1000) (hn : ls.length ≤ 1000) (hs : ∀ l ∈ ls, l.length ≤ 1000) :
    ∃ v' w', (Builtin.append_ #[22, 22] 22 #[lv, .slice (some ⟨w.heap.size + 1 + 1, 0, none⟩) 2 2]).run Try.prog (((w.alloc (.cells #[.int .i64 1] 3)).alloc (.cells #[.int .i64 z] 3)).alloc (.cells #[.slice (some ⟨w.heap.size, 0, none⟩) 1 1, .slice (some ⟨w.heap.size + 1, 0, none⟩) 1 1] 23)) = .ok v' w' ∧ Sl2 w' w'.heap.size v' (ls ++ [[1], [z]]) ∧ Below w0.heap.size w0 w' := by
  have e : ((w.alloc (.cells #[.int .i64 1] 3)).alloc (.cells #[.int .i64 z] 3)).alloc (.cells #[.slice (some ⟨w.heap.size, 0, none⟩) 1 1, .slice (some ⟨w.heap.size + 1, 0, none⟩) 1 1] 23) = grow w #[.cells #[.int .i64 1] 3, .cells #[.int .i64 z] 3, .cells #[.slice (some ⟨w.heap.size, 0, none⟩) 1 1, .slice (some ⟨w.heap.size + 1, 0, none⟩) 1 1] 23] := by
    simp only [alloc_eq_grow, grow_grow]
    rfl
  rw [e]
  have g := fun i hi => grow_at w #[.cells #[.int .i64 1] 3, .cells #[.int .i64 z] 3, .cells #[.slice (some ⟨w.heap.size, 0, none⟩) 1 1, .slice (some ⟨w.heap.size + 1, 0, none⟩) 1 1] 23] i hi
  have hb := below_grow w #[.cells #[.int .i64 1] 3, .cells #[.int .i64 z] 3, .cells #[.slice (some ⟨w.heap.size, 0, none⟩) 1 1, .slice (some ⟨w.heap.size + 1, 0, none⟩) 1 1] 23]
  generalize grow w #[.cells #[.int .i64 1] 3, .cells #[.int .i64 z] 3, .cells #[.slice (some ⟨w.heap.size, 0, none⟩) 1 1, .slice (some ⟨w.heap.size + 1, 0, none⟩) 1 1] 23] = W at g hb
  have g0 : W.heap[w.heap.size]? = some (.cells (([1] : List Int).map (Value.int .i64)).toArray 3) := g 0 (by simp)
  have g1 : W.heap[w.heap.size + 1]? = some (.cells ([z].map (Value.int .i64)).toArray 3) := g 1 (by simp)
  have g2 : W.heap[w.heap.size + 1 + 1]? = some (.cells #[.slice (some ⟨w.heap.size, 0, none⟩) 1 1, .slice (some ⟨w.heap.size + 1, 0, none⟩) 1 1] 23) := g 2 (by simp)
  have hc := h.below hb
  have he := ((hc.le.push (l := [1]) g0 (fun x hx => by simp at hx; omega)).push (l := [z]) g1 (fun x hx => by simp at hx; omega))
  have hr : Rd W (.slice (some ⟨w.heap.size + 1 + 1, 0, none⟩) 2 2) [.slice (some ⟨w.heap.size, 0, none⟩) 1 1, .slice (some ⟨w.heap.size + 1, 0, none⟩) 1 1] := .inr ⟨_, 2, rfl, World.news_of_block g2⟩
  obtain ⟨v', w', r, o', g'⟩ := app_rows hc.lo hr (fun u hu => by simp at hu; rcases hu with rfl | rfl <;> rfl) (by simp; omega) hc.bl.size 22
  have hk := keep_int hc.lo g'
  refine ⟨v', w', r, Sl2.own (vs := us ++ [.slice (some ⟨w.heap.size, 0, none⟩) 1 1] ++ [.slice (some ⟨w.heap.size + 1, 0, none⟩) 1 1]) (B := w0.heap.size) ?_ (Nat.le_refl _) ?_, below_app hc.bl g' hc.lo hc.bl.size⟩
  · simpa using o'
  · have := (he.step hk).vl (fun l hl => by
      simp at hl
      rcases hl with hl | rfl | rfl
      · exact hs l hl
      · simp
      · simp)
    simpa using this
end Go.Proofs.Ytmkkhpoedlbafaa
