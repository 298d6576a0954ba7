/- Neg and abs of a number; the boxes of one and of two numbers. -/
import Derived.Test.YtlcfldkmojpkpaaGreatDoorI
namespace Go.Proofs.YtlcfldkmojpkpaaGreatDoor
open Go.RowKit
attribute [local go_sem] eqnil_some eqnil_none nenil_some nenil_none

/-- Two cells in a new block. -/
theorem box_facts (w : World) (c0 c1 : Value) (T : TypeId) :
    (w.alloc (Obj.cells #[c0, c1] T)).cell? ⟨w.heap.size, 0, none⟩ = some c0 ∧ (w.alloc (Obj.cells #[c0, c1] T)).cell? ⟨w.heap.size, 1, none⟩ = some c1 ∧ (∀ o, (w.alloc (Obj.cells #[c0, c1] T)).frozen? ⟨w.heap.size, o, none⟩ = false) := by
  refine ⟨?_, ?_, fun o => World.frozen?_alloc_at _ _ _ _ rfl⟩
  · rw [World.cell?_alloc_at _ _ _ _ rfl]; rfl
  · rw [World.cell?_alloc_at _ _ _ _ rfl]; rfl
/-- What lies in a world behind the box of one number and the cell of a result. -/
structure Set1 (w W0 : World) (c0 c1 : Value) : Prop where
  bel : Below w.heap.size w W0
  a0 : W0.cell? ⟨w.heap.size, 0, none⟩ = some c0
  a1 : W0.cell? ⟨w.heap.size, 1, none⟩ = some c1
  r0 : W0.cell? ⟨w.heap.size + 1, 0, none⟩ = some (.int .i64 0)
  r1 : W0.cell? ⟨w.heap.size + 1, 1, none⟩ = some (.slice none 0 0)
  f0 : W0.frozen? ⟨w.heap.size + 1, 0, none⟩ = false
  f1 : W0.frozen? ⟨w.heap.size + 1, 1, none⟩ = false
  rb : W0.heap[w.heap.size + 1]? = some (.cells #[.int .i64 0, .slice none 0 0] 26)
  z0 : w.heap.size < W0.heap.size
  z1 : w.heap.size + 1 < W0.heap.size
theorem setup1 (w : World) (c0 c1 : Value) : ∃ W0, (w.alloc (Obj.cells #[c0, c1] 26)).alloc (Obj.cells #[.int .i64 0, .slice none 0 0] 26) = W0 ∧ Set1 w W0 c0 c1 := by
  refine ⟨_, rfl, ((Below.refl _ _).alloc (Nat.le_refl _) _).alloc (by simp) _, ?_, ?_, ?_, ?_, ?_, ?_, top_block _ _ (by simp), by simp; omega, by simp⟩
  · rw [World.cell?_alloc_past _ _ _ (by simp)]; exact (box_facts w c0 c1 _).1
  · rw [World.cell?_alloc_past _ _ _ (by simp)]; exact (box_facts w c0 c1 _).2.1
  · have := (box_facts (w.alloc (Obj.cells #[c0, c1] 26)) (.int .i64 0) (.slice none 0 0) 26).1
    rwa [World.size_alloc] at this
  · have := (box_facts (w.alloc (Obj.cells #[c0, c1] 26)) (.int .i64 0) (.slice none 0 0) 26).2.1
    rwa [World.size_alloc] at this
  · have := (box_facts (w.alloc (Obj.cells #[c0, c1] 26)) (.int .i64 0) (.slice none 0 0) 26).2.2 0
    rwa [World.size_alloc] at this
  · have := (box_facts (w.alloc (Obj.cells #[c0, c1] 26)) (.int .i64 0) (.slice none 0 0) 26).2.2 1
    rwa [World.size_alloc] at this
/-- .. of two numbers. -/
structure Set2 (w W0 : World) (c0 c1 d0 d1 : Value) : Prop where
  bel : Below w.heap.size w W0
  a0 : W0.cell? ⟨w.heap.size, 0, none⟩ = some c0
  a1 : W0.cell? ⟨w.heap.size, 1, none⟩ = some c1
  b0 : W0.cell? ⟨w.heap.size + 1, 0, none⟩ = some d0
  b1 : W0.cell? ⟨w.heap.size + 1, 1, none⟩ = some d1
  r0 : W0.cell? ⟨w.heap.size + 1 + 1, 0, none⟩ = some (.int .i64 0)
  r1 : W0.cell? ⟨w.heap.size + 1 + 1, 1, none⟩ = some (.slice none 0 0)
  f0 : W0.frozen? ⟨w.heap.size + 1 + 1, 0, none⟩ = false
  f1 : W0.frozen? ⟨w.heap.size + 1 + 1, 1, none⟩ = false
  rb : W0.heap[w.heap.size + 1 + 1]? = some (.cells #[.int .i64 0, .slice none 0 0] 26)
  z0 : w.heap.size < W0.heap.size
  z1 : w.heap.size + 1 < W0.heap.size
  z2 : w.heap.size + 1 + 1 < W0.heap.size
theorem setup2 (w : World) (c0 c1 d0 d1 : Value) : ∃ W0, ((w.alloc (Obj.cells #[c0, c1] 26)).alloc (Obj.cells #[d0, d1] 26)).alloc (Obj.cells #[.int .i64 0, .slice none 0 0] 26) = W0 ∧ Set2 w W0 c0 c1 d0 d1 := by
  have fB := box_facts (w.alloc (Obj.cells #[c0, c1] 26)) d0 d1 26
  have fR := box_facts ((w.alloc (Obj.cells #[c0, c1] 26)).alloc (Obj.cells #[d0, d1] 26)) (.int .i64 0) (.slice none 0 0) 26
  simp only [World.size_alloc] at fB fR
  refine ⟨_, rfl, (((Below.refl _ _).alloc (Nat.le_refl _) _).alloc (by simp) _).alloc (by simp <;> omega) _, ?_, ?_, ?_, ?_, fR.1, fR.2.1, fR.2.2 0, fR.2.2 1, top_block _ _ (by simp), by simp <;> omega, by simp <;> omega, by simp <;> omega⟩
  · rw [World.cell?_alloc_past _ _ _ (by simp; omega), World.cell?_alloc_past _ _ _ (by simp)]; exact (box_facts w c0 c1 _).1
  · rw [World.cell?_alloc_past _ _ _ (by simp; omega), World.cell?_alloc_past _ _ _ (by simp)]; exact (box_facts w c0 c1 _).2.1
  · rw [World.cell?_alloc_past _ _ _ (by simp)]; exact fB.1
  · rw [World.cell?_alloc_past _ _ _ (by simp)]; exact fB.2.1

theorem len10k {xs : List Int} {z : Int} (hd : Dig xs) (hn : Norm xs) (hv : val xs = z.natAbs) (hz : (z.natAbs : Int) < pw 10000) : xs.length ≤ 100000 := by
  have := len_le hd hn (k := 10000) (by rw [hv]; exact hz)
  omega

set_option maxRecDepth 100000 in
set_option maxHeartbeats 1600000 in
theorem neg_big (n : Int) (ad : Addr) (l c : Nat) (z : Int) (w : World) (h : IsI w (.agg #[.int .i64 n, .slice (some ad) l c]) z) (hz : (z.natAbs : Int) < pw 10000) :
    Calls Tryz.prog 37 #[.agg #[.int .i64 n, .slice (some ad) l c]] w fun e w' => ∃ r, e = .returned r ∧ Below w.heap.size w w' ∧ IsI w' r (-z) := by
  have hn0 : decide (0 ≤ n) = decide (0 < z) ∧ (z < -9223372036854775808 ∨ 9223372036854775807 < z) := by
    rcases h with ⟨e, _⟩ | ⟨b, off, cap, xs, e, _, _, _, _, _, _, h⟩
    · simp at e
    · simp at e
      obtain ⟨rfl, _⟩ := e
      refine ⟨?_, h⟩
      by_cases h0 : z < 0
      · rw [if_pos h0]; simp; omega
      · rw [if_neg h0]; simp; omega
  obtain ⟨W0, hW0, S⟩ := setup1 w (.int .i64 n) (.slice (some ad) l c)
  obtain ⟨hB0, gA0, gA1, gR0, gR1, gf0, gf1, hRb, hz0, hz1⟩ := S
  have HW := hide hW0
  have HRb := hide hRb
  clear hW0 hRb
  have hI0 : IsI W0 (.agg #[.int .i64 n, .slice (some ad) l c]) z := h.below hB0
  have HN := hide hn0
  have HZ := hide hz
  clear hn0 hz
  go_enter Tryz.func37, Tryz.ntmps37
  go_wp2
  rw [unhide HW]
  go_region_with (first
    | (go_at_call 57; refine (magnitude_any _ z _ ?_).mono ?_; exact hI0; rintro e w1 ⟨m, xs, rfl, hb1, hm, hd, hn, hv⟩; have HV := hide hv; clear hv; obtain ⟨a1, c1, rfl, hcc1, hat1⟩ := hm; obtain ⟨b1, o1, rfl, hbl1, hc1'⟩ := hat1 (IsI.ne_nil (unhide HV) (unhide HN).2); have hc1 : At w1 b1 o1 xs := hc1'; clear hc1' hat1; have kA0 := (hb1.cell (p := ⟨w.heap.size, 0, none⟩) hz0).trans gA0)
    | (go_at_call 66; refine (clone_some b1 o1 _ _ xs _ rfl ?_ ?_ ?_).mono ?_; exact hbl1; exact hc1; exact len10k hd hn (unhide HV) (unhide HZ); rintro e w2 ⟨v2, rfl, hb2, hown2, hnn2⟩; have hbT2 := hb1.trans (hb2.mono hb1.size); have kA2 := (hbT2.cell (p := ⟨w.heap.size, 0, none⟩) hz0).trans gA0)
    | (go_at_call 58; refine (ofMag_any _ _ xs _ ?_ hd hn ?_).mono ?_; exact Mg.of_owns hown2; exact len10k hd hn (unhide HV) (unhide HZ); rintro e w3 ⟨r, rfl, hb3, hI3⟩; obtain ⟨n3, a3, l3, c3, rfl⟩ := hI3.form; have hbT3 := hbT2.trans (hb3.mono hbT2.size); have HI3 := hide hI3; clear hI3; have kR0 := (hbT3.cell (p := ⟨w.heap.size + 1, 0, none⟩) hz1).trans gR0; have kR1 := (hbT3.cell (p := ⟨w.heap.size + 1, 1, none⟩) hz1).trans gR1; have kf0 := (hbT3.frozen (p := ⟨w.heap.size + 1, 0, none⟩) hz1).trans gf0; have kf1 := (hbT3.frozen (p := ⟨w.heap.size + 1, 1, none⟩) hz1).trans gf1))
  all_goals
    go_wp2
    refine bodyPost_ret (v := .agg #[.int .i64 n3, .slice a3 l3 c3]) ?_ rfl ?_
    · simp [results, Tryz.results37, go_sem, kR0, kR1]
    · have hI3 := unhide HI3
      have hrb3 := (hbT3.block (w.heap.size + 1) hz1).trans (unhide HRb)
      have hv9 := unhide HV
      have hn9 := unhide HN
      have e9 : (if decide (0 ≤ n) = true then - val xs else val xs) = -z := by
        rw [hn9.1]
        by_cases h9 : 0 < z
        · rw [if_pos (by simpa using h9)]; omega
        · rw [if_neg (by simpa using h9)]; omega
      rw [e9] at hI3
      exact ⟨_, rfl, ret_store (hB0.drew.trans (hbT3.mono (B' := w.heap.size) (Nat.le_of_lt hz0))) hI3 (by omega) hrb3 _ _⟩

set_option maxRecDepth 100000 in
set_option maxHeartbeats 1600000 in
theorem neg_min (z : Int) (w : World) (hzz : z = -9223372036854775808) :
    Calls Tryz.prog 37 #[.agg #[.int .i64 (-9223372036854775808), .slice none 0 0]] w fun e w' => ∃ r, e = .returned r ∧ Below w.heap.size w w' ∧ IsI w' r (-z) := by
  have h : IsI w (.agg #[.int .i64 (-9223372036854775808), .slice none 0 0]) z := .inl ⟨by rw [hzz], by omega, by omega⟩
  have hz : (z.natAbs : Int) < pw 10000 := by
    have h3 : (9223372036854775808 : Int) < pw 3 := by decide
    have := pw_mono (show 3 ≤ 10000 by omega)
    omega
  have HZZ := hide hzz
  clear hzz
  obtain ⟨W0, hW0, S⟩ := setup1 w (.int .i64 (-9223372036854775808)) (.slice none 0 0)
  obtain ⟨hB0, gA0, gA1, gR0, gR1, gf0, gf1, hRb, hz0, hz1⟩ := S
  have HW := hide hW0
  have HRb := hide hRb
  clear hW0 hRb
  have hI0 : IsI W0 (.agg #[.int .i64 (-9223372036854775808), .slice none 0 0]) z := h.below hB0
  have HZ := hide hz
  clear hz
  go_enter Tryz.func37, Tryz.ntmps37
  go_wp2
  rw [unhide HW]
  go_region_with (first
    | (go_at_call 57; refine (magnitude_any _ z _ ?_).mono ?_; exact hI0; rintro e w1 ⟨m, xs, rfl, hb1, hm, hd, hn, hv⟩; have HV := hide hv; clear hv; obtain ⟨a1, c1, rfl, hcc1, hat1⟩ := hm; obtain ⟨b1, o1, rfl, hbl1, hc1'⟩ := hat1 (by rintro rfl; have h8 := unhide HV; have h9 := unhide HZZ; simp only [val] at h8; omega); have hc1 : At w1 b1 o1 xs := hc1'; clear hc1' hat1; have kA0 := (hb1.cell (p := ⟨w.heap.size, 0, none⟩) hz0).trans gA0)
    | (go_at_call 66; refine (clone_some b1 o1 _ _ xs _ rfl ?_ ?_ ?_).mono ?_; exact hbl1; exact hc1; exact len10k hd hn (unhide HV) (unhide HZ); rintro e w2 ⟨v2, rfl, hb2, hown2, hnn2⟩; have hbT2 := hb1.trans (hb2.mono hb1.size); have kA2 := (hbT2.cell (p := ⟨w.heap.size, 0, none⟩) hz0).trans gA0)
    | (go_at_call 58; refine (ofMag_any _ _ xs _ ?_ hd hn ?_).mono ?_; exact Mg.of_owns hown2; exact len10k hd hn (unhide HV) (unhide HZ); rintro e w3 ⟨r, rfl, hb3, hI3⟩; obtain ⟨n3, a3, l3, c3, rfl⟩ := hI3.form; have hbT3 := hbT2.trans (hb3.mono hbT2.size); have HI3 := hide hI3; clear hI3; have kR0 := (hbT3.cell (p := ⟨w.heap.size + 1, 0, none⟩) hz1).trans gR0; have kR1 := (hbT3.cell (p := ⟨w.heap.size + 1, 1, none⟩) hz1).trans gR1; have kf0 := (hbT3.frozen (p := ⟨w.heap.size + 1, 0, none⟩) hz1).trans gf0; have kf1 := (hbT3.frozen (p := ⟨w.heap.size + 1, 1, none⟩) hz1).trans gf1))
  all_goals
    go_wp2
    refine bodyPost_ret (v := .agg #[.int .i64 n3, .slice a3 l3 c3]) ?_ rfl ?_
    · simp [results, Tryz.results37, go_sem, kR0, kR1]
    · have hI3 := unhide HI3
      have hrb3 := (hbT3.block (w.heap.size + 1) hz1).trans (unhide HRb)
      have hv9 := unhide HV
      have hz9 := unhide HZZ
      have e9 : val xs = -z := by omega
      simp only [Bool.false_eq_true, if_false, e9] at hI3
      exact ⟨_, rfl, ret_store (hB0.drew.trans (hbT3.mono (B' := w.heap.size) (Nat.le_of_lt hz0))) hI3 (by omega) hrb3 _ _⟩

/-- Neg. -/
theorem neg_any (v : Value) (z : Int) (w : World) (h : IsI w v z) (hz : (z.natAbs : Int) < pw 10000) :
    Calls Tryz.prog 37 #[v] w fun e w' => ∃ r, e = .returned r ∧ Below w.heap.size w w' ∧ IsI w' r (-z) := by
  have h' := h
  rcases h with ⟨rfl, h1, h2⟩ | ⟨b, off, cap, xs, rfl, _⟩
  · by_cases hm : z = -9223372036854775808
    · subst hm
      exact neg_min _ w rfl
    · exact neg_small z w (by omega) h2
  · exact neg_big _ _ _ _ z w h' hz

end Go.Proofs.YtlcfldkmojpkpaaGreatDoor
