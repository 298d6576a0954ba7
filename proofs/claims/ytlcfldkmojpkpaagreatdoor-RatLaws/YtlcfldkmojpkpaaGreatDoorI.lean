/- Sign, Small, magnitude, clone, Neg, abs of a number. -/
import Derived.Test.YtlcfldkmojpkpaaGreatDoorH
import Derived.Deep.RegionWith
namespace Go.Proofs.YtlcfldkmojpkpaaGreatDoor
open Go.RowKit
attribute [local go_sem] eqnil_some eqnil_none nenil_some nenil_none

/-- The sign. -/
def sgn (z : Int) : Int := if z < 0 then -1 else if 0 < z then 1 else 0

set_option maxHeartbeats 400000 in
theorem sign_any (v : Value) (z : Int) (w : World) (h : IsI w v z) :
    Calls Tryz.prog 27 #[v] w fun e w' => e = .returned (.int .i64 (sgn z)) ∧ Below w.heap.size w w' := by
  have hc : ∀ n m : Value, ∀ k : Int, v = .agg #[.int .i64 k, m] → cmpI k 0 = sgn z → Calls Tryz.prog 27 #[v] w fun e w' => e = .returned (.int .i64 (sgn z)) ∧ Below w.heap.size w w' := by
    rintro n m k rfl hk
    have HK := hide hk
    clear hk
    go_enter Tryz.func27, Tryz.ntmps27
    go_wp2_with fail
    refine (cmp64_any _ _ _).mono ?_
    rintro e w1 ⟨rfl, hw1⟩
    subst hw1
    go_wp2
    go_ret
    exact ⟨ret_int (unhide HK), (Below.refl _ _).alloc (Nat.le_refl _) _⟩
  rcases h with ⟨e, h1, h2⟩ | ⟨b, off, cap, xs, e, _, _, _, _, _, _, h⟩
  · exact hc undef _ _ e rfl
  · refine hc undef _ _ e ?_
    unfold cmpI sgn
    by_cases h0 : z < 0
    · rw [if_pos h0, if_pos (by omega), if_pos h0]
    · rw [if_neg h0, if_neg (by omega), if_pos (by omega), if_neg h0, if_pos (by omega)]

set_option maxHeartbeats 400000 in
theorem magnitude_any (v : Value) (z : Int) (w : World) (h : IsI w v z) :
    Calls Tryz.prog 57 #[v] w fun e w' => ∃ m xs, e = .returned m ∧ Below w.heap.size w w' ∧ Mg w' m xs ∧ Dig xs ∧ Norm xs ∧ val xs = z.natAbs := by
  rcases h with ⟨rfl, h1, h2⟩ | ⟨b, off, cap, xs, rfl, h1, h2, h3, h4, h5, h6, h7⟩
  · go_enter Tryz.func57, Tryz.ntmps57
    go_wp2_with fail
    refine (unsigned_any z _ h1 h2).mono ?_
    rintro e w1 ⟨rfl, hw1⟩
    subst hw1
    go_wp2_with fail
    refine (magOf_any _ _ (by omega) (by omega)).mono ?_
    rintro e w2 ⟨v2, xs, rfl, hb, hm, hd, hn, hv, hl⟩
    have HV := hide hv
    clear hv
    go_wp2
    go_ret
    exact ⟨_, _, rfl, ((Below.refl _ _).alloc (Nat.le_refl _) _).trans (hb.mono (by simp)), hm, hd, hn, unhide HV⟩
  · have H6 := hide h6
    clear h6
    generalize (if z < 0 then (-1 : Int) else 1) = n
    go_enter Tryz.func57, Tryz.ntmps57
    go_wp2
    go_ret
    have hB : Below w.heap.size w (w.alloc (Obj.cells #[Value.int IntKind.i64 n, Value.slice (some ⟨b, off, none⟩) xs.length cap] 26)) := (Below.refl _ _).alloc (Nat.le_refl _) _
    have hm : Mg w (.slice (some ⟨b, off, none⟩) xs.length cap) xs := h3.mg h2 h1
    exact ⟨_, xs, rfl, hB, hm.below hB, h4, h5, unhide H6⟩

theorem IsI.form {w : World} {v : Value} {z : Int} (h : IsI w v z) : ∃ n a l c, v = .agg #[.int .i64 n, .slice a l c] := by
  rcases h with ⟨rfl, _⟩ | ⟨b, off, cap, xs, rfl, _⟩
  · exact ⟨_, _, _, _, rfl⟩
  · exact ⟨_, _, _, _, rfl⟩
/-- A magnitude's cells lie in no block that holds a number's two cells. -/
theorem At.ne {w : World} {b off R : Nat} {xs : List Int} (h : At w b off xs) (hne : xs ≠ []) {n : Int} {v : Value} {T : TypeId} (hv : ∀ q, v ≠ .int .u32 q) {fz : Nat × Nat} (hR : w.heap[R]? = some (.cells #[.int .i64 n, v] T fz)) : b ≠ R := by
  rintro rfl
  have h0 := h 0 (List.length_pos_iff.2 hne)
  simp only [World.cell?, hR, Nat.add_zero, Option.isSome_none, Bool.false_eq_true, if_false] at h0
  match off, h0 with
  | 0, h0 => simp at h0
  | 1, h0 => simp at h0; exact hv _ h0
  | k + 2, h0 => simp at h0
theorem IsI.ne_nil {xs : List Int} {z : Int} (hv : val xs = z.natAbs) (h : z < -9223372036854775808 ∨ 9223372036854775807 < z) : xs ≠ [] := by
  rintro rfl
  simp only [val] at hv
  omega
/-- A number is kept while the cells of a result are written. -/
theorem IsI.store {w : World} {v : Value} {z : Int} (h : IsI w v z) {R : Nat} {T : TypeId} {fz : Nat × Nat} (hR : w.heap[R]? = some (.cells #[.int .i64 0, .slice none 0 0] T fz)) (c0 c1 : Value) : IsI ((w.setCell ⟨R, 0, none⟩ c0).setCell ⟨R, 1, none⟩ c1) v z := by
  rcases h with h | ⟨b, off, cap, xs, e, h1, h2, h3, h4, h5, h6, h7⟩
  · exact .inl h
  · have hbR := h3.ne (IsI.ne_nil h6 h7) (by intro q; simp) hR
    refine .inr ⟨b, off, cap, xs, e, h1, by simpa using h2, fun j hj => ?_, h4, h5, h6, h7⟩
    rw [World.cell?_setCell_other _ _ _ _ (by intro e; injection e with e1; exact hbR e1.symm), World.cell?_setCell_other _ _ _ _ (by intro e; injection e with e1; exact hbR e1.symm)]
    exact h3 j hj
theorem top_block (w : World) (o : Obj) {n : Nat} (h : w.heap.size = n) : (w.alloc o).heap[n]? = some o := by subst h; exact heap_alloc_new w o
theorem ret_store {w w1 : World} {r : Value} {z : Int} (hb : Below w.heap.size w w1) (h : IsI w1 r z) {R : Nat} (hw : w.heap.size ≤ R) {T : TypeId} {fz : Nat × Nat} (hR : w1.heap[R]? = some (.cells #[.int .i64 0, .slice none 0 0] T fz)) (c0 c1 : Value) :
    Below w.heap.size w ((w1.setCell ⟨R, 0, none⟩ c0).setCell ⟨R, 1, none⟩ c1) ∧ IsI ((w1.setCell ⟨R, 0, none⟩ c0).setCell ⟨R, 1, none⟩ c1) r z :=
  ⟨(hb.setCell (p := ⟨R, 0, none⟩) hw _).setCell (p := ⟨R, 1, none⟩) hw _, h.store hR c0 c1⟩

set_option maxHeartbeats 400000 in
theorem cloneI_any (v : Value) (z : Int) (w : World) (h : IsI w v z) (hz : (z.natAbs : Int) < pw 10000) :
    Calls Tryz.prog 92 #[v] w fun e w' => ∃ r, e = .returned r ∧ Below w.heap.size w w' ∧ IsI w' r z := by
  rcases h with ⟨rfl, h1, h2⟩ | ⟨b, off, cap, xs, rfl, h1, h2, h3, h4, h5, h6, h7⟩
  · go_enter Tryz.func92, Tryz.ntmps92
    go_wp2
    go_region_with (go_at_call 66; refine (clone_none _).mono ?_; rintro e w1 ⟨rfl, hw1⟩; subst hw1)
    all_goals
      go_wp2
      refine bodyPost_ret (v := .agg #[.int .i64 z, .slice none 0 0]) ?_ rfl ?_
      · simp [results, Tryz.results92, go_sem]
      · exact ⟨_, rfl, (((Below.refl _ _).alloc (Nat.le_refl _) _).alloc (by simp) _).drew, .inl ⟨rfl, h1, h2⟩⟩
  · have hl : xs.length ≤ 10000 := len_le h4 h5 (by omega)
    have H6 := hide h6
    clear h6 hz
    generalize hn : (if z < 0 then (-1 : Int) else 1) = n
    have HN := hide hn
    clear hn
    have hB0 : Below w.heap.size w ((w.alloc (Obj.cells #[.int .i64 n, .slice (some ⟨b, off, none⟩) xs.length cap] 26)).alloc (Obj.cells #[.int .i64 0, .slice none 0 0] 26)) := ((Below.refl _ _).alloc (Nat.le_refl _) _).alloc (by simp) _
    have h3' : At ((w.alloc (Obj.cells #[.int .i64 n, .slice (some ⟨b, off, none⟩) xs.length cap] 26)).alloc (Obj.cells #[.int .i64 0, .slice none 0 0] 26)) b off xs := fun j hj => (hB0.cell (p := ⟨b, off + j, none⟩) h2).trans (h3 j hj)
    go_enter Tryz.func92, Tryz.ntmps92
    go_wp2
    go_region_with (go_at_call 66; refine (clone_some b off xs.length cap xs _ rfl ?_ ?_ (by omega)).mono ?_; (simp; omega); exact h3'; rintro e w1 ⟨v1, rfl, hb1, hown, hnn⟩; obtain ⟨g, cp, rfl⟩ : (∃ g cp, v1 = .slice (some ⟨g, 0, none⟩) xs.length cp) := (by rcases hown.2 with ⟨h, _⟩ | ⟨g, cp, _, h, _⟩; exact absurd h hnn; exact ⟨g, cp, h⟩); obtain ⟨hc, hf⟩ := bcell hb1; have hz1 : w.heap.size + 1 < w1.heap.size := (by have := hb1.size; simp at this; omega))
    all_goals
      go_wp2
      refine bodyPost_ret (v := .agg #[.int .i64 n, .slice (some ⟨g, 0, none⟩) xs.length cp]) ?_ rfl ?_
      · simp [results, Tryz.results92, go_sem, hc]
      · have hR : w1.heap[w.heap.size + 1]? = some (.cells #[.int .i64 0, .slice none 0 0] 26) := (hb1.block (w.heap.size + 1) (by simp)).trans (top_block _ _ (by simp))
        have hI : IsI w1 (.agg #[.int .i64 n, .slice (some ⟨g, 0, none⟩) xs.length cp]) z := by
          have hmg := Mg.of_owns hown
          obtain ⟨a', cap', e, hcc, hrr⟩ := hmg
          simp only [Value.slice.injEq] at e
          obtain ⟨rfl, _, rfl⟩ := e
          obtain ⟨b', off', e, hb', hat'⟩ := hrr (IsI.ne_nil (unhide H6) h7)
          simp at e
          obtain ⟨rfl, rfl⟩ := e
          exact .inr ⟨g, 0, cp, xs, (by have e9 := unhide HN; subst e9; rfl), hcc, hb', hat', h4, h5, unhide H6, h7⟩
        exact ⟨_, rfl, ret_store (hB0.drew.trans (hb1.mono (B' := w.heap.size) (by simp; omega))) hI (by omega) hR _ _⟩

set_option maxHeartbeats 800000 in
theorem neg_small (z : Int) (w : World) (h1 : -9223372036854775808 < z) (h2 : z ≤ 9223372036854775807) :
    Calls Tryz.prog 37 #[.agg #[.int .i64 z, .slice none 0 0]] w fun e w' => ∃ r, e = .returned r ∧ Below w.heap.size w w' ∧ IsI w' r (-z) := by
  have hne : (z != -9223372036854775808) = true := by rw [bne_iff_ne]; omega
  go_enter Tryz.func37, Tryz.ntmps37
  go_wp2_with fail
  refine (of_any _ _).mono ?_
  rintro e w1 ⟨rfl, hb1⟩
  obtain ⟨hc, hf⟩ := bcell hb1
  have hz1 : w.heap.size + 1 < w1.heap.size := by have := hb1.size; simp at this; omega
  go_wp2
  refine bodyPost_ret (v := .agg #[.int .i64 (-z), .slice none 0 0]) ?_ rfl ?_
  · simp [results, Tryz.results37, go_sem, hc]
  · have hB0 : Below w.heap.size w ((w.alloc (Obj.cells #[.int .i64 z, .slice none 0 0] 26)).alloc (Obj.cells #[.int .i64 0, .slice none 0 0] 26)) := ((Below.refl _ _).alloc (Nat.le_refl _) _).alloc (by simp) _
    have hR : w1.heap[w.heap.size + 1]? = some (.cells #[.int .i64 0, .slice none 0 0] 26) := (hb1.block (w.heap.size + 1) (by simp)).trans (top_block _ _ (by simp))
    exact ⟨_, rfl, ret_store (hB0.trans (hb1.mono (B' := w.heap.size) (by simp; omega))) (.inl ⟨rfl, by omega, by omega⟩) (by omega) hR _ _⟩

end Go.Proofs.YtlcfldkmojpkpaaGreatDoor
