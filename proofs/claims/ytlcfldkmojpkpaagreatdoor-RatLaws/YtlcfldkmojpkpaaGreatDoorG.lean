/- The walk of smallMag: the number of a magnitude that is small. -/
import Derived.Test.YtlcfldkmojpkpaaGreatDoorF
namespace Go.Proofs.YtlcfldkmojpkpaaGreatDoor
open Go.RowKit Go.Shelf
attribute [local go_sem] Oper.semAt_some

/-- What the uint64 is when the digits at these places have come. -/
def accU (xs : List Int) (pre : List (Fin xs.length)) : Int := pre.foldl (fun s i => (s * 1000000000 + dg xs i.1) % 18446744073709551616) 0
theorem accU_snoc (xs : List Int) (pre : List (Fin xs.length)) (i : Fin xs.length) : accU xs (pre ++ [i]) = (accU xs pre * 1000000000 + dg xs i.1) % 18446744073709551616 := by simp [accU]
theorem accU_bd (xs : List Int) (pre : List (Fin xs.length)) : 0 ≤ accU xs pre ∧ accU xs pre < 18446744073709551616 := by
  rcases List.eq_nil_or_concat pre with rfl | ⟨q, i, rfl⟩
  · simp [accU]
  · rw [List.concat_eq_append, accU_snoc]; omega
theorem accU_take (xs : List Int) (k : Nat) (hk : k ≤ xs.length) : accU xs ((dn xs.length).take k) = val (xs.drop (xs.length - k)) % 18446744073709551616 := by
  induction k with
  | zero => simp [accU, val]
  | succ k ih =>
    rw [dn_take_succ _ _ (by omega), accU_snoc, ih (by omega)]
    have e : xs.drop (xs.length - (k + 1)) = (dg xs (xs.length - 1 - k)) :: xs.drop (xs.length - k) := by
      have h1 : xs.length - (k + 1) < xs.length := by omega
      rw [List.drop_eq_getElem_cons h1]
      rw [show xs.length - 1 - k = xs.length - (k + 1) by omega, dg, List.getElem?_eq_getElem h1, show xs.length - (k + 1) + 1 = xs.length - k by omega]
      simp
    rw [e]
    simp only [val]
    omega
theorem accU_all (xs : List Int) : accU xs (dn xs.length) = val xs % 18446744073709551616 := by
  have := accU_take xs xs.length (Nat.le_refl _)
  rw [List.take_of_length_le (by rw [dn_length]; omega)] at this
  simpa using this

set_option maxRecDepth 100000 in
set_option maxHeartbeats 1000000 in
theorem smallMag_yes (a : Option Addr) (cap : Nat) (xs : List Int) (w : World) (hat : xs ≠ [] → ∃ b off, a = some ⟨b, off, none⟩ ∧ b < w.heap.size ∧ At w b off xs) (hd : Dig xs) (hl : xs.length ≤ 3) (h9 : xs.length = 3 → xs[2]?.getD 0 ≤ 9) (hv : val xs < 18446744073709551616) :
    Calls Tryz.prog 83 #[.slice a xs.length cap] w fun e w' => e = .returned (.tuple #[.int .u64 (val xs), .bool true]) ∧ Below w.heap.size w w' := by
  refine (callsIn_wide (n := 10)).1 ?_
  refine callsIn_of_wp_marks Tryz.func83 rfl trivial ?_ rfl
  simp only [Tryz.ntmps83, List.size_toArray, List.length_cons, List.length_nil, Nat.reduceAdd, Nat.reduceSub, Array.replicate_succ, Array.replicate_zero, List.push_toArray, List.append_toArray, List.nil_append, List.cons_append]
  by_cases h3 : xs.length = 3
  · have h3' : ((xs.length : Int) == 3) = true := by simp; omega
    obtain ⟨b0, off0, rfl, hb0, hc0⟩ := hat (by intro e; subst e; simp at h3)
    have hc2 := hc0 2 (by omega)
    have h92 := h9 h3
    obtain ⟨d2, hd2, hd20, hd21⟩ := hd.get 2
    rw [hd2] at hc2 h92
    have H3 := hide h3
    clear h3 h9 hd2
    have h3i : (2 : Int) < (xs.length : Int) := by have := unhide H3; omega
    have h3j : ¬ (3 : Int) < (xs.length : Int) := by have := unhide H3; omega
    have hq : decide ((9 : Int) < d2) = false := by simp; omega
    gi_wp2_with fail
    refine ⟨trivial, (callsIn_wide.2 (back_any _ _ _ _)).mono ?_⟩
    rintro e w' ⟨rfl, rfl⟩
    gi_wp2
    generalize ha : some (⟨b0, off0, none⟩ : Addr) = a at *
    have bS := Boxed.new w 86 (.int .u64 0)
    have bN := Boxed.new (w.alloc (.cells #[.int .u64 0] 86)) 24 (.slice a xs.length cap)
    rw [World.size_alloc] at bN
    have hB0 : Below w.heap.size w ((w.alloc (.cells #[.int .u64 0] 86)).alloc (.cells #[.slice a xs.length cap] 24)) := ((Below.refl _ w).alloc (Nat.le_refl _) _).alloc (by simp) _
    obtain ⟨b, hbw, hI⟩ : ∃ b, b < w.heap.size + 1 + 1 ∧ b ≠ w.heap.size ∧ (xs ≠ [] → ∃ off, a = some ⟨b, off, none⟩ ∧ At ((w.alloc (.cells #[.int .u64 0] 86)).alloc (.cells #[.slice a xs.length cap] 24)) b off xs) := by
      by_cases hne : xs = []
      · exact ⟨w.heap.size + 1, by omega, by omega, fun h => absurd hne h⟩
      · obtain ⟨b, off, e, hb, hc⟩ := hat hne
        exact ⟨b, by omega, by omega, fun _ => ⟨off, e, fun j hj => (hB0.cell (p := ⟨b, off + j, none⟩) hb).trans (hc j hj)⟩⟩
    obtain ⟨hbn, hI⟩ := hI
    refine wpIn_rangeFunc_ownG rfl (by decide) (gf := 100) (lb := #[.pointer (some ⟨w.heap.size + 1, 0, none⟩)]) rfl trivial (enters_of Tryz.func100 (by kernel_rfl) rfl)
      (back_stops (w.heap.size + 1) b a cap xs (by omega) _ (by simp) (by simp; omega) bN.cell hI) kp2_t (kp2_b (by simp) (by simp; omega)) (Below.refl _ _) (fun _ => rfl)
      (fun pre W => (W.cell? ⟨w.heap.size, 0, none⟩ = some (.int .u64 (accU xs pre)) ∧ W.frozen? ⟨w.heap.size, 0, none⟩ = false) ∧ Below w.heap.size w W)
      (fun _ _ _ => False)
      (OwnFrom.and (Own.from (fun s A B row hs hg hr => ⟨cell_kept hs.1 hg hr, (frozen_kept hs.1 hg hr).trans hs.2⟩) _) (ownFrom_below (Nat.le_refl _) (by simp; omega)))
      (fun _ _ _ _ _ hs _ _ => hs)
      ⟨⟨(bS.alloc _).cell, (bS.alloc _).frozen⟩, hB0⟩
      (fun x => { tmps := #[.slice a xs.length cap, undef, .int .u64 0, .bool false, .pointer (some ⟨w.heap.size, 0, none⟩), undef, .int .u32 (dg xs x.1), .slice a xs.length cap, .int .i64 xs.length, .bool false, .bool false, .slice a xs.length cap, .int .i64 xs.length, .bool true, .bool true, .slice a xs.length cap, .pointer (some ⟨b0, off0 + 2, none⟩), .int .u32 d2, .bool false, .bool false, .bool false, .slice a xs.length cap, .func (.func 100) #[] #[.pointer (some ⟨w.heap.size + 1, 0, none⟩)], .int .i64 (x.1 : Int), .int .u32 (dg xs x.1), undef, undef, undef, undef, undef, undef], defers := [] }) ?assign ?body ?done ?stop
    case assign =>
      intro l x W K hK
      gi_wp2
      exact hK
    case body =>
      rintro l pre x W ⟨⟨hc, hf⟩, hB⟩ _
      obtain ⟨hd0, hd1⟩ := hd.dg x.1
      have hacc := accU_bd xs pre
      gi_wp2
      refine ⟨(KeepsOthers.setCell _ _ _).from _, (Kp2.refl _ _ _).setCell (by simp) (by simpa using hbn) _, ⟨?_, by rw [World.frozen?_setCell]; exact hf⟩, hB.setCell (p := ⟨w.heap.size, 0, none⟩) (Nat.le_refl _) _⟩
      rw [accU_snoc, World.cell?_setCell_same _ _ _ hc]
      congr 2
      simp only [IntKind.wrap_u64]
      omega
    case done =>
      rintro D ys W hD rfl ⟨⟨hc, _⟩, hB⟩ hK
      gi_wp2
      refine ⟨by simp, .inl ⟨_, _, rfl, run_takeDeferred hK, ?_⟩⟩
      refine ⟨_, results_tmp2 rfl _ _ _, ?_, hB.trans (belowK_b (w := w) (Nat.le_refl _) W D _ _ (by simp at hD; omega) hK rfl rfl)⟩
      have e : accU xs (dn xs.length) = val xs := by rw [accU_all]; have := val_nonneg hd; omega
      rw [← e]
      rfl
    case stop =>
      rintro D c pre W _ _ h _
      exact h.elim

  · have h3' : ((xs.length : Int) == 3) = false := by simp; omega
    have h3'' : ¬ (3 : Int) < (xs.length : Int) := by omega
    clear h9
    gi_wp2_with fail
    refine ⟨trivial, (callsIn_wide.2 (back_any _ _ _ _)).mono ?_⟩
    rintro e w' ⟨rfl, rfl⟩
    gi_wp2
    have bS := Boxed.new w 86 (.int .u64 0)
    have bN := Boxed.new (w.alloc (.cells #[.int .u64 0] 86)) 24 (.slice a xs.length cap)
    rw [World.size_alloc] at bN
    have hB0 : Below w.heap.size w ((w.alloc (.cells #[.int .u64 0] 86)).alloc (.cells #[.slice a xs.length cap] 24)) := ((Below.refl _ w).alloc (Nat.le_refl _) _).alloc (by simp) _
    obtain ⟨b, hbw, hI⟩ : ∃ b, b < w.heap.size + 1 + 1 ∧ b ≠ w.heap.size ∧ (xs ≠ [] → ∃ off, a = some ⟨b, off, none⟩ ∧ At ((w.alloc (.cells #[.int .u64 0] 86)).alloc (.cells #[.slice a xs.length cap] 24)) b off xs) := by
      by_cases hne : xs = []
      · exact ⟨w.heap.size + 1, by omega, by omega, fun h => absurd hne h⟩
      · obtain ⟨b, off, e, hb, hc⟩ := hat hne
        exact ⟨b, by omega, by omega, fun _ => ⟨off, e, fun j hj => (hB0.cell (p := ⟨b, off + j, none⟩) hb).trans (hc j hj)⟩⟩
    obtain ⟨hbn, hI⟩ := hI
    refine wpIn_rangeFunc_ownG rfl (by decide) (gf := 100) (lb := #[.pointer (some ⟨w.heap.size + 1, 0, none⟩)]) rfl trivial (enters_of Tryz.func100 (by kernel_rfl) rfl)
      (back_stops (w.heap.size + 1) b a cap xs (by omega) _ (by simp) (by simp; omega) bN.cell hI) kp2_t (kp2_b (by simp) (by simp; omega)) (Below.refl _ _) (fun _ => rfl)
      (fun pre W => (W.cell? ⟨w.heap.size, 0, none⟩ = some (.int .u64 (accU xs pre)) ∧ W.frozen? ⟨w.heap.size, 0, none⟩ = false) ∧ Below w.heap.size w W)
      (fun _ _ _ => False)
      (OwnFrom.and (Own.from (fun s A B row hs hg hr => ⟨cell_kept hs.1 hg hr, (frozen_kept hs.1 hg hr).trans hs.2⟩) _) (ownFrom_below (Nat.le_refl _) (by simp; omega)))
      (fun _ _ _ _ _ hs _ _ => hs)
      ⟨⟨(bS.alloc _).cell, (bS.alloc _).frozen⟩, hB0⟩
      (fun x => { tmps := #[.slice a xs.length cap, undef, .int .u64 0, .bool false, .pointer (some ⟨w.heap.size, 0, none⟩), undef, .int .u32 (dg xs x.1), .slice a xs.length cap, .int .i64 xs.length, .bool false, .bool false, .slice a xs.length cap, .int .i64 xs.length, .bool false, .bool false, undef, undef, undef, undef, .bool false, .bool false, .slice a xs.length cap, .func (.func 100) #[] #[.pointer (some ⟨w.heap.size + 1, 0, none⟩)], .int .i64 (x.1 : Int), .int .u32 (dg xs x.1), undef, undef, undef, undef, undef, undef], defers := [] }) ?assign ?body ?done ?stop
    case assign =>
      intro l x W K hK
      gi_wp2
      exact hK
    case body =>
      rintro l pre x W ⟨⟨hc, hf⟩, hB⟩ _
      obtain ⟨hd0, hd1⟩ := hd.dg x.1
      have hacc := accU_bd xs pre
      gi_wp2
      refine ⟨(KeepsOthers.setCell _ _ _).from _, (Kp2.refl _ _ _).setCell (by simp) (by simpa using hbn) _, ⟨?_, by rw [World.frozen?_setCell]; exact hf⟩, hB.setCell (p := ⟨w.heap.size, 0, none⟩) (Nat.le_refl _) _⟩
      rw [accU_snoc, World.cell?_setCell_same _ _ _ hc]
      congr 2
      simp only [IntKind.wrap_u64]
      omega
    case done =>
      rintro D ys W hD rfl ⟨⟨hc, _⟩, hB⟩ hK
      gi_wp2
      refine ⟨by simp, .inl ⟨_, _, rfl, run_takeDeferred hK, ?_⟩⟩
      refine ⟨_, results_tmp2 rfl _ _ _, ?_, hB.trans (belowK_b (w := w) (Nat.le_refl _) W D _ _ (by simp at hD; omega) hK rfl rfl)⟩
      have e : accU xs (dn xs.length) = val xs := by rw [accU_all]; have := val_nonneg hd; omega
      rw [← e]
      rfl
    case stop =>
      rintro D c pre W _ _ h _
      exact h.elim

end Go.Proofs.YtlcfldkmojpkpaaGreatDoor
