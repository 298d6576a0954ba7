/- The walk of cmpMag: which of two magnitudes is greater. -/
import Derived.Test.YtlcfldkmojpkpaaGreatDoorG
namespace Go.Proofs.YtlcfldkmojpkpaaGreatDoor
open Go.RowKit Go.Shelf
attribute [local go_sem] Oper.semAt_some

theorem mem_dn_take (n k j : Nat) (hk : k ≤ n) (hj : j < n) (h : n - k ≤ j) : (⟨j, hj⟩ : Fin n) ∈ (dn n).take k := by
  induction k with
  | zero => omega
  | succ k ih =>
    rw [dn_take_succ n k (by omega)]
    by_cases e : j = n - 1 - k
    · subst e; simp
    · exact List.mem_append_left _ (ih (by omega) (by omega))
theorem val_lt_of_len {xs ys : List Int} (hx : Dig xs) (hy : Dig ys) (ny : Norm ys) (h : xs.length < ys.length) : val xs < val ys := by
  have h1 := val_lt hx
  have h2 := le_val hy ny (by intro e; subst e; simp at h)
  have h3 : pw xs.length ≤ pw (ys.length - 1) := pw_mono (by omega)
  omega
theorem val_split (xs : List Int) (k : Nat) (hk : k < xs.length) : val xs = val (xs.take k) + pw k * dg xs k + pw (k + 1) * val (xs.drop (k + 1)) := by
  have h1 := val_append (xs.take (k + 1)) (xs.drop (k + 1))
  rw [List.take_append_drop, List.length_take, Nat.min_eq_left (by omega), val_take_succ xs k hk] at h1
  exact h1
theorem drop_eq {xs ys : List Int} (hl : xs.length = ys.length) (k : Nat) (h : ∀ j, k ≤ j → j < xs.length → dg xs j = dg ys j) : xs.drop k = ys.drop k := by
  apply List.ext_getElem
  · simp [hl]
  · intro i h1 h2
    have := h (k + i) (by omega) (by simp at h1; omega)
    simp only [dg] at this
    rw [List.getElem?_eq_getElem (by simp at h1; omega), List.getElem?_eq_getElem (by simp at h1; omega)] at this
    simpa using this
theorem cmp_digit {xs ys : List Int} (hx : Dig xs) (hy : Dig ys) (hl : xs.length = ys.length) (k : Nat) (hk : k < xs.length) (h : ∀ j, k + 1 ≤ j → j < xs.length → dg xs j = dg ys j) (hlt : dg xs k < dg ys k) : val xs < val ys := by
  have h1 := val_split xs k hk
  have h2 := val_split ys k (by omega)
  rw [drop_eq hl (k + 1) h] at h1
  have h3 := val_lt (hx.take k)
  have h4 := val_nonneg (hy.take k)
  rw [List.length_take, Nat.min_eq_left (by omega)] at h3
  have h5 := Int.mul_le_mul_of_nonneg_left (show dg xs k + 1 ≤ dg ys k by omega) (Int.le_of_lt (pw_pos k))
  rw [Int.mul_add] at h5
  omega
theorem cmpI_lt {x y : Int} (h : x < y) : cmpI x y = -1 := by unfold cmpI; rw [if_pos h]
theorem cmpI_gt {x y : Int} (h : y < x) : cmpI x y = 1 := by unfold cmpI; rw [if_neg (by omega), if_pos h]
theorem cmpI_eq {x y : Int} (h : x = y) : cmpI x y = 0 := by unfold cmpI; rw [if_neg (by omega), if_neg (by omega)]

set_option maxHeartbeats 400000 in
theorem cmpMag_len (ax ay : Option Addr) (capx capy : Nat) (xs ys : List Int) (w : World) (hdx : Dig xs) (hdy : Dig ys) (hnx : Norm xs) (hny : Norm ys) (_hlx : xs.length ≤ 100000) (_hly : ys.length ≤ 100000) (hne : xs.length ≠ ys.length) :
    Calls Tryz.prog 60 #[.slice ax xs.length capx, .slice ay ys.length capy] w fun e w' => e = .returned (.int .i64 (cmpI (val xs) (val ys))) ∧ Below w.heap.size w w' := by
  have hq : ((xs.length : Int) != (ys.length : Int)) = true := by rw [bne_iff_ne]; omega
  have hv : cmpI (xs.length : Int) (ys.length : Int) = cmpI (val xs) (val ys) := by
    rcases Nat.lt_or_gt_of_ne hne with h | h
    · rw [cmpI_lt (by omega), cmpI_lt (val_lt_of_len hdx hdy hny h)]
    · rw [cmpI_gt (by omega), cmpI_gt (val_lt_of_len hdy hdx hnx h)]
  have HV := hide hv
  clear hv
  go_enter Tryz.func60, Tryz.ntmps60
  go_wp2_with fail
  refine (cmpInt_any _ _ _).mono ?_
  rintro e w1 ⟨rfl, hw1⟩
  subst hw1
  go_wp2
  refine bodyPost_ret (v := .int .i64 (cmpI (xs.length : Int) (ys.length : Int))) ?_ rfl ?_
  · simp [results, Tryz.results60, go_sem]
  · exact ⟨ret_int (unhide HV), ((Below.refl _ _).alloc (Nat.le_refl _) _).alloc (by simp) _⟩

set_option maxRecDepth 100000 in
set_option maxHeartbeats 1000000 in
theorem cmpMag_same (ax ay : Option Addr) (capx capy : Nat) (xs ys : List Int) (w : World) (hdx : Dig xs) (hdy : Dig ys) (hlx : xs.length ≤ 100000) (hl : xs.length = ys.length)
    (hatx : xs ≠ [] → ∃ b off, ax = some ⟨b, off, none⟩ ∧ b < w.heap.size ∧ At w b off xs) (haty : ys ≠ [] → ∃ b off, ay = some ⟨b, off, none⟩ ∧ b < w.heap.size ∧ At w b off ys) :
    Calls Tryz.prog 60 #[.slice ax xs.length capx, .slice ay ys.length capy] w fun e w' => e = .returned (.int .i64 (cmpI (val xs) (val ys))) ∧ Below w.heap.size w w' := by
  have hq : ((xs.length : Int) != (ys.length : Int)) = false := by simp [hl]
  refine (callsIn_wide (n := 10)).1 ?_
  refine callsIn_of_wp_marks Tryz.func60 rfl trivial ?_ rfl
  simp only [Tryz.ntmps60, List.size_toArray, List.length_cons, List.length_nil, Nat.reduceAdd, Nat.reduceSub, Array.replicate_succ, Array.replicate_zero, List.push_toArray, List.append_toArray, List.nil_append, List.cons_append]
  have HL := hide hl
  clear hl
  gi_wp2_with fail
  refine ⟨trivial, (callsIn_wide.2 (back_any _ _ _ _)).mono ?_⟩
  rintro e w' ⟨rfl, rfl⟩
  gi_wp2
  have bY := Boxed.new w 24 (.slice ay ys.length capy)
  have bR := Boxed.new (w.alloc (.cells #[.slice ay ys.length capy] 24)) 3 (.int .i64 0)
  have bN := Boxed.new ((w.alloc (.cells #[.slice ay ys.length capy] 24)).alloc (.cells #[.int .i64 0] 3)) 24 (.slice ax xs.length capx)
  simp only [World.size_alloc] at bR bN
  have hB0 : Below w.heap.size w (((w.alloc (.cells #[.slice ay ys.length capy] 24)).alloc (.cells #[.int .i64 0] 3)).alloc (.cells #[.slice ax xs.length capx] 24)) := (((Below.refl _ w).alloc (Nat.le_refl _) _).alloc (by simp) _).alloc (by simp <;> omega) _
  obtain ⟨b, hbw, hbn, hI⟩ : ∃ b, b < w.heap.size + 1 + 1 + 1 ∧ b ≠ w.heap.size + 1 ∧ (xs ≠ [] → ∃ off, ax = some ⟨b, off, none⟩ ∧ At (((w.alloc (.cells #[.slice ay ys.length capy] 24)).alloc (.cells #[.int .i64 0] 3)).alloc (.cells #[.slice ax xs.length capx] 24)) b off xs) := by
    by_cases hne : xs = []
    · exact ⟨w.heap.size + 1 + 1, by omega, by omega, fun h => absurd hne h⟩
    · obtain ⟨b, off, e, hb, hc⟩ := hatx hne
      exact ⟨b, by omega, by omega, fun _ => ⟨off, e, fun j hj => (hB0.cell (p := ⟨b, off + j, none⟩) hb).trans (hc j hj)⟩⟩
  refine wpIn_rangeFunc_ownG rfl (by decide) (gf := 100) (lb := #[.pointer (some ⟨w.heap.size + 1 + 1, 0, none⟩)]) rfl trivial (enters_of Tryz.func100 (by kernel_rfl) rfl)
    (back_stops (w.heap.size + 1 + 1) b ax capx xs (by omega) _ (by simp) (by simp; omega) bN.cell hI) kp2_t (kp2_b (by simp) (by simp; omega)) (Below.refl _ _) (fun _ => rfl)
    (fun pre W => ((∀ i ∈ pre, dg xs i.1 = dg ys i.1) ∧ W.cell? ⟨w.heap.size, 0, none⟩ = some (.slice ay ys.length capy) ∧ W.cell? ⟨w.heap.size + 1, 0, none⟩ = some (.int .i64 0) ∧ W.frozen? ⟨w.heap.size + 1, 0, none⟩ = false) ∧ Below w.heap.size w W)
    (fun c pre W => (c = .ret ∧ ∃ ini last, pre = ini ++ [last] ∧ (∀ i ∈ ini, dg xs i.1 = dg ys i.1) ∧ dg xs last.1 ≠ dg ys last.1 ∧ W.cell? ⟨w.heap.size + 1, 0, none⟩ = some (.int .i64 (cmpI (dg xs last.1) (dg ys last.1)))) ∧ Below w.heap.size w W)
    (OwnFrom.and (Own.from (fun s A B row hs hg hr => ⟨hs.1, cell_kept hs.2.1 hg hr, cell_kept hs.2.2.1 hg hr, (frozen_kept hs.2.2.1 hg hr).trans hs.2.2.2⟩) _) (ownFrom_below (Nat.le_refl _) (by simp; omega)))
    (fun c => OwnFrom.and (Own.from (fun s A B row hs hg hr => by obtain ⟨hc, ini, last, e1, e2, e3, e4⟩ := hs; exact ⟨hc, ini, last, e1, e2, e3, cell_kept e4 hg hr⟩) _) (ownFrom_below (Nat.le_refl _) (by simp; omega)))
    ⟨⟨by simp, ((bY.alloc _).alloc _).cell, (bR.alloc _).cell, (bR.alloc _).frozen⟩, hB0⟩
    (fun x => { tmps := #[.slice ax xs.length capx, .slice ay ys.length capy, undef, .pointer (some ⟨w.heap.size, 0, none⟩), .pointer (some ⟨w.heap.size + 1, 0, none⟩), .int .i64 (x.1 : Int), .int .u32 (dg xs x.1), .slice ax xs.length capx, .int .i64 xs.length, .slice ay ys.length capy, .int .i64 ys.length, .bool false, undef, undef, undef, undef, undef, .slice ax xs.length capx, .func (.func 100) #[] #[.pointer (some ⟨w.heap.size + 1 + 1, 0, none⟩)], .int .i64 (x.1 : Int), .int .u32 (dg xs x.1), undef, undef, undef, undef, undef, undef, undef, undef, undef, undef, undef, undef], defers := [] }) ?assign ?body ?done ?stop
  case assign =>
    intro l x W K hK
    gi_wp2
    exact hK
  case body =>
    rintro l pre x W ⟨⟨hp, hcy, hcr, hfr⟩, hB⟩ _
    have hxl : x.1 < ys.length := by rw [← unhide HL]; exact x.2
    obtain ⟨yb, yo, rfl, hyb, hya⟩ := haty (by intro e; subst e; simp at hxl)
    have hcyk : W.cell? ⟨yb, yo + x.1, none⟩ = some (.int .u32 (dg ys x.1)) := (hB.cell (p := ⟨yb, yo + x.1, none⟩) hyb).trans (hya x.1 hxl)
    by_cases he : dg xs x.1 = dg ys x.1
    · have he' : (dg xs x.1 != dg ys x.1) = false := by simp [he]
      have HE := hide he
      clear he
      gi_wp2
      exact ⟨KeepsFrom.refl _ _, Kp2.refl _ _ _, ⟨fun p hp' => (List.mem_append.1 hp').elim (hp p) (fun e => by simp at e; subst e; exact unhide HE), hcy, hcr, hfr⟩, hB⟩
    · have he' : (dg xs x.1 != dg ys x.1) = true := by simp [he]
      gi_wp2_with fail
      refine ⟨trivial, (CallsIn.inRound l (callsIn_wide.2 (cmp32_any _ _ _))).mono ?_⟩
      rintro e w1 ⟨rfl, hw1⟩
      subst hw1
      gi_wp2
      exact ⟨(KeepsOthers.setCell _ _ _).from _, ⟨rfl, pre, x, rfl, hp, he, World.cell?_setCell_same' _ _ _ (by rw [hcr]; rfl)⟩, hB.setCell (p := ⟨w.heap.size + 1, 0, none⟩) (by simp) _⟩
  case done =>
    rintro D ys' W hD rfl ⟨⟨hne, hcy, hcr, hfr⟩, hB⟩ hK
    gi_wp2
    have hK' := (KeepsOthers.setCell W ⟨w.heap.size + 1, 0, none⟩ (.int .i64 0)).same D _ hK rfl
    refine ⟨by simp, .inl ⟨_, _, rfl, run_takeDeferred hK', ?_⟩⟩
    have hc5 := cell_kept (World.cell?_setCell_same' W ⟨w.heap.size + 1, 0, none⟩ (.int .i64 0) (by rw [hcr]; rfl)) (grownBy_putObj' _ D (.deferred none)) (fun r e => by cases e; exact ⟨_, hK', rfl⟩)
    have hv : val xs = val ys := by
      have := drop_eq (unhide HL) 0 (fun j _ hj => hne ⟨j, hj⟩ (by have := mem_dn_take xs.length xs.length j (Nat.le_refl _) hj (by omega); rwa [List.take_of_length_le (by rw [dn_length]; omega)] at this))
      simp only [List.drop_zero] at this
      rw [this]
    refine ⟨.int .i64 0, ?_, by rw [cmpI_eq hv], (hB.setCell (p := ⟨w.heap.size + 1, 0, none⟩) (by simp) _).trans (belowK_b (w := w) (Nat.le_refl _) _ D _ _ (by simp at hD; omega) hK' rfl rfl)⟩
    simp [results, Tryz.f60, go_sem, hc5]
  case stop =>
    rintro D c pre W hD ⟨k, hk, rfl⟩ ⟨⟨rfl, ini, last, e1, e2, e3, hcr⟩, hB⟩ hK
    gi_wp2
    refine ⟨by simp, .inl ⟨_, _, rfl, run_takeDeferred hK, ?_⟩⟩
    have hc5 := cell_kept hcr (grownBy_putObj' _ D (.deferred none)) (fun r e => by cases e; exact ⟨_, hK, rfl⟩)
    obtain ⟨k', rfl⟩ : ∃ k', k = k' + 1 := by
      cases k with
      | zero => simp at e1
      | succ k' => exact ⟨k', rfl⟩
    rw [dn_take_succ _ _ (by omega)] at e1
    obtain ⟨rfl, e5⟩ := List.append_inj' e1 rfl
    obtain rfl : (⟨xs.length - 1 - k', by omega⟩ : Fin xs.length) = last := by simpa using e5
    have hup : ∀ j, xs.length - 1 - k' + 1 ≤ j → j < xs.length → dg xs j = dg ys j := fun j h1 h2 => e2 ⟨j, h2⟩ (mem_dn_take _ _ _ (by omega) h2 (by omega))
    have hv : cmpI (dg xs (xs.length - 1 - k')) (dg ys (xs.length - 1 - k')) = cmpI (val xs) (val ys) := by
      rcases Int.lt_or_gt_of_ne e3 with h | h
      · rw [cmpI_lt h, cmpI_lt (cmp_digit hdx hdy (unhide HL) _ (by omega) hup h)]
      · rw [cmpI_gt h, cmpI_gt (cmp_digit hdy hdx (unhide HL).symm _ (by rw [← unhide HL]; omega) (fun j h1 h2 => (hup j h1 (by rw [unhide HL]; exact h2)).symm) h)]
    refine ⟨.int .i64 (cmpI (val xs) (val ys)), ?_, rfl, hB.trans (belowK_b (w := w) (Nat.le_refl _) W D _ _ (by simp at hD; omega) hK rfl rfl)⟩
    rw [← hv]
    simp [results, Tryz.f60, go_sem, hc5]

/-- Which of two magnitudes is greater. -/
theorem cmpMag_any (vx vy : Value) (xs ys : List Int) (w : World) (hmx : Mg w vx xs) (hmy : Mg w vy ys) (hdx : Dig xs) (hdy : Dig ys) (hnx : Norm xs) (hny : Norm ys) (hlx : xs.length ≤ 100000) (hly : ys.length ≤ 100000) :
    Calls Tryz.prog 60 #[vx, vy] w fun e w' => e = .returned (.int .i64 (cmpI (val xs) (val ys))) ∧ Below w.heap.size w w' := by
  obtain ⟨ax, capx, rfl, _, hax⟩ := hmx
  obtain ⟨ay, capy, rfl, _, hay⟩ := hmy
  by_cases hl : xs.length = ys.length
  · exact cmpMag_same ax ay capx capy xs ys w hdx hdy hlx hl hax hay
  · exact cmpMag_len ax ay capx capy xs ys w hdx hdy hnx hny hlx hly hl

end Go.Proofs.YtlcfldkmojpkpaaGreatDoor
