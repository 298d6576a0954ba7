/- avowlaw7: RupChains, its walk. -/
import Derived.Test.YtmkkhpoedlbafaaQZa
set_option linter.unusedVariables false
set_option linter.unusedSimpArgs false

namespace Go.Proofs.Ytmkkhpoedlbafaa
open Go Go.RowKit Go.Sort
theorem lsT_succ (p N t : Nat) : lsT p N (t + 1) = lsT p N t ++ [[-(kk p N (t + 1) : Int), (kk p N (t + 1) : Int) + 1]] := rfl
theorem msT_yes {p N G t : Nat} (h : kk p N (t + 1) ≠ G + 1) : msT p N G (t + 1) = msT p N G t ++ [[(kk p N (t + 1) : Int) + 1, -(kk p N (t + 1) : Int)]] := by rw [msT, if_neg h]
theorem msT_no {p N G t : Nat} (h : kk p N (t + 1) = G + 1) : msT p N G (t + 1) = msT p N G t := by rw [msT, if_pos h]
set_option maxRecDepth 100000 in
set_option maxHeartbeats 16000000 in
theorem rupchains_walk (a0 a1 a2 : Int) (w : World) : Calls Try.prog 7 #[.int .i64 a0, .int .i64 a1, .int .i64 a2] w (YesPost w) := by
  have r0 := plc_rng (k := a0) (n := 60) (by omega)
  obtain ⟨P, hP⟩ : ∃ P : Nat, plc a0 60 = P := ⟨(plc a0 60).toNat, by omega⟩
  obtain ⟨N, hN⟩ : ∃ N : Nat, N = P + 1 := ⟨_, rfl⟩
  obtain ⟨n, hn⟩ : ∃ n : Nat, n = N + 1 := ⟨_, rfl⟩
  have r1 := plc_rng (k := a1) (n := (N : Int)) (by omega)
  obtain ⟨G, hG⟩ : ∃ G : Nat, plc a1 N = G := ⟨(plc a1 N).toNat, by omega⟩
  have r2 := plc_rng (k := a2) (n := (n : Int)) (by omega)
  obtain ⟨p, hp⟩ : ∃ p : Nat, plc a2 n = p := ⟨(plc a2 n).toNat, by omega⟩
  have HP0 : Hid (∀ W, Calls Try.prog 11 #[.int .i64 a0, .int .i64 60] W fun e w' => e = .returned (.int .i64 (P : Int)) ∧ w' = W) := fun W => by
    have := place_any a0 60 W (by omega) (by omega)
    rw [hP] at this; exact this
  have HP1 : Hid (∀ W, Calls Try.prog 11 #[.int .i64 a1, .int .i64 (N : Int)] W fun e w' => e = .returned (.int .i64 (G : Int)) ∧ w' = W) := fun W => by
    have := place_any a1 N W (by omega) (by omega)
    rw [hG] at this; exact this
  have HP2 : Hid (∀ W, Calls Try.prog 11 #[.int .i64 a2, .int .i64 (n : Int)] W fun e w' => e = .returned (.int .i64 (p : Int)) ∧ w' = W) := fun W => by
    have := place_any a2 n W (by omega) (by omega)
    rw [hp] at this; exact this
  have HB : Hid (1 ≤ N ∧ N ≤ 60 ∧ n = N + 1 ∧ G < N ∧ p < n) := ⟨by omega, by omega, hn, by omega, by omega⟩
  have e1 : IntKind.i64.wrap (2 + (P : Int)) = (n : Int) := by rw [IntKind.wrap_i64]; omega
  have e2 : IntKind.i64.wrap ((n : Int) - 1) = (N : Int) := by rw [IntKind.wrap_i64]; omega
  have e3 : IntKind.i64.wrap (-(n : Int)) = -(n : Int) := by rw [IntKind.wrap_i64]; omega
  have n0 : ¬ (N : Int) = 0 := by omega
  have n1 : ((N : Int) == 0) = false := by simp; omega
  have hnb : (n : Int) ≤ 61 := by omega
  have hn2 : (2 : Int) ≤ (n : Int) := by omega
  clear r0 r1 r2 hP hG hp hN hn
  go_enter Try.func7, Try.ntmps7
  go_wp2_with fail
  refine (known_any w).mono ?_
  rintro e w1 ⟨rfl, hb1⟩
  have HB1 := hide hb1
  clear hb1
  have H0 : Hid (CI w1 w1 (.slice none 0 0) (.slice none 0 0) (lsT p N 0) (msT p N G 0) [] []) := ⟨own_nil _ _ _, own_nil _ _ _, El.nil _, El.nil _, fun g h => (by cases h), Below.refl _ _⟩
  go_wp2_with fail
  refine (unhide HP0 _).mono ?_
  rintro e w' ⟨rfl, h'⟩
  replace h' := h'.symm
  subst h'
  go_wp2_with fail
  refine (unhide HP1 _).mono ?_
  rintro e w' ⟨rfl, h'⟩
  replace h' := h'.symm
  subst h'
  go_wp2
  go_loopw [7, 8, 9] (fun lv mv iv w' => ∃ (i t : Nat) (us ums : List Value), Hid (i = t + 1) ∧ iv = .int .i64 i ∧ i ≤ n ∧ CI w1 w' lv mv (lsT p N t) (msT p N G t) us ums) (fun _ _ iv _ => n - (intOf iv).toNat)
  case atStart => exact ⟨1, 0, [], [], rfl, rfl, by omega, unhide H0⟩
  case round =>
    obtain ⟨i, t, us, ums, hit, rfl, hi0, hc⟩ := hrel
    clear H0
    obtain ⟨b1, b2, b3, b4, b5⟩ := unhide HB
    have hitt := unhide hit
    by_cases hi : i < n
    · obtain ⟨s, hs⟩ : ∃ s : Nat, s = i + p := ⟨_, rfl⟩
      obtain ⟨q, hq⟩ : ∃ q : Nat, q = s % N := ⟨_, rfl⟩
      obtain ⟨k, hk⟩ : ∃ k : Nat, k = kk p N (t + 1) := ⟨_, rfl⟩
      have hqN : q < N := by rw [hq]; exact Nat.mod_lt _ (by omega)
      have hkq : k = 1 + q := by rw [hk, hq, hs, hitt]; rfl
      have f1 : IntKind.i64.wrap ((i : Int) + (p : Int)) = (s : Int) := by rw [IntKind.wrap_i64]; omega
      have f2 : Int.tmod (s : Int) (N : Int) = (q : Int) := by rw [hq]; rfl
      have f3 : IntKind.i64.wrap (q : Int) = (q : Int) := by rw [IntKind.wrap_i64]; omega
      have f4 : IntKind.i64.wrap (1 + (q : Int)) = (k : Int) := by rw [IntKind.wrap_i64]; omega
      have f5 : IntKind.i64.wrap (-(k : Int)) = -(k : Int) := by rw [IntKind.wrap_i64]; omega
      have f6 : IntKind.i64.wrap ((k : Int) + 1) = (k : Int) + 1 := by rw [IntKind.wrap_i64]; omega
      have f7 : IntKind.i64.wrap ((k : Int) - 1) = (k : Int) - 1 := by rw [IntKind.wrap_i64]; omega
      have hll := lsT_len p N t
      have hml := msT_len p N G t
      obtain ⟨v1, w2, r1, c2⟩ := hc.push (-(k : Int)) ((k : Int) + 1) (by omega) (by omega) (by omega)
      rw [show lsT p N t ++ [[-(k : Int), (k : Int) + 1]] = lsT p N (t + 1) by rw [lsT_succ, hk]] at c2
      have R1 := hide r1
      have i1 : (0 : Int) ≤ (i : Int) := by omega
      have i2 : (i : Int) < (n : Int) := by omega
      by_cases hg : k = G + 1
      · have hne : ((k : Int) - 1 != (G : Int)) = false := by simp; omega
        rw [show msT p N G t = msT p N G (t + 1) from (msT_no (by rw [← hk]; exact hg)).symm] at c2
        have HE := hide c2
        clear hc c2 r1 hll hml hg hk hq hs hqN hkq hitt b1 b2 b3 b4 b5
        go_wp2_with (first
          | (go_at_call 11; refine (unhide HP2 _).mono ?_; intro e w' h'; obtain ⟨rfl, h'⟩ := h'; replace h' := h'.symm; subst h')
          | (at_builtin; refine app_run _ _ _ rfl rfl rfl rfl (unhide R1) ?_; clear R1))
        exact ⟨⟨i + 1, t + 1, _, _, by show _ = _; rw [unhide hit], by simp, by omega, unhide HE⟩, by simp [intOf]; omega⟩
      · have hne : ((k : Int) - 1 != (G : Int)) = true := by simp; omega
        obtain ⟨v2, w3, r2, c3⟩ := c2.swap.push ((k : Int) + 1) (-(k : Int)) (by omega) (by omega) (by omega)
        rw [show msT p N G t ++ [[(k : Int) + 1, -(k : Int)]] = msT p N G (t + 1) by rw [msT_yes (by rw [← hk]; exact hg), ← hk]] at c3
        have HE := hide c3.swap
        have R2 := hide r2
        clear hc c2 c3 r1 r2 hll hml hg hk hq hs hqN hkq hitt b1 b2 b3 b4 b5
        go_wp2_with (first
          | (go_at_call 11; refine (unhide HP2 _).mono ?_; intro e w' h'; obtain ⟨rfl, h'⟩ := h'; replace h' := h'.symm; subst h')
          | (at_builtin; refine app_run _ _ _ rfl rfl rfl rfl (unhide R1) ?_; clear R1)
          | (at_builtin; refine app_run _ _ _ rfl rfl rfl rfl (unhide R2) ?_; clear R2))
        exact ⟨⟨i + 1, t + 1, _, _, by show _ = _; rw [unhide hit], by simp, by omega, unhide HE⟩, by simp [intOf]; omega⟩
    · have hf : decide ((i : Int) < (n : Int)) = false := by simp; omega
      have hle : (n : Int) ≤ (i : Int) := by omega
      have htN : t = N := by omega
      subst htN
      have hll := lsT_len p t t
      have hml := msT_len p t G t
      have HY : Hid (∀ W lv mv, CI w1 W lv mv (lsT p t t) (msT p t G t) us ums → Calls Try.prog 13 #[lv, .slice (some ⟨W.heap.size, 0, none⟩) 2 2] (W.alloc (.cells #[.int .i64 (-1), .int .i64 (n : Int)] 3)) fun e w' => e = .returned (.bool true) ∧ CI w1 w' lv mv (lsT p t t) (msT p t G t) us ums) := fun W lv mv h => by
        have hb := (Below.refl W.heap.size W).alloc (Nat.le_refl _) (.cells #[.int .i64 (-1), .int .i64 (n : Int)] 3)
        have h2 := h.below hb
        refine (rFollows_any _ lv _ (lsT p t t) [-1, (n : Int)] (h2.sl ls_two) (Sl.at (xs := [-1, (n : Int)]) (heap_alloc_new W _) (by simp) (Nat.le_refl _) (by simp) (fun x hx => by simp at hx; omega)) (by simp; omega)).mono ?_
        rintro e w' ⟨b, rfl, h3, h4⟩
        have e : (n : Int) = (t : Int) + 1 := by omega
        have : b = true := h3.2 (by rw [e]; exact chain_yes b1 (by omega))
        subst this
        exact ⟨rfl, h2.below h4⟩
      have HNo : Hid (∀ W lv mv, CI w1 W lv mv (lsT p t t) (msT p t G t) us ums → Calls Try.prog 13 #[mv, .slice (some ⟨W.heap.size, 0, none⟩) 2 2] (W.alloc (.cells #[.int .i64 (-1), .int .i64 (n : Int)] 3)) fun e w' => e = .returned (.bool false) ∧ CI w1 w' lv mv (lsT p t t) (msT p t G t) us ums) := fun W lv mv h => by
        have hb := (Below.refl W.heap.size W).alloc (Nat.le_refl _) (.cells #[.int .i64 (-1), .int .i64 (n : Int)] 3)
        have h2 := h.below hb
        refine (rFollows_any _ mv _ (msT p t G t) [-1, (n : Int)] (h2.swap.sl ms_two) (Sl.at (xs := [-1, (n : Int)]) (heap_alloc_new W _) (by simp) (Nat.le_refl _) (by simp) (fun x hx => by simp at hx; omega)) (by simp; omega)).mono ?_
        rintro e w' ⟨b, rfl, h3, h4⟩
        have e : (n : Int) = (t : Int) + 1 := by omega
        have : b = false := by
          cases b with
          | false => rfl
          | true =>
            have h5 := h3.1 rfl
            rw [e] at h5
            exact absurd h5 (chain_no b1 b4)
        subst this
        exact ⟨rfl, h2.below h4⟩
      have HEn : Hid (∀ W lv mv, CI w1 W lv mv (lsT p t t) (msT p t G t) us ums → ∃ v' w', (Builtin.append_ #[22, 22] 22 #[lv, .slice (some ⟨W.heap.size + 1 + 1, 0, none⟩) 2 2]).run Try.prog (((W.alloc (.cells #[.int .i64 1] 3)).alloc (.cells #[.int .i64 (-(n : Int))] 3)).alloc (.cells #[.slice (some ⟨W.heap.size, 0, none⟩) 1 1, .slice (some ⟨W.heap.size + 1, 0, none⟩) 1 1] 23)) = .ok v' w' ∧ Calls Try.prog 13 #[v', .slice none 0 0] w' fun e w2 => e = .returned (.bool true) ∧ Below w1.heap.size w1 w2) := fun W lv mv h => by
        obtain ⟨v', w', r, s', b'⟩ := h.ends (-(n : Int)) (by omega) (by omega) ls_two
        refine ⟨v', w', r, (rFollows_any w' v' _ _ [] s' (Sl.nil _ _) (by rw [tot_app]; simp [tot] at hll ⊢; omega)).mono ?_⟩
        rintro e w2 ⟨b, rfl, h3, h4⟩
        have e : (n : Int) = (t : Int) + 1 := by omega
        have : b = true := h3.2 (by rw [e]; exact chain_ends b1 (by omega))
        subst this
        exact ⟨rfl, b'.trans (h4.mono b'.size)⟩
      have HC := hide hc
      clear hc hll hml b1 b2 b3 b4 b5 hitt HP0 HP1 HP2
      go_wp2_with (first
        | (at_builtin; refine app_run _ _ _ rfl rfl rfl rfl (unhide R9) ?_; clear R9)
        | (go_at_call 13; refine (unhide HC9).mono ?_; intro e w9 h9; obtain ⟨rfl, h9⟩ := h9; have H9 := hide h9; clear h9)
        | (go_at_call 13; refine (unhide HNo w7 _ _ (unhide H7)).mono ?_; intro e w8 h8; obtain ⟨rfl, h8⟩ := h8; obtain ⟨v9, w9, r9, c9⟩ := unhide HEn w8 _ _ h8; have R9 := hide r9; have HC9 := hide c9; clear h8 r9 c9)
        | (go_at_call 13; refine (unhide HY _ _ _ (unhide HC)).mono ?_; intro e w7 h7; obtain ⟨rfl, h7⟩ := h7; have H7 := hide h7; clear h7))
      go_ret
      exact ⟨by simp, (unhide HB1).trans ((unhide H9).mono (unhide HB1).size)⟩
end Go.Proofs.Ytmkkhpoedlbafaa
