/- avowlaw7: RupTrue. -/
import Derived.Test.YtmkkhpoedlbafaaQT
set_option linter.unusedVariables false
set_option linter.unusedSimpArgs false

namespace Go.Proofs.Ytmkkhpoedlbafaa
open Go Go.RowKit Go.Sort

theorem hb_one {q x : Int} (h1 : hb q x = true) (h2 : hb q (-x) = true) : False := by
  unfold hb at h1 h2
  rw [Int.neg_neg] at h2
  simp only [Bool.or_eq_true, Bool.and_eq_true, decide_eq_true_eq, beq_iff_eq] at h1 h2
  rcases h1 with ⟨a, b⟩ | ⟨a, b⟩ <;> rcases h2 with ⟨c, d⟩ | ⟨c, d⟩
  · omega
  · rw [b] at d; cases d
  · rw [b] at d; cases d
  · omega
theorem hb_some {q : Nat} {x : Int} (hq : q < 64) (hx : smallB x = true) : hb q x = true ∨ hb q (-x) = true := by
  have hx3 : x ≠ 0 ∧ x ≤ 6 ∧ -6 ≤ x := by
    unfold smallB at hx
    simp at hx
    omega
  unfold hb
  rw [Int.neg_neg]
  simp only [Bool.or_eq_true, Bool.and_eq_true, decide_eq_true_eq, beq_iff_eq]
  by_cases hp : 0 < x
  · rcases btv_bit q hq (x.toNat - 1) (by omega) with h | h
    · exact .inr (.inr ⟨by omega, h⟩)
    · exact .inl (.inl ⟨hp, h⟩)
  · rcases btv_bit q hq ((-x).toNat - 1) (by omega) with h | h
    · exact .inl (.inr ⟨by omega, h⟩)
    · exact .inr (.inl ⟨by omega, h⟩)
theorem rup_sound {ls : List (List Int)} {xs : List Int} {q : Nat} (h : Fol ls xs) (hq : q < 64) (hs : xs.all smallB = true) (hl : ∀ d ∈ ls, d.any (hb q) = true) : xs.any (hb q) = true := by
  rw [List.any_eq_true]
  refine Fol.sound (V := fun x => hb q x = true) h (fun d hd => List.any_eq_true.1 (hl d hd)) (fun x h1 h2 => hb_one h1 h2) fun x hx => hb_some hq (List.all_eq_true.1 hs x hx)
theorem Sl3.at {W : World} {B g cap fr1 fr2 : Nat} {t : TypeId} {vs : List Value} {lls : List (List (List Int))} (h : W.heap[g]? = some (.cells vs.toArray t (fr1, fr2))) (hl : vs.length = lls.length) (hm : lls.length ≤ 9223372036854775807) (hx : ∀ (j : Nat) v l, vs[j]? = some v → lls[j]? = some l → Sl2 W B v l) : Sl3 W B (.slice (some ⟨g, 0, none⟩) lls.length cap) lls := by
  refine ⟨_, _, rfl, hm, fun i hi => ?_⟩
  have hi' : i < vs.length := by omega
  exact ⟨g, 0, vs[i], rfl, by simp [World.cell?, h, hi'], hx i _ _ (List.getElem?_eq_getElem hi') (List.getElem?_eq_getElem hi)⟩
/-- What light is handed: a slice of slices, and a lone clause. -/
theorem pack2 {w1 : World} {B n m cap capl : Nat} {a al : Option Addr} {ls : List (List Int)} {xs : List Int} (hB : B ≤ w1.heap.size) (hL : Sl2 w1 B (.slice al m capl) ls) (hS : Sl w1 B (.slice a n cap) xs) :
    Sl3 ((w1.alloc (.cells #[.slice a n cap] 23)).alloc (.cells #[.slice al m capl, .slice (some ⟨w1.heap.size, 0, none⟩) 1 1] 22)) (w1.heap.size + 2) (.slice (some ⟨w1.heap.size + 1, 0, none⟩) 2 2) [ls, [xs]] := by
  have e : (w1.alloc (.cells #[.slice a n cap] 23)).alloc (.cells #[.slice al m capl, .slice (some ⟨w1.heap.size, 0, none⟩) 1 1] 22) = grow w1 #[.cells #[.slice a n cap] 23, .cells #[.slice al m capl, .slice (some ⟨w1.heap.size, 0, none⟩) 1 1] 22] := by
    simp only [alloc_eq_grow, grow_grow]
    rfl
  rw [e]
  have g := fun i hi => grow_at w1 #[.cells #[.slice a n cap] 23, .cells #[.slice al m capl, .slice (some ⟨w1.heap.size, 0, none⟩) 1 1] 22] i hi
  have hb := below_grow w1 #[.cells #[.slice a n cap] 23, .cells #[.slice al m capl, .slice (some ⟨w1.heap.size, 0, none⟩) 1 1] 22]
  generalize grow w1 #[.cells #[.slice a n cap] 23, .cells #[.slice al m capl, .slice (some ⟨w1.heap.size, 0, none⟩) 1 1] 22] = W at g hb
  have hL' := (hL.below (hb.mono hB)).mono (show B ≤ w1.heap.size + 2 by omega)
  have hS' := (hS.below (hb.mono hB)).mono (show B ≤ w1.heap.size + 2 by omega)
  refine Sl3.at (g := w1.heap.size + 1) (cap := 2) (lls := [ls, [xs]]) (vs := [.slice al m capl, .slice (some ⟨w1.heap.size, 0, none⟩) 1 1]) (g 1 (by simp)) rfl (by simp) ?_
  intro j v l h1 h2
  have hj : j = 0 ∨ j = 1 := by
    have := (List.getElem?_eq_some_iff.1 h1).1
    simp at this; omega
  rcases hj with rfl | rfl <;> simp at h1 h2 <;> subst h1 h2
  · exact hL'
  · refine Sl2.at (g := w1.heap.size) (cap := 1) (ls := [xs]) (vs := [.slice a n cap]) (g 0 (by simp)) (by omega) rfl (Nat.le_refl _) (by simp) ?_
    intro j v l h1 h2
    have hj : j = 0 := by
      have := (List.getElem?_eq_some_iff.1 h1).1
      simp at this; omega
    subst hj
    simp at h1 h2
    subst h1 h2
    exact hS'
def YesPost (w : World) (e : Ending) (w' : World) : Prop := e = .returned (.bool true) ∧ Below w.heap.size w w'
theorem all_more {ls : List (List Int)} {i : Nat} {d : List Int} (h : ls[i]? = some d) (p : List Int → Bool) : (ls.take (i + 1)).all p = ((ls.take i).all p && p d) := by
  rw [take_one' h]; simp
set_option maxRecDepth 100000 in
set_option maxHeartbeats 16000000 in
theorem ruptrue_walk (vl v : Value) (ls : List (List Int)) (xs : List Int) (w : World) (hL : Sl2 w w.heap.size vl ls) (hS : Sl w w.heap.size v xs) (hlen : ∀ d ∈ [ls, [xs]], ∀ c ∈ d, c.length ≤ 17592186044416) :
    Calls Try.prog 5 #[vl, v] w (YesPost w) := by
  obtain ⟨B, hB⟩ : ∃ B, w.heap.size = B := ⟨_, rfl⟩
  have hBw : B ≤ w.heap.size := by omega
  rw [hB] at hL hS
  obtain ⟨al, capl, rfl, hmaxl, hcelll⟩ := hL.open
  obtain ⟨a, cap, rfl, hmax, _⟩ := hS.open
  obtain ⟨m, hm⟩ : ∃ m, ls.length = m := ⟨_, rfl⟩
  obtain ⟨n, hn⟩ : ∃ n, xs.length = n := ⟨_, rfl⟩
  rw [hm] at hmaxl hL ⊢
  rw [hn] at hmax hS ⊢
  have HM := hide hm
  have HN := hide hn
  have HL := hide hL
  have HS := hide hS
  have HCL := hide hcelll
  have HLen := hide hlen
  have HBB := hide hB
  clear hL hS hcelll hm hn hlen hB
  go_enter Try.func5, Try.ntmps5
  go_wp2_with fail
  refine (known_any w).mono ?_
  rintro e w1 ⟨rfl, hb1⟩
  go_wp2_with fail
  have hL1 := (unhide HL).below (hb1.mono hBw)
  have hS1 := (unhide HS).below (hb1.mono hBw)
  have hB1 : B ≤ w1.heap.size := Nat.le_trans hBw hb1.size
  have hP := pack2 hB1 hL1 hS1
  have hbW : Below w1.heap.size w1 ((w1.alloc (.cells #[.slice a n cap] 23)).alloc (.cells #[.slice al m capl, .slice (some ⟨w1.heap.size, 0, none⟩) 1 1] 22)) := ((Below.refl _ w1).alloc (Nat.le_refl _) _).alloc (by simp) _
  have hL2 := hL1.below (hbW.mono hB1)
  have hS2 := hS1.below (hbW.mono hB1)
  have hBW := hb1.trans (hbW.mono hb1.size)
  have hBW2 : B ≤ ((w1.alloc (.cells #[.slice a n cap] 23)).alloc (.cells #[.slice al m capl, .slice (some ⟨w1.heap.size, 0, none⟩) 1 1] 22)).heap.size := Nat.le_trans hB1 hbW.size
  refine (light_is _ _ _ _ hP (unhide HLen)).mono ?_
  clear hP hbW hL1 hS1 hb1
  rintro e w2 ⟨bl, rfl, rfl, hbl⟩
  generalize ((w1.alloc (.cells #[.slice a n cap] 23)).alloc (.cells #[.slice al m capl, .slice (some ⟨w1.heap.size, 0, none⟩) 1 1] 22)) = w2 at *
  have H2 := hide (And.intro hL2 (And.intro hS2 hBW))
  have HBl := hide hbl
  clear hL2 hS2 hBW hbl
  cases bl with
  | false =>
    go_wp2
    go_ret
    exact ⟨rfl, (unhide H2).2.2⟩
  | true =>
    have htot : tot ls + xs.length ≤ 100000000 := by
      have := unhide HBl rfl
      simp [totl, tot_one] at this
      omega
    go_wp2_with fail
    refine (rFollows_any w2 _ _ ls xs ((unhide H2).1.mono hBW2) ((unhide H2).2.1.mono hBW2) htot).mono ?_
    rintro e w3 ⟨bf, rfl, hfol, hb3⟩
    have H3 := hide (And.intro ((unhide H2).1.below (hb3.mono hBW2)) (And.intro ((unhide H2).2.1.below (hb3.mono hBW2)) ((unhide H2).2.2.trans (hb3.mono (unhide H2).2.2.size))))
    have HFol := hide hfol
    clear hfol hb3 H2 htot HBl HLen
    cases bf with
    | false =>
      go_wp2
      go_ret
      exact ⟨rfl, (unhide H3).2.2⟩
    | true =>
      have HF := hide ((unhide HFol).1 rfl)
      clear HFol
      go_wp2
      go_loop [5] (fun iv => ∃ i : Nat, i ≤ m ∧ iv = .int .i64 i ∧ Hid (∀ k (hk : k < ls.length), k < i → ls[k].all smallB = true)) (fun iv => m - (intOf iv).toNat)
      case atStart => exact ⟨0, Nat.zero_le _, rfl, fun k _ h => absurd h (Nat.not_lt_zero _)⟩
      case round =>
        obtain ⟨i, hi0, rfl, HA⟩ := hrel
        by_cases hi : i < m
        · have hil : i < ls.length := by rw [unhide HM]; exact hi
          obtain ⟨b, off, u, rfl, hc0, hbB, hu0⟩ := unhide HCL i hil
          have hc := ((unhide H3).2.2.cell (p := ⟨b, off + i, none⟩) (show b < w.heap.size by omega)).trans hc0
          have HU := hide (hu0.below ((unhide H3).2.2.mono hBw))
          clear hc0 hu0
          go_wp2_with fail
          refine (small_any B u _ _ (unhide HU)).mono ?_
          rintro e w4 ⟨rfl, rfl⟩
          cases hs : (ls[i]'hil).all smallB with
          | false =>
            go_wp2
            go_ret
            exact ⟨rfl, (unhide H3).2.2⟩
          | true =>
            have HSm := hide hs
            clear hs
            go_wp2
            refine ⟨⟨i + 1, by omega, by simp, fun k hk hki => ?_⟩, by simp [intOf]; omega⟩
            by_cases e : k = i
            · subst e; exact unhide HSm
            · exact unhide HA k hk (by omega)
        · have HAll : Hid (∀ k (hk : k < ls.length), ls[k].all smallB = true) := fun k hk => unhide HA k hk (by have := unhide HM; omega)
          clear HA
          go_wp2_with fail
          refine (small_any B _ xs _ (unhide H3).2.1).mono ?_
          rintro e w4 ⟨rfl, rfl⟩
          cases hs : xs.all smallB with
          | false =>
            go_wp2
            go_ret
            exact ⟨rfl, (unhide H3).2.2⟩
          | true =>
            have HSm := hide hs
            clear hs
            go_wp2
            go_loop [6] (fun qv => ∃ q : Nat, q ≤ 64 ∧ qv = .int .i64 q) (fun qv => 64 - (intOf qv).toNat)
            case atStart => exact ⟨0, by omega, rfl⟩
            case round =>
              obtain ⟨q, hq0, rfl⟩ := hrel
              by_cases hq : q < 64
              · have q1 : (0 : Int) ≤ (q : Int) := by omega
                have q2 : (q : Int) < 64 := by omega
                go_wp2
                go_loop [7, 8] (fun av iv => ∃ (ba : Bool) (j : Nat), j ≤ m ∧ av = .bool ba ∧ iv = .int .i64 j ∧ Hid (ba = (ls.take j).all fun d => d.any (hb q))) (fun _ iv => m - (intOf iv).toNat)
                case atStart => exact ⟨true, 0, Nat.zero_le _, rfl, rfl, by show _ = _; simp⟩
                case round =>
                  obtain ⟨ba, j, hj0, rfl, rfl, HB⟩ := hrel
                  by_cases hj : j < m
                  · have hjl : j < ls.length := by rw [unhide HM]; exact hj
                    obtain ⟨d, hd⟩ : ∃ d, ls[j]? = some d := ⟨_, List.getElem?_eq_getElem hjl⟩
                    have hde : ls[j] = d := (List.getElem?_eq_some_iff.1 hd).2
                    have HD := hide (all_more hd fun d => d.any (hb q))
                    cases ba with
                    | false =>
                      clear hd hde hjl
                      go_wp2
                      exact ⟨⟨false, j + 1, by omega, rfl, by simp, by show _ = _; rw [unhide HD, ← unhide HB]; rfl⟩, by simp [intOf]; omega⟩
                    | true =>
                      obtain ⟨b, off, u, rfl, hc0, hbB, hu0⟩ := unhide HCL j hjl
                      have hc := ((unhide H3).2.2.cell (p := ⟨b, off + j, none⟩) (show b < w.heap.size by omega)).trans hc0
                      rw [hde] at hu0
                      have HU := hide (hu0.below ((unhide H3).2.2.mono hBw))
                      have HSd := hide (unhide HAll j hjl)
                      rw [hde] at HSd
                      clear hc0 hu0 hd hde hjl
                      go_wp2_with fail
                      refine (holds_any B u d q _ (unhide HU) (unhide HSd) q1 q2).mono ?_
                      rintro e w5 ⟨rfl, rfl⟩
                      generalize hbd : d.any (hb q) = bd
                      have HBD := hide hbd
                      clear hbd
                      go_wp2
                      exact ⟨⟨bd, j + 1, by omega, rfl, by simp, by show _ = _; rw [unhide HD, ← unhide HB, unhide HBD]; rfl⟩, by simp [intOf]; omega⟩
                  · have HB2 : Hid (ba = ls.all fun d => d.any (hb q)) := by
                      have h1 := unhide HB
                      rw [List.take_of_length_le (show ls.length ≤ j by rw [unhide HM]; omega)] at h1
                      exact h1
                    cases ba with
                    | false =>
                      go_wp2
                      exact ⟨⟨q + 1, by omega, by simp⟩, by simp [intOf]; omega⟩
                    | true =>
                      have hx : xs.any (hb q) = true := rup_sound (unhide HF) hq (unhide HSm) fun d hd => List.all_eq_true.1 (unhide HB2).symm d hd
                      go_wp2_with fail
                      refine (holds_any B _ xs q _ (unhide H3).2.1 (unhide HSm) q1 q2).mono ?_
                      rintro e w5 ⟨rfl, rfl⟩
                      rw [hx]
                      clear hx
                      go_wp2
                      exact ⟨⟨q + 1, by omega, by simp⟩, by simp [intOf]; omega⟩
              · go_wp2
                go_ret
                exact ⟨rfl, (unhide H3).2.2⟩
end Go.Proofs.Ytmkkhpoedlbafaa
