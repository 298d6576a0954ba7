/- The walk of FarkasDigits. -/
import Derived.Test.YtnkigifcilgmbaaDoorZAM
set_option linter.unusedVariables false
set_option linter.unusedSimpArgs false

namespace Go.Proofs.YtnkigifcilgmbaaDoor
open Go Go.RowKit Go.Maps
open _root_.Go.Proofs.YtnkigifcilgmbaaDoor.Nm (IsI pw)
theorem two_FY (w : World) (N M : Nat) (d e : UInt8) : ∃ W, ((w.alloc (.cells (Lib.byteCells (List.replicate N 0)).toArray 5)).alloc (.cells (Lib.byteCells (List.replicate M 0)).toArray 5)).drew = W ∧ FY W w.heap.size N 0 d ∧ FY W (w.heap.size + 1) M 0 e ∧ Below w.heap.size w W ∧ W.heap.size = w.heap.size + 2 := by
  obtain ⟨A, eA, hbA, hsA, -, hhA⟩ := box_new w (Lib.byteCells (List.replicate N 0)).toArray 5
  obtain ⟨C, eC, hbC, hsC, -, hhC⟩ := box_new A (Lib.byteCells (List.replicate M 0)).toArray 5
  rw [eA, eC]
  refine ⟨_, rfl, ?_, ?_, (hbA.trans (hbC.mono (by omega))).drew, by show C.heap.size = _; omega⟩
  · unfold FY fillL
    simp only [List.replicate_zero, List.nil_append, Nat.sub_zero]
    exact (hbC.block w.heap.size (by omega)).trans hhA
  · unfold FY fillL
    simp only [List.replicate_zero, List.nil_append, Nat.sub_zero]
    rw [← hsA]
    exact hhC
theorem FY.more {V V' : World} {g n i : Nat} {d : UInt8} (h : FY V g n i d) (hb : V'.heap[g]? = V.heap[g]?) : FY V' g n i d := by
  unfold FY at h ⊢
  rw [hb, h]
theorem FY.start {V : World} {g n : Nat} {d e : UInt8} (h : FY V g n 0 d) : FY V g n 0 e := by simpa [FY, fillL] using h
theorem FY.put57 {V : World} {g n i : Nat} (h : FY V g n i 57) (hi : i < n) : FY (V.setCell ⟨g, i, none⟩ (.int .u8 57)) g n (i + 1) 57 := h.put hi
theorem FY.put56 {V : World} {g n i : Nat} (h : FY V g n i 56) (hi : i < n) : FY (V.setCell ⟨g, i, none⟩ (.int .u8 56)) g n (i + 1) 56 := h.put hi
theorem FY.apart {V : World} {g n i : Nat} {d : UInt8} {p : Addr} {u : Value} (h : FY V g n i d) (hp : g ≠ p.block) : FY (V.setCell p u) g n i d := h.more (Below.heap_setCell V p u g hp)
theorem times_dig {bs : ByteArray} {n : Nat} (hb : bs.data.toList = List.replicate n 56) (hn : 0 < n) : (timesT bs).isSome = decide (n ≤ 1600) := by
  have h := dig_num (D := List.replicate n 56) (d := 56) (neg := false) rfl hn (by decide) 1600 (by omega) bs (by simpa using hb)
  have hp : Lib.hasPrefix bs.data.toList [45] = false ∧ Lib.trimPrefix bs.data.toList [45] = List.replicate n 56 := by
    rw [hb]
    cases n with
    | zero => omega
    | succ n =>
      rw [List.replicate_succ]
      have e2 : ([45] : List UInt8).isPrefixOf (56 :: List.replicate n 56) = false := by simp [List.isPrefixOf]
      simp [Lib.hasPrefix, Lib.trimPrefix, e2]
  unfold timesT
  cases hz : numT 1600 bs with
  | none => rw [hz] at h; simpa using h
  | some z =>
    rw [hz] at h
    have h0 : 0 ≤ z := by
      unfold numT at hz
      rw [hp.1, hp.2] at hz
      split at hz
      · simp at hz
        rw [← hz]
        refine Nm.dec_nonneg fun b hb => ?_
        have := List.eq_of_mem_replicate hb
        subst this
        decide
      · cases hz
    have h1 : ¬ z < 0 := by omega
    simp only [h1, if_false]
    exact h
theorem sum_dig {bs : ByteArray} {n : Nat} (hb : bs.data.toList = List.replicate n 56) (hn : 0 < n) : (sumAll [([], ⟨#[48]⟩)] [bs]).isSome = decide (n ≤ 1600) := by
  rw [← times_dig hb hn]
  have h0 : numT 400 ⟨#[48]⟩ = some 0 := by
    simp [numT, rightB, Lib.hasPrefix, Lib.trimPrefix, List.isPrefixOf, isDigB, Nm.dec]
  have h1 : readL [([], ⟨#[48]⟩)] = some [([], 0)] := by simp [readL, allO, readR, readC, h0]
  unfold sumAll
  rw [h1]
  simp only [sumO, allO]
  cases timesT bs <;> simp
theorem row_dig {k : ByteArray} {neg : Bool} {n : Nat} (hk : k.data.toList = if neg then 45 :: List.replicate n 57 else List.replicate n 57) (hn : 0 < n) : (readR [] k).isSome = decide (n ≤ 400) := by
  rw [← dig_num (D := List.replicate n 57) (d := 57) (neg := neg) rfl hn (by decide) 400 (by omega) k hk]
  unfold readR readC
  cases numT 400 k <;> rfl
theorem Row_dig {k : ByteArray} {neg : Bool} {n : Nat} (w : World) (hk : k.data.toList = if neg then 45 :: List.replicate n 57 else List.replicate n 57) (hn : 0 < n) : Calls Tryd.prog 10 #[.agg #[.slice none 0 0, .string k]] w (VPost (.bool (decide (n ≤ 400))) w) := by
  rw [← row_dig hk hn]
  exact Row_any (w := w) (B := 0) (C := []) (K := k) ⟨none, 0, 0, rfl, rfl, Nat.le_refl _, by omega, fun h => absurd rfl h⟩ (Nat.zero_le _) (by simp)
set_option maxRecDepth 100000 in
set_option maxHeartbeats 4000000 in
theorem digits_walk (n m : Int) (neg : Bool) (w : World) (hT : Nm.Tab w) : Calls Tryd.prog 4 #[.int .i64 n, .int .i64 m, .bool neg] w fun e w' => e = .returned (.bool true) ∧ Below w.heap.size w w' := by
  go_enter Tryd.func4, Tryd.ntmps4
  go_wp2_with fail
  refine (known_any hT).mono ?_
  rintro e w1 ⟨rfl, hb1⟩
  go_wp2_with fail
  refine (place_any n 3 w1 (by omega) (by omega)).mono ?_
  rintro e w2 ⟨rfl, rfl⟩
  go_wp2_with fail
  refine (place_any m 3 _ (by omega) (by omega)).mono ?_
  rintro e w3 ⟨rfl, rfl⟩
  go_wp2_with fail
  obtain ⟨N, hN, hN1, hN2⟩ : ∃ N : Nat, wrap64 (399 + plc n 3) = (N : Int) ∧ 399 ≤ N ∧ N ≤ 401 := by
    have h := plc_in n (n := 3) (by omega)
    refine ⟨(399 + plc n 3).toNat, ?_, by omega, by omega⟩
    unfold wrap64
    omega
  obtain ⟨M, hM, hM1, hM2⟩ : ∃ M : Nat, wrap64 (1599 + plc m 3) = (M : Int) ∧ 1599 ≤ M ∧ M ≤ 1601 := by
    have h := plc_in m (n := 3) (by omega)
    refine ⟨(1599 + plc m 3).toNat, ?_, by omega, by omega⟩
    unfold wrap64
    omega
  rw [hN, hM]
  clear hN hM
  have hA := fun V => mkB N V (by omega)
  have hB := fun V => mkB M V (by omega)
  go_region
  all_goals
    first
      | obtain ⟨W, eW, hFa, hFb, hbW, hsW⟩ := two_FY w3 N M 57 56
        obtain ⟨gb, egb⟩ : ∃ g, w3.heap.size + 1 = g := ⟨_, rfl⟩
        obtain ⟨ga, ega⟩ : ∃ g, w3.heap.size = g := ⟨_, rfl⟩
        rw [eW, egb, ega]
        rw [egb] at hFb
        rw [ega] at hFa
      | obtain ⟨W, eW, hFb, hFa, hbW, hsW⟩ := two_FY w3 M N 56 57
        obtain ⟨ga, ega⟩ : ∃ g, w3.heap.size + 1 = g := ⟨_, rfl⟩
        obtain ⟨gb, egb⟩ : ∃ g, w3.heap.size = g := ⟨_, rfl⟩
        rw [eW, ega, egb]
        rw [ega] at hFa
        rw [egb] at hFb
    have hg : ga ≠ gb ∧ w3.heap.size ≤ ga ∧ w3.heap.size ≤ gb := by omega
    clear eW hA hB egb ega
    go_wp2
    go_loopw [9] (fun i wr => ∃ k : Nat, k ≤ N ∧ i = .int .i64 k ∧ FY wr ga N k 57 ∧ FY wr gb M 0 56 ∧ Below w3.heap.size w3 wr) (fun i _ => N - (intOf i).toNat)
    case atStart => exact ⟨0, Nat.zero_le _, rfl, hFa, hFb, hbW⟩
    case round =>
      obtain ⟨k, hk, rfl, h1, h2, h3⟩ := hrel
      by_cases hlt : k < N
      · obtain ⟨u, hc, hf⟩ := h1.cell hlt
        go_wp2
        exact ⟨⟨k + 1, hlt, by simp, h1.put57 hlt, h2.apart (fun e => hg.1 e.symm), h3.setCell hg.2.1 _⟩, by simp [intOf]; omega⟩
      · obtain rfl : N = k := by omega
        clear hlt hk hFa hFb hbW hsW
        go_wp2
        go_loopw [10] (fun i wr2 => ∃ j : Nat, j ≤ M ∧ i = .int .i64 j ∧ FY wr2 ga N N 57 ∧ FY wr2 gb M j 56 ∧ Below w3.heap.size w3 wr2) (fun i _ => M - (intOf i).toNat)
        case atStart => exact ⟨0, Nat.zero_le _, rfl, h1, h2, h3⟩
        case round =>
          obtain ⟨j, hj, rfl, n1, n2, n3⟩ := hrel
          by_cases hlt : j < M
          · obtain ⟨u, hc, hf⟩ := n2.cell hlt
            go_wp2
            exact ⟨⟨j + 1, hlt, by simp, n1.apart hg.1, n2.put56 hlt, n3.setCell hg.2.2 _⟩, by simp [intOf]; omega⟩
          · obtain rfl : M = j := by omega
            have hcA := n1.conv (by omega) (by omega)
            have hcB := n2.conv (by omega) (by omega)
            clear hlt hj h1 h2 h3
            have hb3 : Below w.heap.size w wr := hb1.trans (n3.mono hb1.size)
            have hTr := Nm.Tab.below hT hb3
            have hcv : ∀ V, Below wr.heap.size wr V → (convert 38 9 (.slice (some ⟨gb, 0, none⟩) M M)).run Tryd.prog V = .ok (.string ⟨(List.replicate M 56).toArray⟩) V := fun V hV => (n2.more (hV.block gb (blk n2).1)).conv (by omega) (by omega)
            have HC := hide (And.intro hb3 (And.intro hTr hcv))
            clear hb3 hTr hcv hcB n1 n2 n3
            have HR0 := hide (fun V => Row_dig (k := ⟨Array.replicate N 57⟩) (neg := false) (n := N) V (by simp) (by omega))
            have HR1 := hide (fun V => Row_dig (k := ⟨#[45]⟩ ++ ⟨Array.replicate N 57⟩) (neg := true) (n := N) V (by simp) (by omega))
            cases neg with
            | false =>
              clear HR1
              go_wp2
              refine dig_r16 (w0 := wr) (bv := .slice (some ⟨gb, 0, none⟩) M M) (bs := ⟨(List.replicate M 56).toArray⟩) rfl rfl (unhide HC).2.2 (unhide HC).2.1 ?_
              intro a V hd hsz hkp h13 hbV
              rw [sum_dig (n := M) (by simp) (by omega)] at h13
              obtain ⟨yy, rfl, hyy⟩ := act_set [12, 13, 47, 48, 49, 50, 51, 52, 53, 54, 55] (by kernel_rfl) hd hsz rfl hkp
              have hy13 : yy 13 = .bool (decide (M ≤ 1600)) := (hyy 13).trans h13
              have hbw := hide ((unhide HC).1.trans (hbV.mono (unhide HC).1.size))
              clear hyy h13 hd hsz hkp hbV
              simp only [setAll]
              rw [hy13]
              clear hy13
              by_cases hm : M ≤ 1600
              all_goals by_cases hc : N ≤ 400
              all_goals
                have c1 : decide ((M : Int) ≤ 1600) = decide (M ≤ 1600) := by simp; omega
                have c2 : decide ((N : Int) ≤ 400) = decide (N ≤ 400) := by simp; omega
                simp only [hm, hc, decide_true, decide_false] at c1 c2 HR0 ⊢
                clear hm hc
                go_wp2_with fail
                refine (row_any none 0 0 _ V).mono ?_
                rintro e V2 ⟨rfl, hb2⟩
                have hbw2 := hide ((unhide hbw).trans (hb2.mono (unhide hbw).size))
                clear hb2
                go_wp2_with fail
                refine (unhide HR0 V2).mono ?_
                rintro e V3 ⟨rfl, hb3⟩
                have hbw3 := hide ((unhide hbw2).trans (hb3.mono (unhide hbw2).size))
                clear hb3
                go_wp2
                go_ret
                exact ⟨rfl, unhide hbw3⟩
            | true =>
              clear HR0
              go_wp2
              refine dig_r16 (w0 := wr) (bv := .slice (some ⟨gb, 0, none⟩) M M) (bs := ⟨(List.replicate M 56).toArray⟩) rfl rfl (unhide HC).2.2 (unhide HC).2.1 ?_
              intro a V hd hsz hkp h13 hbV
              rw [sum_dig (n := M) (by simp) (by omega)] at h13
              obtain ⟨yy, rfl, hyy⟩ := act_set [12, 13, 47, 48, 49, 50, 51, 52, 53, 54, 55] (by kernel_rfl) hd hsz rfl hkp
              have hy13 : yy 13 = .bool (decide (M ≤ 1600)) := (hyy 13).trans h13
              have hbw := hide ((unhide HC).1.trans (hbV.mono (unhide HC).1.size))
              clear hyy h13 hd hsz hkp hbV
              simp only [setAll]
              rw [hy13]
              clear hy13
              by_cases hm : M ≤ 1600
              all_goals by_cases hc : N ≤ 400
              all_goals
                have c1 : decide ((M : Int) ≤ 1600) = decide (M ≤ 1600) := by simp; omega
                have c2 : decide ((N : Int) ≤ 400) = decide (N ≤ 400) := by simp; omega
                simp only [hm, hc, decide_true, decide_false] at c1 c2 HR1 ⊢
                clear hm hc
                go_wp2_with fail
                refine (row_any none 0 0 _ V).mono ?_
                rintro e V2 ⟨rfl, hb2⟩
                have hbw2 := hide ((unhide hbw).trans (hb2.mono (unhide hbw).size))
                clear hb2
                go_wp2_with fail
                refine (unhide HR1 V2).mono ?_
                rintro e V3 ⟨rfl, hb3⟩
                have hbw3 := hide ((unhide hbw2).trans (hb3.mono (unhide hbw2).size))
                clear hb3
                go_wp2
                go_ret
                exact ⟨rfl, unhide hbw3⟩
end Go.Proofs.YtnkigifcilgmbaaDoor
