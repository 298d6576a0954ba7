/- FarkasBoxes: the law's walk. -/
import Derived.Test.YtnkigifcilgmbaaGreatDoorZAP
import Derived.BigRegion
import Derived.Test.YtnkigifcilgmbaaGreatDoorZAH
set_option linter.unusedVariables false
set_option linter.unusedSimpArgs false

/- avowlaw10: known() is true. -/
namespace Go.Proofs.YtnkigifcilgmbaaGreatDoor
open Go Go.RowKit Go.Maps
open _root_.Go.Proofs.YtnkigifcilgmbaaGreatDoor.Nm (IsI pw)
theorem hC0 : ∀ l ∈ ls0, l.1.length ≤ 1000 := fun l hl => by
  simp [ls0] at hl
  rcases hl with rfl | rfl <;> simp
theorem len0 : ls0.length = 2 := rfl
set_option maxRecDepth 100000 in
set_option maxHeartbeats 8000000 in
theorem known_any {w : World} (hT : Nm.Tab w) : Calls Tryz.prog 8 #[] w (VPost (.bool true) w) := by
  obtain ⟨A1, eA1, hbA1, hsA1, hcA1, hhA1⟩ := box_new w #[.string ⟨#[120]⟩, .string ⟨#[49]⟩] 48
  have HRow1 := hide (row_any (some ⟨w.heap.size, 0, none⟩) 1 1 ⟨#[49]⟩ A1)
  have HE1 := hide eA1
  have H1 := hide (And.intro hbA1 (And.intro hsA1 hhA1))
  have HT := hide hT
  clear eA1 hbA1 hsA1 hcA1 hhA1 hT
  go_enter Tryz.func8, Tryz.ntmps8
  go_wp2_with fail
  rw [unhide HE1]
  refine (unhide HRow1).mono ?_
  rintro e w1 ⟨rfl, hb1⟩
  obtain ⟨A2, eA2, hbA2, hsA2, hcA2, hhA2⟩ := box_new w1 #[.string ⟨#[120]⟩, .string ⟨#[45, 49]⟩] 48
  have HRow2 := hide (row_any (some ⟨w1.heap.size, 0, none⟩) 1 1 ⟨#[45, 50]⟩ A2)
  have HE2 := hide eA2
  have H2 := hide (And.intro hb1 (And.intro hbA2 (And.intro hsA2 hhA2)))
  clear hb1 eA2 hbA2 hsA2 hcA2 hhA2 HRow1 HE1
  go_wp2_with fail
  rw [unhide HE2]
  refine (unhide HRow2).mono ?_
  rintro e w2 ⟨rfl, hb2⟩
  obtain ⟨hbA1, hsA1, hhA1⟩ := unhide H1
  obtain ⟨hb1, hbA2, hsA2, hhA2⟩ := unhide H2
  obtain ⟨A3, eA3, hbA3, hsA3, hcA3, hhA3⟩ := box_new w2 #[.slice (some ⟨w.heap.size, 0, none⟩) 1 1, .string ⟨#[49]⟩, .slice (some ⟨w1.heap.size, 0, none⟩) 1 1, .string ⟨#[45, 50]⟩] 28
  have q1 := hb1.size
  have q2 := hb2.size
  have hg1 : A3.heap[w.heap.size]? = some (.cells #[.string ⟨#[120]⟩, .string ⟨#[49]⟩] 48) := (hbA3.block _ (by omega)).trans ((hb2.block _ (by omega)).trans ((hbA2.block _ (by omega)).trans ((hb1.block _ (by omega)).trans hhA1)))
  have hg2 : A3.heap[w1.heap.size]? = some (.cells #[.string ⟨#[120]⟩, .string ⟨#[45, 49]⟩] 48) := (hbA3.block _ (by omega)).trans ((hb2.block _ (by omega)).trans hhA2)
  have hKL : KL w2.heap.size A3 := KL.mk hg1 hg2 hhA3
  have hb03 : Below w.heap.size w A3 := hbA1.trans ((hb1.mono (by omega)).trans ((hbA2.mono (by omega)).trans ((hb2.mono (by omega)).trans (hbA3.mono (by omega)))))
  obtain ⟨A4, eA4, hbA4, hsA4, hcA4, hhA4⟩ := box_new A3 #[.string ⟨#[50]⟩, .string ⟨#[49]⟩] 9
  have hKL4 := hKL.more hbA4
  have hb04 : Below w.heap.size w A4 := hb03.trans (hbA4.mono hb03.size)
  have hba4 : Row A4.heap.size (some ⟨A3.heap.size, 0, none⟩) 2 2 1 (BA A4 [b2, b1]) := BA.mk (bs := [b2, b1]) hhA4 (fun j s hs => by
    match j, hs with
    | 0, hs => simpa [b2] using hs
    | 1, hs => simpa [b1] using hs
    | j + 2, hs => simp at hs) (by simp)
  have HSum := hide (Sum_any (ls := ls0) (bs := [b2, b1]) hKL4.2 len0.symm hba4 rfl (Nat.le_refl _) (by omega) hC0 (Nm.Tab.below (unhide HT) hb04))
  obtain ⟨lb, hlb⟩ : ∃ lb, w2.heap.size = lb := ⟨_, rfl⟩
  have hszA3 : A3.heap.size = lb + 1 := by omega
  rw [hlb] at hKL4 HSum
  rw [hszA3] at HSum
  have HE3 := hide (And.intro eA3 eA4)
  have hlc : A4.cell? ⟨lb, 0, none⟩ = some (.slice (some ⟨w.heap.size, 0, none⟩) 1 1) ∧ A4.cell? ⟨lb, 1, none⟩ = some (.string ⟨#[49]⟩) := by
    have hl4 := (hbA4.block w2.heap.size (by omega)).trans hhA3
    rw [hlb] at hl4
    exact ⟨(blk hl4).2.1 0 _ rfl, (blk hl4).2.1 1 _ rfl⟩
  have hA4s : lb + 2 ≤ A4.heap.size := by omega
  have H4 := hide (And.intro hKL4 (And.intro hb04 (And.intro hlc hA4s)))
  clear hbA1 hsA1 hhA1 hb1 hbA2 hsA2 hhA2 eA3 hbA3 hsA3 hcA3 hhA3 q1 q2 hg1 hg2 hKL hb03 eA4 hbA4 hsA4 hcA4 hhA4 hKL4 hb04 hba4 hb2 HRow2 HE2 H1 H2
  go_wp2_with fail
  rw [(unhide HE3).1, (unhide HE3).2]
  refine (unhide HSum).mono ?_
  rintro e w5 ⟨r, rfl, hb5, -, hq⟩
  obtain ⟨ss, hnd, hss, hIL⟩ := hq _ sum21
  obtain rfl := ss_x hnd hss
  rw [co_x, k_0] at hIL
  obtain ⟨a, n, c, rfl, hn, hR⟩ := hIL
  obtain rfl : n = 1 := hn
  obtain ⟨g, o, rfl, hg, hgj⟩ := hR.2.2 (by omega)
  have hgc := hgj 0 (by omega) (bx, b1) rfl
  have hN1 : w5.cell? ⟨g, o + 1, none⟩ = some (.string ⟨#[49]⟩) := by
    have := hgc 1 _ rfl
    rw [show o + 0 * 2 + 1 = o + 1 by omega] at this
    exact this
  rw [sum21]
  obtain ⟨hKL4, hb04, hlc, hA4s⟩ := unhide H4
  obtain ⟨w6, e6, hb6, hs6, hc6, hh6⟩ := box_new w5 #[.slice (some ⟨g, o, none⟩) 1 c, .string ⟨#[48]⟩] 28
  have hb46 : Below A4.heap.size A4 w6 := hb5.trans (hb6.mono hb5.size)
  have hb06 : Below w.heap.size w w6 := hb04.trans (hb46.mono hb04.size)
  have HAll : Hid (∀ V, Below w6.heap.size w6 V → (V.cell? ⟨w5.heap.size, 0, none⟩ = some (.slice (some ⟨g, o, none⟩) 1 c) ∧ V.cell? ⟨w5.heap.size, 1, none⟩ = some (.string ⟨#[48]⟩) ∧ V.cell? ⟨g, o + 1, none⟩ = some (.string ⟨#[49]⟩) ∧ V.cell? ⟨lb, 0, none⟩ = some (.slice (some ⟨w.heap.size, 0, none⟩) 1 1) ∧ V.cell? ⟨lb, 1, none⟩ = some (.string ⟨#[49]⟩)) ∧ KL lb V ∧ Below w.heap.size w V) := fun V hV => by
    have hl : lb < w6.heap.size := Nat.lt_of_lt_of_le (by omega) hb46.size
    have h5 : w5.heap.size < w6.heap.size := by omega
    have hg6 : g < w6.heap.size := by omega
    exact ⟨⟨(hV.cell (p := ⟨w5.heap.size, 0, none⟩) h5).trans ((blk hh6).2.1 0 _ rfl), (hV.cell (p := ⟨w5.heap.size, 1, none⟩) h5).trans ((blk hh6).2.1 1 _ rfl), (hV.cell (p := ⟨g, o + 1, none⟩) hg6).trans ((hb6.cell (p := ⟨g, o + 1, none⟩) hg).trans hN1), (hV.cell (p := ⟨lb, 0, none⟩) hl).trans ((hb46.cell (p := ⟨lb, 0, none⟩) (show lb < A4.heap.size by omega)).trans hlc.1), (hV.cell (p := ⟨lb, 1, none⟩) hl).trans ((hb46.cell (p := ⟨lb, 1, none⟩) (show lb < A4.heap.size by omega)).trans hlc.2)⟩, (hKL4.more hb46).more hV, hb06.trans (hV.mono hb06.size)⟩
  obtain ⟨A7, eA7, hbA7, hsA7, hcA7, hhA7⟩ := box_new w6 #[.string ⟨#[49]⟩, .string ⟨#[49]⟩] 9
  have HCk1 := hide (Check_sum (w := A7) (ls := ls0) (bs := [b1, b1]) (aL := some ⟨lb, 0, none⟩) (n := 2) (cL := 2) (aB := some ⟨w6.heap.size, 0, none⟩) (nB := 2) (cB := 2) (ar := none) (nr := 0) (cr := 0) (kr := ⟨#[]⟩) (al := none) (nl := 0) (cl := 0) (unhide HAll A7 hbA7).2.1.2 rfl (BA.mk (bs := [b1, b1]) hhA7 (fun j s hs => by
    match j, hs with
    | 0, hs => simpa [b1] using hs
    | 1, hs => simpa [b1] using hs
    | j + 2, hs => simp at hs) (by simp)) rfl (by omega) hC0)
  have HE7 := hide (And.intro e6 eA7)
  have HB7 := hide hbA7
  have hs6' : w6.heap.size = w5.heap.size + 1 := hs6
  have HS6 := hide hs6
  clear hb5 hq hnd hss hR hg hgj hgc hN1 hKL4 hb04 hlc hA4s e6 hb6 hc6 hh6 hb46 hb06 eA7 hbA7 hsA7 hcA7 hhA7 HSum HE3 hs6 hszA3 hlb
  rw [unhide HS6] at HCk1
  go_wp2_with fail
  rw [(unhide HE7).1, (unhide HE7).2]
  refine (unhide HCk1).mono ?_
  rintro e w8 ⟨z, rfl, hb8, -, hz⟩
  obtain rfl : z = 0 := (hz rs0 rd0).1 ref11
  have hb68 : Below w6.heap.size w6 w8 := (unhide HB7).trans (hb8.mono (unhide HB7).size)
  obtain ⟨A9, eA9, hbA9, hsA9, hcA9, hhA9⟩ := box_new w8 #[.string ⟨#[49]⟩] 9
  have hb69 : Below w6.heap.size w6 A9 := hb68.trans (hbA9.mono hb68.size)
  have HCk2 := hide (Check_sum (w := A9) (ls := ls0) (bs := [b1]) (aL := some ⟨lb, 0, none⟩) (n := 2) (cL := 2) (aB := some ⟨w8.heap.size, 0, none⟩) (nB := 1) (cB := 1) (ar := none) (nr := 0) (cr := 0) (kr := ⟨#[]⟩) (al := none) (nl := 0) (cl := 0) (unhide HAll A9 hb69).2.1.2 rfl (BA.mk (bs := [b1]) hhA9 (fun j s hs => by
    match j, hs with
    | 0, hs => simpa [b1] using hs
    | j + 1, hs => simp at hs) (by simp)) rfl (by omega) hC0)
  have HE9 := hide eA9
  have HB9 := hide hb69
  clear hb8 hz hb68 eA9 hbA9 hsA9 hcA9 hhA9 hb69 HCk1 HE7 HB7 hs6'
  go_wp2_with fail
  rw [unhide HE9]
  refine (unhide HCk2).mono ?_
  rintro e w10 ⟨z, rfl, hb10, -, hz⟩
  obtain rfl : z = 100 := (hz rs0 rd0).2 ref1
  have hb610 : Below w6.heap.size w6 w10 := (unhide HB9).trans (hb10.mono (unhide HB9).size)
  obtain ⟨A11, eA11, hbA11, hsA11, hcA11, hhA11⟩ := box_new w10 #[.slice none 0 0, .string ⟨#[]⟩] 28
  have hb611 : Below w6.heap.size w6 A11 := hb610.trans (hbA11.mono hb610.size)
  have HCk3 := hide (Check_sum (w := A11) (ls := [([], ⟨#[]⟩)]) (bs := []) (aL := some ⟨w10.heap.size, 0, none⟩) (n := 1) (cL := 1) (aB := none) (nB := 0) (cB := 0) (ar := none) (nr := 0) (cr := 0) (kr := ⟨#[]⟩) (al := none) (nl := 0) (cl := 0) ⟨Nat.le_refl _, by omega, fun _ => ⟨w10.heap.size, 0, rfl, (blk hhA11).1, fun j hj l hl => by
    obtain rfl : j = 0 := by omega
    obtain rfl : ([], ⟨#[]⟩) = l := by simpa using hl
    exact ⟨.slice none 0 0, .string ⟨#[]⟩, fun t u hu => by
      rw [show 0 + 0 * 2 + t = t by omega]
      exact (blk hhA11).2.1 t u (by simpa using hu), none, 0, 0, rfl, rfl, Nat.le_refl _, by omega, fun h => absurd rfl h⟩⟩⟩ rfl ⟨Nat.le_refl _, by omega, fun h => absurd rfl h⟩ rfl (by omega) (fun l hl => by simp at hl; subst hl; simp))
  have HE11 := hide eA11
  have HB11 := hide hb611
  clear hb10 hz hb610 eA11 hbA11 hsA11 hcA11 hhA11 hb611 HCk2 HE9 HB9
  go_wp2_with fail
  rw [unhide HE11]
  refine (unhide HCk3).mono ?_
  rintro e w12 ⟨z, rfl, hb12, hz, -⟩
  obtain rfl : z = 90 := hz rdE
  have hb612 : Below w6.heap.size w6 w12 := (unhide HB11).trans (hb12.mono (unhide HB11).size)
  obtain ⟨⟨c0, c1, c2, c3, c4⟩, hKL12, hbw12⟩ := unhide HAll w12 hb612
  have HRow := hide (show ∀ V, Below w6.heap.size w6 V → Calls Tryz.prog 12 #[.agg #[.slice (some ⟨w.heap.size, 0, none⟩) 1 1, .string ⟨#[49]⟩]] V (VPost (.bool true) V) from fun V hV => by
    obtain ⟨⟨_, _, _, d3, d4⟩, hKLV, _⟩ := unhide HAll V hV
    obtain ⟨b, off, eb, hb, hj⟩ := hKLV.2.2.2 (by omega)
    obtain ⟨rfl, rfl⟩ : b = lb ∧ off = 0 := by simp at eb; exact ⟨eb.1.symm, eb.2.symm⟩
    obtain ⟨x, y, hr, hI⟩ := hj 0 (by omega) ([(bx, b1)], b1) rfl
    have hx := hr 0 _ rfl
    have hy := hr 1 _ rfl
    simp only [Nat.zero_mul, Nat.add_zero, Nat.zero_add] at hx hy
    rw [d3] at hx
    rw [d4] at hy
    injection hx with hx
    injection hy with hy
    subst hx hy
    have := Row_any hI (Nat.le_refl _) (by simp)
    have e : (readR [(bx, b1)] b1).isSome = true := by
      have h1 : readP (bx, b1) = some (bx, 1) := by
        unfold readP
        rw [if_neg (by show ¬ ((1 : Nat) = 0 ∨ 200 < 1); omega), n1 400 (by omega)]
        rfl
      simp [readR, readC, h1, n1 400]
    rw [e] at this
    exact this)
  have HRow2 := hide (show ∀ V, Calls Tryz.prog 12 #[.agg #[.slice none 0 0, .string ⟨#[]⟩]] V (VPost (.bool false) V) from fun V => by
    have := Row_any (w := V) (B := 0) (C := []) (K := ⟨#[]⟩) ⟨none, 0, 0, rfl, rfl, Nat.le_refl _, by omega, fun h => absurd rfl h⟩ (Nat.zero_le _) (by simp)
    have e : (readR [] ⟨#[]⟩).isSome = false := by simp [readR, emptyT]
    rw [e] at this
    exact this)
  have HB12 := hide hb612
  clear hb12 hz hb612 hKL12 hbw12 HCk3 HE11 HB11
  go_wp2_with fail
  refine (unhide HRow w12 (unhide HB12)).mono ?_
  rintro e w13 ⟨rfl, hb13⟩
  have HB13 := hide ((unhide HB12).trans (hb13.mono (unhide HB12).size))
  clear hb13 c0 c1 c2 c3 c4
  go_wp2_with fail
  refine (unhide HRow2 w13).mono ?_
  rintro e w14 ⟨rfl, hb14⟩
  have HB14 := hide ((unhide HB13).trans (hb14.mono (unhide HB13).size))
  clear hb14
  go_wp2
  go_ret
  exact ⟨rfl, (unhide HAll w14 (unhide HB14)).2.2⟩
end Go.Proofs.YtnkigifcilgmbaaGreatDoor

/- Package farkas: texts of numbers that were told. -/
namespace Go.Proofs.YtnkigifcilgmbaaGreatDoor
open Go Go.RowKit Go.Maps
open _root_.Go.Proofs.YtnkigifcilgmbaaGreatDoor.Nm (IsI pw)
theorem dd_dec (u : Nat) : Nm.dec (Lib.decDigits u) = u ∧ Nm.Dg (Lib.decDigits u) ∧ Lib.decDigits u ≠ [] ∧ (1 ≤ u → (Lib.decDigits u).head? ≠ some 48) := by
  induction u using Nat.strongRecOn with
  | _ u ih =>
    have hd : ∀ m, m < 10 → (UInt8.ofNat (48 + m)).toNat = 48 + m := fun m hm => by
      simp [UInt8.toNat_ofNat']
      omega
    rw [Lib.decDigits]
    split
    · rename_i h
      refine ⟨?_, fun b hb => ?_, by simp, fun h1 => ?_⟩
      · simp only [Nm.dec, List.foldl_cons, List.foldl_nil, hd u h]
        omega
      · rw [List.mem_singleton.1 hb, hd u h]
        omega
      · simp only [List.head?_cons, ne_eq, Option.some.injEq]
        intro e
        have := congrArg UInt8.toNat e
        rw [hd u h] at this
        have h48 : (48 : UInt8).toNat = 48 := rfl
        omega
    · rename_i h
      obtain ⟨h1, h2, h3, h4⟩ := ih (u / 10) (by omega)
      have hm : u % 10 < 10 := Nat.mod_lt _ (by omega)
      refine ⟨?_, fun b hb => ?_, by simp, fun _ => ?_⟩
      · rw [Nm.dec_snoc, h1, hd _ hm]
        omega
      · rcases List.mem_append.1 hb with h5 | h5
        · exact h2 b h5
        · rw [List.mem_singleton.1 h5, hd _ hm]
          omega
      · cases hD : Lib.decDigits (u / 10) with
        | nil => exact absurd hD h3
        | cons c t =>
          have := h4 (by omega)
          rw [hD] at this
          simpa using this
theorem itoa_pre (z : Int) : Lib.hasPrefix (Lib.itoa z) [45] = decide (z < 0) := by
  unfold Lib.itoa
  split
  · rename_i h
    simp [Lib.hasPrefix, h]
  · rename_i h
    have h2 := (dd_lt z.toNat).2
    rw [decide_eq_false h]
    unfold Lib.hasPrefix
    cases hD : Lib.decDigits z.toNat with
    | nil => rfl
    | cons c t =>
      have hc : c ≠ 45 := h2 c (by rw [hD]; simp)
      have : (45 == c) = false := by
        simp
        exact fun e => hc e.symm
      simp [List.isPrefixOf, this]
/-- The number of a number's text. -/
theorem numT_itoa (d : Nat) (z : Int) (hd : d ≤ 1900) : numT d (bytesOf (Lib.itoa z)) = if (Lib.decDigits z.natAbs).length ≤ d then some z else none := by
  have e : (bytesOf (Lib.itoa z)).data.toList = Lib.itoa z := by simp [bytesOf]
  unfold numT
  rw [e, itoa_trim, itoa_pre]
  obtain ⟨h1, h2, h3, h4⟩ := dd_dec z.natAbs
  by_cases hl : (Lib.decDigits z.natAbs).length ≤ d
  · have hr : rightB (decide (z < 0)) (Lib.decDigits z.natAbs) d = true := (rightB_iff (by omega)).2 ⟨⟨h2, h3, fun h48 => ?_, by omega⟩, hl⟩
    · rw [if_pos hr, if_pos hl, h1]
      congr 1
      by_cases hz : z < 0
      · rw [if_pos (by simpa using hz)]
        omega
      · rw [if_neg (by simpa using hz)]
        omega
    · have h0 : z.natAbs = 0 := by
        rcases Nat.eq_zero_or_pos z.natAbs with h | h
        · exact h
        · exact absurd h48 (h4 h)
      obtain rfl : z = 0 := by omega
      exact ⟨Lib.decDigits_one (by decide), by decide⟩
  · have hr : ¬ rightB (decide (z < 0)) (Lib.decDigits z.natAbs) d = true := fun h => hl ((rightB_iff (by omega)).1 h).2
    rw [if_neg hr, if_neg hl]
theorem dd_len {m : Nat} : ∀ {u : Nat}, u < 10 ^ m → 1 ≤ m → (Lib.decDigits u).length ≤ m := by
  induction m with
  | zero => intro u _ h; omega
  | succ m ih =>
    intro u hu _
    rw [Lib.decDigits]
    split
    · simp
    · rename_i h
      rw [List.length_append, List.length_singleton]
      by_cases hm : m = 0
      · subst hm
        simp at hu
        omega
      · have := ih (u := u / 10) (by rw [Nat.pow_succ] at hu; omega) (by omega)
        omega
end Go.Proofs.YtnkigifcilgmbaaGreatDoor

/- FarkasBoxes: facts on its rows. -/
namespace Go.Proofs.YtnkigifcilgmbaaGreatDoor
open Go Go.RowKit Go.Maps
open _root_.Go.Proofs.YtnkigifcilgmbaaGreatDoor.Nm (IsI pw)
def tx (z : Int) : ByteArray := bytesOf (Lib.itoa z)
theorem num_tx {z : Int} (h : z.natAbs < 1000000) {d : Nat} (hd : 6 ≤ d) (hd2 : d ≤ 1900) : numT d (tx z) = some z := by
  unfold tx
  rw [numT_itoa d z hd2, if_pos (Nat.le_trans (dd_len (m := 6) h (by omega)) hd)]
def b0 : ByteArray := ⟨#[48]⟩
theorem n0 (d : Nat) (h : 1 ≤ d) : numT d b0 = some 0 := by
  simp [numT, rightB, b0, Lib.hasPrefix, Lib.trimPrefix, isDigB, h, Nm.dec]
theorem t0 : timesT b0 = some 0 := by simp [timesT, n0 1600]
theorem rP {n : ByteArray} {z : Int} (h : numT 400 n = some z) : readP (bx, n) = some (bx, z) := by
  unfold readP
  have : bx.size = 1 := rfl
  simp [this, h]
theorem rR {n k : ByteArray} {z y : Int} (h : numT 400 n = some z) (hk : numT 400 k = some y) : readR [(bx, n)] k = some ([(bx, z)], y) := by
  simp [readR, readC, rP h, hk]
def boxL (t a n : Int) : List (List (ByteArray × ByteArray) × ByteArray) := [([(bx, b2)], tx t), ([(bx, bm2)], tx (-t)), ([(bx, b1)], tx (a + n)), ([(bx, bm1)], tx (-a))]
def boxR (t a n : Int) : List (List (ByteArray × Int) × Int) := [([(bx, 2)], t), ([(bx, -2)], -t), ([(bx, 1)], a + n), ([(bx, -1)], -a)]
theorem box_read {t a n : Int} (ht : t.natAbs < 1000) (ha : a.natAbs < 1000) (hn : n.natAbs < 1000) : readL (boxL t a n) = some (boxR t a n) := by
  have h1 := rR (n2 400 (by omega)) (num_tx (z := t) (by omega) (d := 400) (by omega) (by omega))
  have h2 := rR (nm2 400 (by omega)) (num_tx (z := -t) (by omega) (d := 400) (by omega) (by omega))
  have h3 := rR (n1 400 (by omega)) (num_tx (z := a + n) (by omega) (d := 400) (by omega) (by omega))
  have h4 := rR (nm1 400 (by omega)) (num_tx (z := -a) (by omega) (d := 400) (by omega) (by omega))
  simp [readL, allO, boxL, boxR, h1, h2, h3, h4]
def fA5 : Fk := ⟨[b0, b1, b0, b0, b2], false, [], ⟨#[]⟩, []⟩
def fB5 : Fk := ⟨[b1, b0, b0, b0, b2], false, [], ⟨#[]⟩, []⟩
def boxF (tw : Int) : Fk := ⟨[], true, [(bx, b1)], tx tw, [fA5, fB5]⟩
theorem fadd_one (f : ByteArray → Int) (k : ByteArray) (z t : Int) (s : ByteArray) : fadd f [(k, z)] t s = if s = k then f k + z * t else f s := rfl
theorem box_yes {tw a n : Int} (htw : tw.natAbs < 400) : refP 200 (boxR (2 * tw + 1) a n) (boxF tw) := by
  have hr : readR [(bx, b1)] (tx tw) = some ([(bx, 1)], tw) := rR (n1 400 (by omega)) (num_tx (z := tw) (by omega) (d := 400) (by omega) (by omega))
  have hs : shortI (opp ([(bx, 1)], tw)).2 = true := by
    unfold shortI
    rw [itoa_trim]
    have h0 : (10 : Nat) ^ 6 = 1000000 := by decide
    have h6 : (-tw - 1).natAbs < 10 ^ 6 := by omega
    have := dd_len (m := 6) h6 (by omega)
    show decide ((Lib.decDigits (-tw - 1).natAbs).length ≤ 400) = true
    simp
    omega
  refine .inr ⟨rfl, fA5, fB5, _, rfl, hr, hs, ?_, ?_⟩
  · refine .inl ⟨rfl, sumN (boxR (2 * tw + 1) a n ++ [([(bx, 1)], tw)]) [0, 1, 0, 0, 2], ?_, fun s _ => ?_, ?_⟩
    · simp [sumO, fA5, boxR, allO, t0, t1, t2]
    · by_cases e : s = bx
      · simp [sumN, boxR, sumStep, fadd_one, e]
      · simp [sumN, boxR, sumStep, fadd_one, e]
    · simp [sumN, boxR, sumStep]
      omega
  · refine .inl ⟨rfl, sumN (boxR (2 * tw + 1) a n ++ [opp ([(bx, 1)], tw)]) [1, 0, 0, 0, 2], ?_, fun s _ => ?_, ?_⟩
    · simp [sumO, fB5, boxR, allO, t0, t1, t2]
    · by_cases e : s = bx
      · simp [sumN, boxR, sumStep, fadd_one, opp, e]
      · simp [sumN, boxR, sumStep, fadd_one, opp, e]
    · simp [sumN, boxR, sumStep, opp]
      omega
theorem box_no {tw : Int} {r : List (ByteArray × Int) × Int} : ¬ refP 200 [r] (boxF tw) := by
  rintro (⟨h, _⟩ | ⟨_, a, b, q, h1, h2, _, h4, _⟩)
  · cases h
  · have e : a = fA5 := by
      have : [fA5, fB5] = [a, b] := h1
      injection this with e1 _
      exact e1.symm
    subst e
    rcases h4 with ⟨_, q, h5, _⟩ | ⟨h5, _⟩
    · simp [sumO, fA5] at h5
    · cases h5
theorem box_read1 {t : Int} (ht : t.natAbs < 1000) : readL [([(bx, b2)], tx t)] = some [([(bx, 2)], t)] := by
  have h1 := rR (n2 400 (by omega)) (num_tx (z := t) (by omega) (d := 400) (by omega) (by omega))
  simp [readL, allO, h1]
end Go.Proofs.YtnkigifcilgmbaaGreatDoor

/- Package farkas: the deep refutation of the law, as a tree and in memory. -/
namespace Go.Proofs.YtnkigifcilgmbaaGreatDoor
open Go Go.RowKit Go.Maps
open _root_.Go.Proofs.YtnkigifcilgmbaaGreatDoor.Nm (IsI pw)
/-- As FkAt, and no block of it is x. -/
def FkN (w : World) (B x : Nat) : Nat → Nat → Nat → Fk → Prop
  | 0, _, _, _ => False
  | d + 1, b, o, f => b < B ∧ b ≠ x ∧ f.C.length ≤ 1000 ∧ ∃ aS nS cS aC nC cC aL nL cL, w.rangeAt b o [.slice aS nS cS, .bool f.split, .slice aC nC cC, .string f.K, .slice aL nL cL] ∧ nS = f.sum.length ∧ Row B aS nS cS 1 (fun b o j => b ≠ x ∧ BA w f.sum b o j) ∧ nC = f.C.length ∧ Row B aC nC cC 2 (fun b o j => b ≠ x ∧ CA w f.C b o j) ∧ nL = f.l.length ∧ Row B aL nL cL 5 (fun b o j => b ≠ x ∧ ∀ g, f.l[j]? = some g → FkN w B x d b o g)
def IsFkN (w : World) (B x d : Nat) (cs : List Value) (f : Fk) : Prop := f.C.length ≤ 1000 ∧ ∃ aS nS cS aC nC cC aL nL cL, cs = [.slice aS nS cS, .bool f.split, .slice aC nC cC, .string f.K, .slice aL nL cL] ∧ nS = f.sum.length ∧ Row B aS nS cS 1 (fun b o j => b ≠ x ∧ BA w f.sum b o j) ∧ nC = f.C.length ∧ Row B aC nC cC 2 (fun b o j => b ≠ x ∧ CA w f.C b o j) ∧ nL = f.l.length ∧ Row B aL nL cL 5 (fun b o j => b ≠ x ∧ ∀ g, f.l[j]? = some g → FkN w B x d b o g)
theorem keepBA {w w' : World} {B x : Nat} (hk : ∀ b, b < B → b ≠ x → w'.heap[b]? = w.heap[b]?) {bs : List ByteArray} {b o j : Nat} (hb : b < B) (h : b ≠ x ∧ BA w bs b o j) : b ≠ x ∧ BA w' bs b o j := ⟨h.1, fun s hs => (World.cell?_of_block (w := w) (a := ⟨b, o, none⟩) (hk b hb h.1)).trans (h.2 s hs)⟩
theorem keepCA {w w' : World} {B x : Nat} (hk : ∀ b, b < B → b ≠ x → w'.heap[b]? = w.heap[b]?) {C : List (ByteArray × ByteArray)} {b o j : Nat} (hb : b < B) (h : b ≠ x ∧ CA w C b o j) : b ≠ x ∧ CA w' C b o j := ⟨h.1, fun c hc t u hu => (World.cell?_of_block (w := w) (a := ⟨b, o + t, none⟩) (hk b hb h.1)).trans (h.2 c hc t u hu)⟩
theorem FkN.keep {w w' : World} {B B' x : Nat} (hk : ∀ b, b < B → b ≠ x → w'.heap[b]? = w.heap[b]?) (hB : B ≤ B') : ∀ (d b o : Nat) (f : Fk), FkN w B x d b o f → FkN w' B' x d b o f
  | 0, _, _, _, h => h
  | d + 1, b, o, f, ⟨hb, hx, hC, aS, nS, cS, aC, nC, cC, aL, nL, cL, h1, h2, h3, h4, h5, h6, h7⟩ => ⟨Nat.lt_of_lt_of_le hb hB, hx, hC, aS, nS, cS, aC, nC, cC, aL, nL, cL, fun t u hu => (World.cell?_of_block (w := w) (a := ⟨b, o + t, none⟩) (hk b hb hx)).trans (h1 t u hu), h2, h3.mono hB fun _ _ _ hb h => keepBA hk hb h, h4, h5.mono hB fun _ _ _ hb h => keepCA hk hb h, h6, h7.mono hB fun b o _ _ h => ⟨h.1, fun g hg => FkN.keep hk hB d b o g (h.2 g hg)⟩⟩
theorem IsFkN.keep {w w' : World} {B B' x : Nat} (hk : ∀ b, b < B → b ≠ x → w'.heap[b]? = w.heap[b]?) (hB : B ≤ B') {d : Nat} {cs : List Value} {f : Fk} (h : IsFkN w B x d cs f) : IsFkN w' B' x d cs f := by
  obtain ⟨hC, aS, nS, cS, aC, nC, cC, aL, nL, cL, h1, h2, h3, h4, h5, h6, h7⟩ := h
  exact ⟨hC, aS, nS, cS, aC, nC, cC, aL, nL, cL, h1, h2, h3.mono hB fun _ _ _ hb h => keepBA hk hb h, h4, h5.mono hB fun _ _ _ hb h => keepCA hk hb h, h6, h7.mono hB fun b o _ _ h => ⟨h.1, fun g hg => FkN.keep hk hB d b o g (h.2 g hg)⟩⟩
theorem IsFkN.more {w w' : World} {B B' x d : Nat} {cs : List Value} {f : Fk} (h : IsFkN w B x d cs f) (hw : Below B w w') (hB : B ≤ B') : IsFkN w' B' x d cs f := h.keep (fun b hb _ => hw.block b hb) hB
end Go.Proofs.YtnkigifcilgmbaaGreatDoor

/- The walk of FarkasDigits. -/
namespace Go.Proofs.YtnkigifcilgmbaaGreatDoor
open Go Go.RowKit Go.Maps
open _root_.Go.Proofs.YtnkigifcilgmbaaGreatDoor.Nm (IsI pw)
def fillL (n i : Nat) (d : UInt8) : List UInt8 := List.replicate i d ++ List.replicate (n - i) 0
def FY (V : World) (g n i : Nat) (d : UInt8) : Prop := V.heap[g]? = some (.cells (Lib.byteCells (fillL n i d)).toArray 5)
theorem bc_len (l : List UInt8) : (Lib.byteCells l).length = l.length := by simp [Lib.byteCells]
theorem fill_len {n i : Nat} (d : UInt8) (h : i ≤ n) : (fillL n i d).length = n := by simp [fillL]; omega
theorem fill_step {n i : Nat} (d : UInt8) (h : i < n) : (fillL n i d).set i d = fillL n (i + 1) d := by
  unfold fillL
  obtain ⟨k, hk⟩ : ∃ k, n - i = k + 1 := ⟨n - i - 1, by omega⟩
  rw [hk, show n - (i + 1) = k by omega, List.replicate_succ, List.set_append_right _ _ (by simp)]
  simp [List.replicate_succ', List.append_assoc]
theorem FY.put {V : World} {g n i : Nat} {d : UInt8} (h : FY V g n i d) (hi : i < n) : FY (V.setCell ⟨g, i, none⟩ (.int .u8 d.toNat)) g n (i + 1) d := by
  unfold FY at h ⊢
  rw [set_block h, ← fill_step d hi]
  congr 2
  simp [Lib.byteCells, List.map_set]
theorem FY.cell {V : World} {g n i : Nat} {d : UInt8} (h : FY V g n i d) (hi : i < n) : ∃ u, V.cell? ⟨g, i, none⟩ = some u ∧ V.frozen? ⟨g, i, none⟩ = false := by
  have hl : i < (Lib.byteCells (fillL n i d)).toArray.size := by
    simp only [List.size_toArray, bc_len]
    rw [fill_len d (by omega)]
    exact hi
  exact ⟨_, (blk h).2.1 i _ (Array.getElem?_eq_getElem hl), (blk h).2.2 i⟩
end Go.Proofs.YtnkigifcilgmbaaGreatDoor

/- FarkasDeep: the region that makes a refutation deeper. -/
namespace Go.Proofs.YtnkigifcilgmbaaGreatDoor
open Go Go.RowKit Go.Maps
open _root_.Go.Proofs.YtnkigifcilgmbaaGreatDoor.Nm (IsI pw)
section
variable {X : Exit → Act → World → Prop} {K : Act → World → Prop} {a : Act} {w : World} {dst : Option Tmp} {ty : TypeId} {pos : String} {af : Array Edge} {gd : Option (Nat × Bool)} {k : Nat}
end
set_option maxRecDepth 100000 in
theorem ld_Fk {b o : Nat} {x y z u v : Value} {w : World} (h : w.rangeAt b o [x, y, z, u, v]) : (Instr.loadAt 31 (.pointer (some ⟨b, o, none⟩))).run Tryz.prog w = .ok (.agg #[x, y, z, u, v]) w := run_loadAt_mid (P := Tryz.prog) w b o 31 _ _ h rfl rfl rfl
end Go.Proofs.YtnkigifcilgmbaaGreatDoor

/- FarkasBoxes: its last region. -/
namespace Go.Proofs.YtnkigifcilgmbaaGreatDoor
open Go Go.RowKit Go.Maps
open _root_.Go.Proofs.YtnkigifcilgmbaaGreatDoor.Nm (IsI pw)
theorem enter_Check : Enters Tryz.prog 15 := ⟨fun xs w => by go_simp⟩
section
variable {X : Exit → Act → World → Prop} {K : Act → World → Prop} {a : Act} {w : World} {dst : Option Tmp} {ty : TypeId} {pos : String} {af : Array Edge} {gd : Option (Nat × Bool)} {k : Nat}
set_option maxRecDepth 100000 in
set_option maxHeartbeats 4000000 in
theorem op_cut1 {x : Operand} {b o : Nat} (hx : a.eval x = .slice (some ⟨b, o, none⟩) 4 4) (h : K (a.put dst (.slice (some ⟨b, o, none⟩) 1 4)) w) : Oper.wp Tryz.prog ⟨dst, .slice 22 x none (some (.const (.int .i64 1))) none, ty, pos, af, gd⟩ a w K X := by
  have e1 : a.eval (.const (.int .i64 1)) = .int .i64 1 := rfl
  unfold Oper.wp
  simp only [execOp, hx, Option.map_some, Option.map_none, e1]
  go_simp
  exact h
set_option maxRecDepth 100000 in
set_option maxHeartbeats 4000000 in
theorem op_eqlI {x y : Operand} {m n : Int} (hx : a.eval x = .int .i64 m) (hy : a.eval y = .int .i64 n) (h : K (a.put dst (.bool (m == n))) w) : Oper.wp Tryz.prog ⟨dst, .binOp .eql 3 x y 3, ty, pos, af, gd⟩ a w K X := by
  unfold Oper.wp
  simp only [execOp, hx, hy]
  go_simp
  exact h
end
def expB (lb : Nat) (cv : Value) : List Value := [.slice (some ⟨lb, 0, none⟩) 4 4, cv, .int .i64 0, .bool true, .bool true, .slice (some ⟨lb, 0, none⟩) 4 4, .slice (some ⟨lb, 0, none⟩) 1 4, cv, .int .i64 100, .bool true, .bool true, .bool true]
def keptB : List Nat := (List.range 67).filter fun i => !(i == 6)
set_option maxRecDepth 100000 in
set_option maxHeartbeats 4000000 in
theorem box_r8 {X : Exit → Act → World → Prop} {a0 : Act} {w0 : World} {lb fb : Nat} {c0 c1 c2 c3 c4 : Value} (hN : a0.tmps.size = 78) (h10 : a0.tmps[10]? = some (.slice (some ⟨lb, 0, none⟩) 4 4)) (h12 : a0.tmps[12]? = some (.pointer (some ⟨fb, 0, none⟩))) (hF : w0.heap[fb]? = some (.cells #[c0, c1, c2, c3, c4] 31))
    (hck1 : ∀ W, Below w0.heap.size w0 W → Calls Tryz.prog 15 #[.slice (some ⟨lb, 0, none⟩) 4 4, .agg #[c0, c1, c2, c3, c4]] W (VPost (.int .i64 0) W))
    (hck2 : ∀ W, Below w0.heap.size w0 W → Calls Tryz.prog 15 #[.slice (some ⟨lb, 0, none⟩) 1 4, .agg #[c0, c1, c2, c3, c4]] W (VPost (.int .i64 100) W))
    (hend : ∀ (a : Act) (w : World), a.defers = a0.defers → a.tmps.getD 6 undef = .bool true → Below w0.heap.size w0 w → X .normal a w) :
    (Code.region 8 (Nm.regionOf Tryz.f6 8).toArray true).wp Tryz.prog X a0 w0 := by
  have hl : (Nm.regionOf Tryz.f6 8).length = 12 := by kernel_rfl
  have hFlt : fb < w0.heap.size := (Array.getElem?_eq_some_iff.1 hF).1
  refine wp_region_any (by kernel_rfl) ?_
  refine seqG (l := (Nm.regionOf Tryz.f6 8)) (w0 := w0.drew) 78 keptB (fun j v => v = (expB lb (.agg #[c0, c1, c2, c3, c4])).getD j undef) (fun i => i == 2 || i == 8) (fun _ _ w => Below w0.heap.size w0 w) (by kernel_rfl) hN (by kernel_rfl) ?_ ((Below.refl _ w0).drew) (fun _ _ _ _ _ _ h => h) ?_ ?_ ?_
  · intro j hj
    rw [hl]
    simp at hj
    omega
  · intro j hj hcn a w Lf hn' hk hp hq
    rw [hl] at hj
    have hj' : j = 0 ∨ j = 1 ∨ j = 3 ∨ j = 4 ∨ j = 5 ∨ j = 6 ∨ j = 7 ∨ j = 9 ∨ j = 10 ∨ j = 11 := by
      simp at hcn
      omega
    have k10 : a.eval (.tmp 10) = .slice (some ⟨lb, 0, none⟩) 4 4 := getD_of ((hk 10 (by decide)).trans h10)
    have k12 : a.eval (.tmp 12) = .pointer (some ⟨fb, 0, none⟩) := getD_of ((hk 12 (by decide)).trans h12)
    have hFw := (hq.block fb hFlt).trans hF
    rcases hj' with rfl | rfl | rfl | rfl | rfl | rfl | rfl | rfl | rfl | rfl
    · exact st_want (wnone rfl) (op_move ⟨_, rfl, rfl, k10⟩)
    · exact st_want (wnone rfl) (op_load k12 (ld_Fk (range_block hFw)) ⟨_, rfl, rfl, rfl⟩)
    · exact st_want (wnone rfl) (op_eqlI (hp 2 rfl) rfl ⟨_, rfl, rfl, rfl⟩)
    · exact st_want (wnone rfl) (op_move ⟨_, rfl, rfl, hp 3 rfl⟩)
    · exact guarded (i := 4) (d := 71) rfl rfl (hp 4 rfl) (fun _ => op_move ⟨_, rfl, rfl, k10⟩) (fun h => by cases h)
    · exact guarded (i := 4) (d := 71) rfl rfl (hp 4 rfl) (fun _ => op_cut1 (hp 5 rfl) ⟨_, rfl, rfl, rfl⟩) (fun h => by cases h)
    · exact guarded (i := 4) (d := 71) rfl rfl (hp 4 rfl) (fun _ => op_load k12 (ld_Fk (range_block hFw)) ⟨_, rfl, rfl, rfl⟩) (fun h => by cases h)
    · exact guarded (i := 4) (d := 71) rfl rfl (hp 4 rfl) (fun _ => op_eqlI (hp 8 rfl) rfl ⟨_, rfl, rfl, rfl⟩) (fun h => by cases h)
    · exact st_want (wnone rfl) (op_pick (hp 4 rfl) ⟨_, rfl, rfl, hp 9 rfl⟩)
    · exact st_want (wnone rfl) (op_assign ⟨_, rfl, rfl, hp 10 rfl⟩)
  · intro j hcn a w Lf hn' hk hp0 hLj hd hq
    have hj' : j = 2 ∨ j = 8 := by simp at hcn; omega
    rcases hj' with rfl | rfl
    · have e1 : a.tmps.getD 67 undef = .slice (some ⟨lb, 0, none⟩) 4 4 := (hp0 0 rfl).2
      have e2 : a.tmps.getD 68 undef = .agg #[c0, c1, c2, c3, c4] := (hp0 1 rfl).2
      refine st_want (wnone rfl) (op_call enter_Check ?_)
      rw [show (#[Operand.tmp 67, .tmp 68]).map a.eval = #[.slice (some ⟨lb, 0, none⟩) 4 4, .agg #[c0, c1, c2, c3, c4]] by simp only [List.map_toArray, List.map_cons, List.map_nil, Act.eval]; rw [e1, e2]]
      refine (hck1 w hq).mono ?_
      rintro e w' ⟨rfl, hb'⟩
      exact ⟨_, rfl, _, rfl, rfl, hq.trans (hb'.mono hq.size)⟩
    · refine guarded (i := 4) (d := 71) rfl rfl (hp0 4 rfl).2 (fun _ => ?_) (fun h => by cases h)
      have e1 : a.tmps.getD 73 undef = .slice (some ⟨lb, 0, none⟩) 1 4 := (hp0 6 rfl).2
      have e2 : a.tmps.getD 74 undef = .agg #[c0, c1, c2, c3, c4] := (hp0 7 rfl).2
      refine op_call enter_Check ?_
      rw [show (#[Operand.tmp 73, .tmp 74]).map a.eval = #[.slice (some ⟨lb, 0, none⟩) 1 4, .agg #[c0, c1, c2, c3, c4]] by simp only [List.map_toArray, List.map_cons, List.map_nil, Act.eval]; rw [e1, e2]]
      refine (hck2 w hq).mono ?_
      rintro e w' ⟨rfl, hb'⟩
      exact ⟨_, rfl, _, rfl, rfl, hq.trans (hb'.mono hq.size)⟩
  · intro a w hdf hn' hk hp hq
    exact hend a w hdf (hp 11 (by rw [hl]; decide)) hq
end Go.Proofs.YtnkigifcilgmbaaGreatDoor

namespace Go.Proofs.YtnkigifcilgmbaaGreatDoor
open Go Go.RowKit Go.Maps
open _root_.Go.Proofs.YtnkigifcilgmbaaGreatDoor.Nm (IsI pw)
theorem b4 {z : Int} (h : z.natAbs < 10000) : (z.natAbs : Int) < Nm.T4.pw 4000 := by
  have h1 := Nm.T4.pw_mono (a := 1) (b := 4000) (by omega)
  have h2 : Nm.T4.pw 1 = 10000 := by decide
  omega
/-- A block that holds one coefficient of x. -/
def BoxC (V : World) (g : Nat) (c : ByteArray) : Prop := V.heap[g]? = some (.cells #[.string bx, .string c] 48)
theorem BoxC.more {V V' : World} {g : Nat} {c : ByteArray} (h : BoxC V g c) (hb : Below V.heap.size V V') : BoxC V' g c := (hb.block g (Array.getElem?_eq_some_iff.1 h).1).trans h
theorem BoxC.isL {V : World} {g : Nat} {c K : ByteArray} (h : BoxC V g c) : IsL V V.heap.size (.agg #[.slice (some ⟨g, 0, none⟩) 1 1, .string K]) [(bx, c)] K := by
  refine ⟨_, _, _, rfl, rfl, Nat.le_refl _, by omega, fun _ => ⟨g, 0, rfl, (Array.getElem?_eq_some_iff.1 h).1, fun j hj x hx => ?_⟩⟩
  obtain rfl : j = 0 := by omega
  have : x = (bx, c) := by simpa using hx.symm
  subst this
  exact range_block (cs := [.string bx, .string c]) h
theorem box_rows {V : World} {lb g1 g2 g3 g4 : Nat} {T1 T2 T3 T4 : ByteArray} (h1 : BoxC V g1 b2) (h2 : BoxC V g2 bm2) (h3 : BoxC V g3 b1) (h4 : BoxC V g4 bm1) (hl : V.heap[lb]? = some (.cells #[.slice (some ⟨g1, 0, none⟩) 1 1, .string T1, .slice (some ⟨g2, 0, none⟩) 1 1, .string T2, .slice (some ⟨g3, 0, none⟩) 1 1, .string T3, .slice (some ⟨g4, 0, none⟩) 1 1, .string T4] 28)) :
    Row V.heap.size (some ⟨lb, 0, none⟩) 4 4 2 (LAt V V.heap.size [([(bx, b2)], T1), ([(bx, bm2)], T2), ([(bx, b1)], T3), ([(bx, bm1)], T4)]) ∧ Row V.heap.size (some ⟨lb, 0, none⟩) 1 4 2 (LAt V V.heap.size [([(bx, b2)], T1)]) := by
  have c : ∀ (j : Nat) u, (#[Value.slice (some ⟨g1, 0, none⟩) 1 1, .string T1, .slice (some ⟨g2, 0, none⟩) 1 1, .string T2, .slice (some ⟨g3, 0, none⟩) 1 1, .string T3, .slice (some ⟨g4, 0, none⟩) 1 1, .string T4] : Array Value)[j]? = some u → V.cell? ⟨lb, j, none⟩ = some u := fun j u hu => (blk hl).2.1 j u hu
  have rg : ∀ (o : Nat) x y, V.cell? ⟨lb, o, none⟩ = some x → V.cell? ⟨lb, o + 1, none⟩ = some y → V.rangeAt lb o [x, y] := fun o x y hx hy t u hu => by
    match t, hu with
    | 0, hu => simp at hu; subst hu; exact hx
    | 1, hu => simp at hu; subst hu; exact hy
    | t + 2, hu => simp at hu
  have hlt := (Array.getElem?_eq_some_iff.1 hl).1
  refine ⟨⟨by omega, by omega, fun _ => ⟨lb, 0, rfl, hlt, fun j hj l hl => ?_⟩⟩, by omega, by omega, fun _ => ⟨lb, 0, rfl, hlt, fun j hj l hl => ?_⟩⟩
  · have hj4 : j = 0 ∨ j = 1 ∨ j = 2 ∨ j = 3 := by omega
    rcases hj4 with rfl | rfl | rfl | rfl
    · simp at hl; subst hl; exact ⟨_, _, rg 0 _ _ (c 0 _ rfl) (c 1 _ rfl), h1.isL⟩
    · simp at hl; subst hl; exact ⟨_, _, rg 2 _ _ (c 2 _ rfl) (c 3 _ rfl), h2.isL⟩
    · simp at hl; subst hl; exact ⟨_, _, rg 4 _ _ (c 4 _ rfl) (c 5 _ rfl), h3.isL⟩
    · simp at hl; subst hl; exact ⟨_, _, rg 6 _ _ (c 6 _ rfl) (c 7 _ rfl), h4.isL⟩
  · obtain rfl : j = 0 := by omega
    simp at hl
    subst hl
    exact ⟨_, _, rg 0 _ _ (c 0 _ rfl) (c 1 _ rfl), h1.isL⟩
theorem sums_row {V : World} {g : Nat} {x y : ByteArray} (h : V.heap[g]? = some (.cells #[.string x, .string y, .string b0, .string b0, .string b2] 9)) : Row V.heap.size (some ⟨g, 0, none⟩) 5 5 1 (BA V [x, y, b0, b0, b2]) := by
  refine ⟨by omega, by omega, fun _ => ⟨g, 0, rfl, (Array.getElem?_eq_some_iff.1 h).1, fun j hj s hs => ?_⟩⟩
  have hj5 : j = 0 ∨ j = 1 ∨ j = 2 ∨ j = 3 ∨ j = 4 := by omega
  rcases hj5 with rfl | rfl | rfl | rfl | rfl <;> (simp at hs; subst hs)
  · exact (blk h).2.1 0 _ rfl
  · exact (blk h).2.1 1 _ rfl
  · exact (blk h).2.1 2 _ rfl
  · exact (blk h).2.1 3 _ rfl
  · exact (blk h).2.1 4 _ rfl
theorem box_fk {V : World} {g5 s1 s2 fl : Nat} {tw : Int} (h5 : BoxC V g5 b1) (h1 : V.heap[s1]? = some (.cells #[.string b0, .string b1, .string b0, .string b0, .string b2] 9)) (h2 : V.heap[s2]? = some (.cells #[.string b1, .string b0, .string b0, .string b0, .string b2] 9))
    (hl : V.heap[fl]? = some (.cells #[.slice (some ⟨s1, 0, none⟩) 5 5, .bool false, .slice none 0 0, .string ⟨#[]⟩, .slice none 0 0, .slice (some ⟨s2, 0, none⟩) 5 5, .bool false, .slice none 0 0, .string ⟨#[]⟩, .slice none 0 0] 31)) :
    IsFk V V.heap.size 1 [.slice none 0 0, .bool true, .slice (some ⟨g5, 0, none⟩) 1 1, .string (tx tw), .slice (some ⟨fl, 0, none⟩) 2 2] (boxF tw) := by
  obtain ⟨_, _, _, e5, hn5, hr5⟩ := h5.isL (K := tx tw)
  have nilR : ∀ {k : Nat} {p : Nat → Nat → Nat → Prop}, Row V.heap.size none 0 0 k p := fun {k p} => ⟨Nat.le_refl _, by omega, fun h => absurd rfl h⟩
  have lf : ∀ (f : Fk) (s o : Nat) (x y : ByteArray), f = ⟨[x, y, b0, b0, b2], false, [], ⟨#[]⟩, []⟩ → V.heap[s]? = some (.cells #[.string x, .string y, .string b0, .string b0, .string b2] 9) → V.rangeAt fl o [.slice (some ⟨s, 0, none⟩) 5 5, .bool false, .slice none 0 0, .string ⟨#[]⟩, .slice none 0 0] → FkAt V V.heap.size 1 fl o f := fun f s o x y hf hs hr => by
    subst hf
    exact ⟨(Array.getElem?_eq_some_iff.1 hl).1, by simp, _, _, _, _, _, _, _, _, _, hr, rfl, sums_row hs, rfl, nilR, rfl, nilR⟩
  refine ⟨by simp [boxF], _, _, _, _, _, _, _, _, _, rfl, rfl, nilR, rfl, ?_, rfl, by omega, by omega, fun _ => ⟨fl, 0, rfl, (Array.getElem?_eq_some_iff.1 hl).1, fun j hj g hg => ?_⟩⟩
  · simp at e5
    obtain ⟨rfl, rfl, rfl⟩ := e5
    exact hr5
  · have hj2 : j = 0 ∨ j = 1 := by omega
    rcases hj2 with rfl | rfl
    · have : g = fA5 := by simpa [boxF] using hg.symm
      subst this
      refine lf _ s1 _ b0 b1 rfl h1 fun t u hu => (blk hl).2.1 _ u ?_
      match t, hu with
      | 0, hu => simpa using hu
      | 1, hu => simpa using hu
      | 2, hu => simpa using hu
      | 3, hu => simpa using hu
      | 4, hu => simpa using hu
      | t + 5, hu => simp at hu
    · have : g = fB5 := by simpa [boxF] using hg.symm
      subst this
      refine lf _ s2 _ b1 b0 rfl h2 fun t u hu => (blk hl).2.1 _ u ?_
      match t, hu with
      | 0, hu => simpa using hu
      | 1, hu => simpa using hu
      | 2, hu => simpa using hu
      | 3, hu => simpa using hu
      | 4, hu => simpa using hu
      | t + 5, hu => simp at hu
set_option maxRecDepth 100000 in
set_option maxHeartbeats 8000000 in
theorem boxes_walk (lo sz tw : Int) (w : World) (hlo : -128 ≤ lo ∧ lo ≤ 127) (hsz : 0 ≤ sz ∧ sz ≤ 255) (htw : -128 ≤ tw ∧ tw ≤ 127) (hT : Nm.Tab w) : Calls Tryz.prog 6 #[.int .i8 lo, .int .u8 sz, .int .i8 tw] w fun e w' => e = .returned (.bool true) ∧ Below w.heap.size w w' := by
  have hmod : 0 ≤ sz % 12 ∧ sz % 12 < 12 := by omega
  go_enter Tryz.func6, Tryz.ntmps6
  go_wp2_with fail
  refine (known_any hT).mono ?_
  rintro e wr0 ⟨rfl, hb0⟩
  have H0 := hide hb0
  clear hb0
  go_wp2_with fail
  refine (Nm.ofN_any (2 * tw + 1) _ (by omega) (by omega)).mono ?_
  rintro e wa1 ⟨r1, rfl, hba, hN⟩
  obtain ⟨fb1, fa1, fl1, fc1, rfl⟩ := hN.form
  have HN := hide hN
  have HA := hide hba
  clear hN hba
  go_wp2_with fail
  refine (Nm.textN_any _ (2 * tw + 1) _ (unhide HN) (b4 (by omega))).mono ?_
  rintro e wt1 ⟨rfl, hbt⟩
  obtain ⟨T1, hT1⟩ : ∃ T, (⟨(Lib.itoa (2 * tw + 1)).toArray⟩ : ByteArray) = T := ⟨_, rfl⟩
  rw [hT1]
  obtain ⟨wc1, ec, hbc, hsc, hcc, hhc⟩ := box_new wt1 #[.string ⟨#[120]⟩, .string ⟨#[50]⟩] 48
  have HE := hide ec
  have hbp : Below wr0.heap.size wr0 wc1 := (unhide HA).trans ((hbt.mono (unhide HA).size).trans (hbc.mono (Nat.le_trans (unhide HA).size hbt.size)))
  have HC := hide (And.intro hbp (show BoxC wc1 wt1.heap.size b2 from hhc))
  have HT1 : Hid (T1 = tx (2 * tw + 1)) := hT1.symm
  clear hT1 hbt ec hbc hsc hcc hhc hbp HN HA
  go_wp2_with fail
  rw [unhide HE]
  refine (row_any (some ⟨wt1.heap.size, 0, none⟩) 1 1 _ _).mono ?_
  rintro e wr1 ⟨rfl, hbr⟩
  obtain ⟨g1, hg1⟩ : ∃ g, wt1.heap.size = g := ⟨_, rfl⟩
  rw [hg1]
  rw [hg1] at HC
  have hbq : Below wr0.heap.size wr0 wr1 := (unhide HC).1.trans (hbr.mono (unhide HC).1.size)
  have H1 := hide (And.intro ((unhide H0).trans (hbq.mono (unhide H0).size)) ((unhide HC).2.more hbr))
  clear hbr hbq hg1 HC HE
  clear H0
  go_wp2_with fail
  refine (Nm.ofN_any (-(2 * tw + 1)) _ (by omega) (by omega)).mono ?_
  rintro e wa2 ⟨r2, rfl, hba, hN⟩
  obtain ⟨fb2, fa2, fl2, fc2, rfl⟩ := hN.form
  have HN := hide hN
  have HA := hide hba
  clear hN hba
  go_wp2_with fail
  refine (Nm.textN_any _ (-(2 * tw + 1)) _ (unhide HN) (b4 (by omega))).mono ?_
  rintro e wt2 ⟨rfl, hbt⟩
  obtain ⟨T2, hT2⟩ : ∃ T, (⟨(Lib.itoa (-(2 * tw + 1))).toArray⟩ : ByteArray) = T := ⟨_, rfl⟩
  rw [hT2]
  obtain ⟨wc2, ec, hbc, hsc, hcc, hhc⟩ := box_new wt2 #[.string ⟨#[120]⟩, .string ⟨#[45, 50]⟩] 48
  have HE := hide ec
  have hbp : Below wr1.heap.size wr1 wc2 := (unhide HA).trans ((hbt.mono (unhide HA).size).trans (hbc.mono (Nat.le_trans (unhide HA).size hbt.size)))
  have HC := hide (And.intro hbp (show BoxC wc2 wt2.heap.size bm2 from hhc))
  have HT2 : Hid (T2 = tx (-(2 * tw + 1))) := hT2.symm
  clear hT2 hbt ec hbc hsc hcc hhc hbp HN HA
  go_wp2_with fail
  rw [unhide HE]
  refine (row_any (some ⟨wt2.heap.size, 0, none⟩) 1 1 _ _).mono ?_
  rintro e wr2 ⟨rfl, hbr⟩
  obtain ⟨g2, hg2⟩ : ∃ g, wt2.heap.size = g := ⟨_, rfl⟩
  rw [hg2]
  rw [hg2] at HC
  have hbq : Below wr1.heap.size wr1 wr2 := (unhide HC).1.trans (hbr.mono (unhide HC).1.size)
  have H2 := hide (And.intro ((unhide H1).1.trans (hbq.mono (unhide H1).1.size)) (And.intro (((unhide H1).2).more hbq) ((unhide HC).2.more hbr)))
  clear hbr hbq hg2 HC HE
  clear H1
  go_wp2_with fail
  refine (Nm.ofN_any (lo + sz % 12) _ (by omega) (by omega)).mono ?_
  rintro e wa3 ⟨r3, rfl, hba, hN⟩
  obtain ⟨fb3, fa3, fl3, fc3, rfl⟩ := hN.form
  have HN := hide hN
  have HA := hide hba
  clear hN hba
  go_wp2_with fail
  refine (Nm.textN_any _ (lo + sz % 12) _ (unhide HN) (b4 (by omega))).mono ?_
  rintro e wt3 ⟨rfl, hbt⟩
  obtain ⟨T3, hT3⟩ : ∃ T, (⟨(Lib.itoa (lo + sz % 12)).toArray⟩ : ByteArray) = T := ⟨_, rfl⟩
  rw [hT3]
  obtain ⟨wc3, ec, hbc, hsc, hcc, hhc⟩ := box_new wt3 #[.string ⟨#[120]⟩, .string ⟨#[49]⟩] 48
  have HE := hide ec
  have hbp : Below wr2.heap.size wr2 wc3 := (unhide HA).trans ((hbt.mono (unhide HA).size).trans (hbc.mono (Nat.le_trans (unhide HA).size hbt.size)))
  have HC := hide (And.intro hbp (show BoxC wc3 wt3.heap.size b1 from hhc))
  have HT3 : Hid (T3 = tx (lo + sz % 12)) := hT3.symm
  clear hT3 hbt ec hbc hsc hcc hhc hbp HN HA
  go_wp2_with fail
  rw [unhide HE]
  refine (row_any (some ⟨wt3.heap.size, 0, none⟩) 1 1 _ _).mono ?_
  rintro e wr3 ⟨rfl, hbr⟩
  obtain ⟨g3, hg3⟩ : ∃ g, wt3.heap.size = g := ⟨_, rfl⟩
  rw [hg3]
  rw [hg3] at HC
  have hbq : Below wr2.heap.size wr2 wr3 := (unhide HC).1.trans (hbr.mono (unhide HC).1.size)
  have H3 := hide (And.intro ((unhide H2).1.trans (hbq.mono (unhide H2).1.size)) (And.intro (((unhide H2).2.1).more hbq) (And.intro (((unhide H2).2.2).more hbq) ((unhide HC).2.more hbr))))
  clear hbr hbq hg3 HC HE
  clear H2
  go_wp2_with fail
  refine (Nm.ofN_any (-lo) _ (by omega) (by omega)).mono ?_
  rintro e wa4 ⟨r4, rfl, hba, hN⟩
  obtain ⟨fb4, fa4, fl4, fc4, rfl⟩ := hN.form
  have HN := hide hN
  have HA := hide hba
  clear hN hba
  go_wp2_with fail
  refine (Nm.textN_any _ (-lo) _ (unhide HN) (b4 (by omega))).mono ?_
  rintro e wt4 ⟨rfl, hbt⟩
  obtain ⟨T4, hT4⟩ : ∃ T, (⟨(Lib.itoa (-lo)).toArray⟩ : ByteArray) = T := ⟨_, rfl⟩
  rw [hT4]
  obtain ⟨wc4, ec, hbc, hsc, hcc, hhc⟩ := box_new wt4 #[.string ⟨#[120]⟩, .string ⟨#[45, 49]⟩] 48
  have HE := hide ec
  have hbp : Below wr3.heap.size wr3 wc4 := (unhide HA).trans ((hbt.mono (unhide HA).size).trans (hbc.mono (Nat.le_trans (unhide HA).size hbt.size)))
  have HC := hide (And.intro hbp (show BoxC wc4 wt4.heap.size bm1 from hhc))
  have HT4 : Hid (T4 = tx (-lo)) := hT4.symm
  clear hT4 hbt ec hbc hsc hcc hhc hbp HN HA
  go_wp2_with fail
  rw [unhide HE]
  refine (row_any (some ⟨wt4.heap.size, 0, none⟩) 1 1 _ _).mono ?_
  rintro e wr4 ⟨rfl, hbr⟩
  obtain ⟨g4, hg4⟩ : ∃ g, wt4.heap.size = g := ⟨_, rfl⟩
  rw [hg4]
  rw [hg4] at HC
  have hbq : Below wr3.heap.size wr3 wr4 := (unhide HC).1.trans (hbr.mono (unhide HC).1.size)
  have H4 := hide (And.intro ((unhide H3).1.trans (hbq.mono (unhide H3).1.size)) (And.intro (((unhide H3).2.1).more hbq) (And.intro (((unhide H3).2.2.1).more hbq) (And.intro (((unhide H3).2.2.2).more hbq) ((unhide HC).2.more hbr)))))
  clear hbr hbq hg4 HC HE
  clear H3
  obtain ⟨wl, el, hbl, hsl, hcl, hhl⟩ := box_new wr4 #[.slice (some ⟨g1, 0, none⟩) 1 1, .string T1, .slice (some ⟨g2, 0, none⟩) 1 1, .string T2, .slice (some ⟨g3, 0, none⟩) 1 1, .string T3, .slice (some ⟨g4, 0, none⟩) 1 1, .string T4] 28
  obtain ⟨lb, hlb⟩ : ∃ lb, wr4.heap.size = lb := ⟨_, rfl⟩
  have HEl := hide (And.intro el hlb)
  rw [hlb] at hhl
  have HLl := hide (And.intro hbl hhl)
  have H44 := hide (And.intro ((unhide H4).1.trans (hbl.mono (unhide H4).1.size)) (And.intro ((unhide H4).2.1.more hbl) (And.intro ((unhide H4).2.2.1.more hbl) (And.intro ((unhide H4).2.2.2.1.more hbl) ((unhide H4).2.2.2.2.more hbl)))))
  clear H4 el hbl hsl hcl hhl hlb
  go_wp2_with fail
  rw [(unhide HEl).1, (unhide HEl).2]
  refine (Nm.ofN_any (tw) _ (by omega) (by omega)).mono ?_
  rintro e wa5 ⟨r5, rfl, hba, hN⟩
  obtain ⟨fb5, fa5, fl5, fc5, rfl⟩ := hN.form
  have HN := hide hN
  have HA := hide hba
  clear hN hba
  go_wp2_with fail
  refine (Nm.textN_any _ (tw) _ (unhide HN) (b4 (by omega))).mono ?_
  rintro e wt5 ⟨rfl, hbt⟩
  obtain ⟨T5, hT5⟩ : ∃ T, (⟨(Lib.itoa (tw)).toArray⟩ : ByteArray) = T := ⟨_, rfl⟩
  rw [hT5]
  obtain ⟨wc5, ec, hbc, hsc, hcc, hhc⟩ := box_new wt5 #[.string ⟨#[120]⟩, .string ⟨#[49]⟩] 48
  have HE := hide ec
  have hbp : Below wl.heap.size wl wc5 := (unhide HA).trans ((hbt.mono (unhide HA).size).trans (hbc.mono (Nat.le_trans (unhide HA).size hbt.size)))
  have HC := hide (And.intro hbp (show BoxC wc5 wt5.heap.size b1 from hhc))
  have HT5 : Hid (T5 = tx (tw)) := hT5.symm
  clear hT5 hbt ec hbc hsc hcc hhc hbp HN HA
  go_wp2_with fail
  rw [unhide HE]
  refine (row_any (some ⟨wt5.heap.size, 0, none⟩) 1 1 _ _).mono ?_
  rintro e wr5 ⟨rfl, hbr⟩
  obtain ⟨g5, hg5⟩ : ∃ g, wt5.heap.size = g := ⟨_, rfl⟩
  rw [hg5]
  rw [hg5] at HC
  have hbq : Below wl.heap.size wl wr5 := (unhide HC).1.trans (hbr.mono (unhide HC).1.size)
  have hhl5 := (hbq.block lb (Array.getElem?_eq_some_iff.1 (unhide HLl).2).1).trans (unhide HLl).2
  have HLL := hide hhl5
  clear hhl5
  have H5 := hide (And.intro ((unhide H44).1.trans (hbq.mono (unhide H44).1.size)) (And.intro (((unhide H44).2.1).more hbq) (And.intro (((unhide H44).2.2.1).more hbq) (And.intro (((unhide H44).2.2.2.1).more hbq) (And.intro (((unhide H44).2.2.2.2).more hbq) ((unhide HC).2.more hbr))))))
  clear hbr hbq hg5 HC HE
  clear H44
  clear HLl HEl
  go_wp2_with fail
  obtain ⟨V1, e1, hb1, hs1, hc1, hh1⟩ := box_new wr5 #[.slice (some ⟨g5, 0, none⟩) 1 1, .string T5] 28
  obtain ⟨V2, e2, hb2, hs2, hc2, hh2⟩ := box_new V1 #[.string ⟨#[48]⟩, .string ⟨#[49]⟩, .string ⟨#[48]⟩, .string ⟨#[48]⟩, .string ⟨#[50]⟩] 9
  obtain ⟨V3, e3, hb3, hs3, hc3, hh3⟩ := box_new V2 #[.string ⟨#[49]⟩, .string ⟨#[48]⟩, .string ⟨#[48]⟩, .string ⟨#[48]⟩, .string ⟨#[50]⟩] 9
  obtain ⟨V4, e4, hb4, hs4, hc4, hh4⟩ := box_new V3 #[.slice (some ⟨wr5.heap.size + 1, 0, none⟩) 5 5, .bool false, .slice none 0 0, .string ⟨#[]⟩, .slice none 0 0, .slice (some ⟨wr5.heap.size + 1 + 1, 0, none⟩) 5 5, .bool false, .slice none 0 0, .string ⟨#[]⟩, .slice none 0 0] 31
  obtain ⟨V5, e5, hb5, hs5, hc5, hh5⟩ := box_new V4 #[.slice none 0 0, .bool true, .slice (some ⟨g5, 0, none⟩) 1 1, .string T5, .slice (some ⟨wr5.heap.size + 1 + 1 + 1, 0, none⟩) 2 2] 31
  rw [e1, e2, e3, e4, e5]
  have hB5 : Below wr5.heap.size wr5 V5 := hb1.trans ((hb2.mono (by omega)).trans ((hb3.mono (by omega)).trans ((hb4.mono (by omega)).trans (hb5.mono (by omega)))))
  have hm2 : V5.heap[wr5.heap.size + 1]? = some (.cells #[.string b0, .string b1, .string b0, .string b0, .string b2] 9) := by
    rw [← hs1]
    exact (hb5.block _ (by omega)).trans ((hb4.block _ (by omega)).trans ((hb3.block _ (by omega)).trans hh2))
  have hm3 : V5.heap[wr5.heap.size + 1 + 1]? = some (.cells #[.string b1, .string b0, .string b0, .string b0, .string b2] 9) := by
    rw [← hs1, ← hs2]
    exact (hb5.block _ (by omega)).trans ((hb4.block _ (by omega)).trans hh3)
  have hm4 := (hb5.block V3.heap.size (by omega)).trans hh4
  rw [show V3.heap.size = wr5.heap.size + 1 + 1 + 1 by omega] at hm4
  have hm5 := hh5
  rw [show V4.heap.size = wr5.heap.size + 1 + 1 + 1 + 1 by omega] at hm5
  obtain ⟨kw, k1, k2, k3, k4, k5⟩ := unhide H5
  have hbw : Below w.heap.size w V5 := kw.trans (hB5.mono kw.size)
  have hlb5 := (hB5.block lb (Array.getElem?_eq_some_iff.1 (unhide HLL)).1).trans (unhide HLL)
  have t1 := unhide HT1
  have t2 := unhide HT2
  have t3 := unhide HT3
  have t4 := unhide HT4
  have t5 := unhide HT5
  have hcnt : (boxF tw).cnt ≤ 33554432 := by
    rw [Fk.cnt_two (f := boxF tw) (a := fA5) (b := fB5) rfl]
    simp [fA5, fB5, Fk.cnt]
  have mv : ∀ W, Below V5.heap.size V5 W → ∀ {b : Nat} {o : Obj}, V5.heap[b]? = some o → W.heap[b]? = some o := fun W hW {b o} h => (hW.block b (Array.getElem?_eq_some_iff.1 h).1).trans h
  have hfk : ∀ W, Below V5.heap.size V5 W → IsFk W W.heap.size 1 [.slice none 0 0, .bool true, .slice (some ⟨g5, 0, none⟩) 1 1, .string T5, .slice (some ⟨wr5.heap.size + 1 + 1 + 1, 0, none⟩) 2 2] (boxF tw) := fun W hW => by
    rw [t5]
    exact box_fk ((k5.more hB5).more hW) (mv W hW hm2) (mv W hW hm3) (mv W hW hm4)
  have hrw : ∀ W, Below V5.heap.size V5 W → Row W.heap.size (some ⟨lb, 0, none⟩) 4 4 2 (LAt W W.heap.size (boxL (2 * tw + 1) lo (sz % 12))) ∧ Row W.heap.size (some ⟨lb, 0, none⟩) 1 4 2 (LAt W W.heap.size [([(bx, b2)], tx (2 * tw + 1))]) := fun W hW => by
    have := box_rows ((k1.more hB5).more hW) ((k2.more hB5).more hW) ((k3.more hB5).more hW) ((k4.more hB5).more hW) (mv W hW hlb5)
    rw [t1, t2, t3, t4] at this
    exact this
  refine box_r8 (w0 := V5) (lb := lb) (fb := wr5.heap.size + 1 + 1 + 1 + 1) rfl rfl rfl hm5 (fun W hW => ?_) (fun W hW => ?_) ?_
  · refine (Check_any (hrw W hW).1 rfl (by omega) (fun l hl => ?_) (hfk W hW) hcnt (Nm.Tab.below hT (hbw.trans (hW.mono hbw.size)))).mono ?_
    · simp [boxL] at hl
      rcases hl with rfl | rfl | rfl | rfl <;> simp
    · rintro e W' ⟨z, rfl, hb', _, hz⟩
      obtain rfl := (hz _ (box_read (by omega) (by omega) (by omega))).1 (box_yes (by omega))
      exact ⟨rfl, hb'⟩
  · refine (Check_any (hrw W hW).2 rfl (by omega) (fun l hl => ?_) (hfk W hW) hcnt (Nm.Tab.below hT (hbw.trans (hW.mono hbw.size)))).mono ?_
    · simp at hl
      subst hl
      simp
    · rintro e W' ⟨z, rfl, hb', _, hz⟩
      obtain rfl := (hz _ (box_read1 (by omega))).2 box_no
      exact ⟨rfl, hb'⟩
  · intro a V hd h6 hbV
    obtain ⟨tm, df⟩ := a
    obtain rfl : df = [] := hd
    have h6' : (⟨tm, []⟩ : Act).tmps.getD 6 undef = .bool true := h6
    have HF := hide (And.intro h6' (hbw.trans (hbV.mono hbw.size)))
    clear h6 h6' hbV hrw hfk mv hcnt t1 t2 t3 t4 t5 hlb5 hbw kw k1 k2 k3 k4 k5 hm5 hm4 hm3 hm2 hB5 e1 e2 e3 e4 e5 hb1 hb2 hb3 hb4 hb5 hs1 hs2 hs3 hs4 hs5 hc1 hc2 hc3 hc4 hc5 hh1 hh2 hh3 hh4 hh5 H5 HLL HT1 HT2 HT3 HT4 HT5
    go_wp2
    go_ret
    rw [(unhide HF).1]
    exact ⟨rfl, (unhide HF).2⟩
end Go.Proofs.YtnkigifcilgmbaaGreatDoor
