/- FarkasDeep: the law's walk. -/
import Derived.Test.YtnkigifcilgmbaaDoorZAO
import Derived.BigRegion
set_option linter.unusedVariables false
set_option linter.unusedSimpArgs false

/- avowlaw10: known() is true. -/
namespace Go.Proofs.YtnkigifcilgmbaaDoor
open Go Go.RowKit Go.Maps
open _root_.Go.Proofs.YtnkigifcilgmbaaDoor.Nm (IsI pw)
theorem hC0 : ∀ l ∈ ls0, l.1.length ≤ 1000 := fun l hl => by
  simp [ls0] at hl
  rcases hl with rfl | rfl <;> simp
theorem len0 : ls0.length = 2 := rfl
set_option maxRecDepth 100000 in
set_option maxHeartbeats 8000000 in
theorem known_any {w : World} (hT : Nm.Tab w) : Calls Tryd.prog 5 #[] w (VPost (.bool true) w) := by
  obtain ⟨A1, eA1, hbA1, hsA1, hcA1, hhA1⟩ := box_new w #[.string ⟨#[120]⟩, .string ⟨#[49]⟩] 34
  have HRow1 := hide (row_any (some ⟨w.heap.size, 0, none⟩) 1 1 ⟨#[49]⟩ A1)
  have HE1 := hide eA1
  have H1 := hide (And.intro hbA1 (And.intro hsA1 hhA1))
  have HT := hide hT
  clear eA1 hbA1 hsA1 hcA1 hhA1 hT
  go_enter Tryd.func5, Tryd.ntmps5
  go_wp2_with fail
  rw [unhide HE1]
  refine (unhide HRow1).mono ?_
  rintro e w1 ⟨rfl, hb1⟩
  obtain ⟨A2, eA2, hbA2, hsA2, hcA2, hhA2⟩ := box_new w1 #[.string ⟨#[120]⟩, .string ⟨#[45, 49]⟩] 34
  have HRow2 := hide (row_any (some ⟨w1.heap.size, 0, none⟩) 1 1 ⟨#[45, 50]⟩ A2)
  have HE2 := hide eA2
  have H2 := hide (And.intro hb1 (And.intro hbA2 (And.intro hsA2 hhA2)))
  clear hb1 eA2 hbA2 hsA2 hcA2 hhA2 HRow1 HE1
  go_wp2_with fail
  rw [unhide HE2]
  refine (unhide HRow2).mono ?_
  rintro e w2 ⟨rfl, hb2⟩
  obtain ⟨hbA1, hsA1, hhA1⟩ := unhide H1
  obtain ⟨hb1, hbA2, hsA2, hhA2⟩ := unhide H2
  obtain ⟨A3, eA3, hbA3, hsA3, hcA3, hhA3⟩ := box_new w2 #[.slice (some ⟨w.heap.size, 0, none⟩) 1 1, .string ⟨#[49]⟩, .slice (some ⟨w1.heap.size, 0, none⟩) 1 1, .string ⟨#[45, 50]⟩] 26
  have q1 := hb1.size
  have q2 := hb2.size
  have hg1 : A3.heap[w.heap.size]? = some (.cells #[.string ⟨#[120]⟩, .string ⟨#[49]⟩] 34) := (hbA3.block _ (by omega)).trans ((hb2.block _ (by omega)).trans ((hbA2.block _ (by omega)).trans ((hb1.block _ (by omega)).trans hhA1)))
  have hg2 : A3.heap[w1.heap.size]? = some (.cells #[.string ⟨#[120]⟩, .string ⟨#[45, 49]⟩] 34) := (hbA3.block _ (by omega)).trans ((hb2.block _ (by omega)).trans hhA2)
  have hKL : KL w2.heap.size A3 := KL.mk hg1 hg2 hhA3
  have hb03 : Below w.heap.size w A3 := hbA1.trans ((hb1.mono (by omega)).trans ((hbA2.mono (by omega)).trans ((hb2.mono (by omega)).trans (hbA3.mono (by omega)))))
  obtain ⟨A4, eA4, hbA4, hsA4, hcA4, hhA4⟩ := box_new A3 #[.string ⟨#[50]⟩, .string ⟨#[49]⟩] 9
  have hKL4 := hKL.more hbA4
  have hb04 : Below w.heap.size w A4 := hb03.trans (hbA4.mono hb03.size)
  have hba4 : Row A4.heap.size (some ⟨A3.heap.size, 0, none⟩) 2 2 1 (BA A4 [b2, b1]) := BA.mk (bs := [b2, b1]) hhA4 (fun j s hs => by
    match j, hs with
    | 0, hs => simpa [b2] using hs
    | 1, hs => simpa [b1] using hs
    | j + 2, hs => simp at hs) (by simp)
  have HSum := hide (Sum_any (ls := ls0) (bs := [b2, b1]) hKL4.2 len0.symm hba4 rfl (Nat.le_refl _) (by omega) hC0 (Nm.Tab.below (unhide HT) hb04))
  obtain ⟨lb, hlb⟩ : ∃ lb, w2.heap.size = lb := ⟨_, rfl⟩
  have hszA3 : A3.heap.size = lb + 1 := by omega
  rw [hlb] at hKL4 HSum
  rw [hszA3] at HSum
  have HE3 := hide (And.intro eA3 eA4)
  have hlc : A4.cell? ⟨lb, 0, none⟩ = some (.slice (some ⟨w.heap.size, 0, none⟩) 1 1) ∧ A4.cell? ⟨lb, 1, none⟩ = some (.string ⟨#[49]⟩) := by
    have hl4 := (hbA4.block w2.heap.size (by omega)).trans hhA3
    rw [hlb] at hl4
    exact ⟨(blk hl4).2.1 0 _ rfl, (blk hl4).2.1 1 _ rfl⟩
  have hA4s : lb + 2 ≤ A4.heap.size := by omega
  have H4 := hide (And.intro hKL4 (And.intro hb04 (And.intro hlc hA4s)))
  clear hbA1 hsA1 hhA1 hb1 hbA2 hsA2 hhA2 eA3 hbA3 hsA3 hcA3 hhA3 q1 q2 hg1 hg2 hKL hb03 eA4 hbA4 hsA4 hcA4 hhA4 hKL4 hb04 hba4 hb2 HRow2 HE2 H1 H2
  go_wp2_with fail
  rw [(unhide HE3).1, (unhide HE3).2]
  refine (unhide HSum).mono ?_
  rintro e w5 ⟨r, rfl, hb5, -, hq⟩
  obtain ⟨ss, hnd, hss, hIL⟩ := hq _ sum21
  obtain rfl := ss_x hnd hss
  rw [co_x, k_0] at hIL
  obtain ⟨a, n, c, rfl, hn, hR⟩ := hIL
  obtain rfl : n = 1 := hn
  obtain ⟨g, o, rfl, hg, hgj⟩ := hR.2.2 (by omega)
  have hgc := hgj 0 (by omega) (bx, b1) rfl
  have hN1 : w5.cell? ⟨g, o + 1, none⟩ = some (.string ⟨#[49]⟩) := by
    have := hgc 1 _ rfl
    rw [show o + 0 * 2 + 1 = o + 1 by omega] at this
    exact this
  rw [sum21]
  obtain ⟨hKL4, hb04, hlc, hA4s⟩ := unhide H4
  obtain ⟨w6, e6, hb6, hs6, hc6, hh6⟩ := box_new w5 #[.slice (some ⟨g, o, none⟩) 1 c, .string ⟨#[48]⟩] 26
  have hb46 : Below A4.heap.size A4 w6 := hb5.trans (hb6.mono hb5.size)
  have hb06 : Below w.heap.size w w6 := hb04.trans (hb46.mono hb04.size)
  have HAll : Hid (∀ V, Below w6.heap.size w6 V → (V.cell? ⟨w5.heap.size, 0, none⟩ = some (.slice (some ⟨g, o, none⟩) 1 c) ∧ V.cell? ⟨w5.heap.size, 1, none⟩ = some (.string ⟨#[48]⟩) ∧ V.cell? ⟨g, o + 1, none⟩ = some (.string ⟨#[49]⟩) ∧ V.cell? ⟨lb, 0, none⟩ = some (.slice (some ⟨w.heap.size, 0, none⟩) 1 1) ∧ V.cell? ⟨lb, 1, none⟩ = some (.string ⟨#[49]⟩)) ∧ KL lb V ∧ Below w.heap.size w V) := fun V hV => by
    have hl : lb < w6.heap.size := Nat.lt_of_lt_of_le (by omega) hb46.size
    have h5 : w5.heap.size < w6.heap.size := by omega
    have hg6 : g < w6.heap.size := by omega
    exact ⟨⟨(hV.cell (p := ⟨w5.heap.size, 0, none⟩) h5).trans ((blk hh6).2.1 0 _ rfl), (hV.cell (p := ⟨w5.heap.size, 1, none⟩) h5).trans ((blk hh6).2.1 1 _ rfl), (hV.cell (p := ⟨g, o + 1, none⟩) hg6).trans ((hb6.cell (p := ⟨g, o + 1, none⟩) hg).trans hN1), (hV.cell (p := ⟨lb, 0, none⟩) hl).trans ((hb46.cell (p := ⟨lb, 0, none⟩) (show lb < A4.heap.size by omega)).trans hlc.1), (hV.cell (p := ⟨lb, 1, none⟩) hl).trans ((hb46.cell (p := ⟨lb, 1, none⟩) (show lb < A4.heap.size by omega)).trans hlc.2)⟩, (hKL4.more hb46).more hV, hb06.trans (hV.mono hb06.size)⟩
  obtain ⟨A7, eA7, hbA7, hsA7, hcA7, hhA7⟩ := box_new w6 #[.string ⟨#[49]⟩, .string ⟨#[49]⟩] 9
  have HCk1 := hide (Check_sum (w := A7) (ls := ls0) (bs := [b1, b1]) (aL := some ⟨lb, 0, none⟩) (n := 2) (cL := 2) (aB := some ⟨w6.heap.size, 0, none⟩) (nB := 2) (cB := 2) (ar := none) (nr := 0) (cr := 0) (kr := ⟨#[]⟩) (al := none) (nl := 0) (cl := 0) (unhide HAll A7 hbA7).2.1.2 rfl (BA.mk (bs := [b1, b1]) hhA7 (fun j s hs => by
    match j, hs with
    | 0, hs => simpa [b1] using hs
    | 1, hs => simpa [b1] using hs
    | j + 2, hs => simp at hs) (by simp)) rfl (by omega) hC0)
  have HE7 := hide (And.intro e6 eA7)
  have HB7 := hide hbA7
  have hs6' : w6.heap.size = w5.heap.size + 1 := hs6
  have HS6 := hide hs6
  clear hb5 hq hnd hss hR hg hgj hgc hN1 hKL4 hb04 hlc hA4s e6 hb6 hc6 hh6 hb46 hb06 eA7 hbA7 hsA7 hcA7 hhA7 HSum HE3 hs6 hszA3 hlb
  rw [unhide HS6] at HCk1
  go_wp2_with fail
  rw [(unhide HE7).1, (unhide HE7).2]
  refine (unhide HCk1).mono ?_
  rintro e w8 ⟨z, rfl, hb8, -, hz⟩
  obtain rfl : z = 0 := (hz rs0 rd0).1 ref11
  have hb68 : Below w6.heap.size w6 w8 := (unhide HB7).trans (hb8.mono (unhide HB7).size)
  obtain ⟨A9, eA9, hbA9, hsA9, hcA9, hhA9⟩ := box_new w8 #[.string ⟨#[49]⟩] 9
  have hb69 : Below w6.heap.size w6 A9 := hb68.trans (hbA9.mono hb68.size)
  have HCk2 := hide (Check_sum (w := A9) (ls := ls0) (bs := [b1]) (aL := some ⟨lb, 0, none⟩) (n := 2) (cL := 2) (aB := some ⟨w8.heap.size, 0, none⟩) (nB := 1) (cB := 1) (ar := none) (nr := 0) (cr := 0) (kr := ⟨#[]⟩) (al := none) (nl := 0) (cl := 0) (unhide HAll A9 hb69).2.1.2 rfl (BA.mk (bs := [b1]) hhA9 (fun j s hs => by
    match j, hs with
    | 0, hs => simpa [b1] using hs
    | j + 1, hs => simp at hs) (by simp)) rfl (by omega) hC0)
  have HE9 := hide eA9
  have HB9 := hide hb69
  clear hb8 hz hb68 eA9 hbA9 hsA9 hcA9 hhA9 hb69 HCk1 HE7 HB7 hs6'
  go_wp2_with fail
  rw [unhide HE9]
  refine (unhide HCk2).mono ?_
  rintro e w10 ⟨z, rfl, hb10, -, hz⟩
  obtain rfl : z = 100 := (hz rs0 rd0).2 ref1
  have hb610 : Below w6.heap.size w6 w10 := (unhide HB9).trans (hb10.mono (unhide HB9).size)
  obtain ⟨A11, eA11, hbA11, hsA11, hcA11, hhA11⟩ := box_new w10 #[.slice none 0 0, .string ⟨#[]⟩] 26
  have hb611 : Below w6.heap.size w6 A11 := hb610.trans (hbA11.mono hb610.size)
  have HCk3 := hide (Check_sum (w := A11) (ls := [([], ⟨#[]⟩)]) (bs := []) (aL := some ⟨w10.heap.size, 0, none⟩) (n := 1) (cL := 1) (aB := none) (nB := 0) (cB := 0) (ar := none) (nr := 0) (cr := 0) (kr := ⟨#[]⟩) (al := none) (nl := 0) (cl := 0) ⟨Nat.le_refl _, by omega, fun _ => ⟨w10.heap.size, 0, rfl, (blk hhA11).1, fun j hj l hl => by
    obtain rfl : j = 0 := by omega
    obtain rfl : ([], ⟨#[]⟩) = l := by simpa using hl
    exact ⟨.slice none 0 0, .string ⟨#[]⟩, fun t u hu => by
      rw [show 0 + 0 * 2 + t = t by omega]
      exact (blk hhA11).2.1 t u (by simpa using hu), none, 0, 0, rfl, rfl, Nat.le_refl _, by omega, fun h => absurd rfl h⟩⟩⟩ rfl ⟨Nat.le_refl _, by omega, fun h => absurd rfl h⟩ rfl (by omega) (fun l hl => by simp at hl; subst hl; simp))
  have HE11 := hide eA11
  have HB11 := hide hb611
  clear hb10 hz hb610 eA11 hbA11 hsA11 hcA11 hhA11 hb611 HCk2 HE9 HB9
  go_wp2_with fail
  rw [unhide HE11]
  refine (unhide HCk3).mono ?_
  rintro e w12 ⟨z, rfl, hb12, hz, -⟩
  obtain rfl : z = 90 := hz rdE
  have hb612 : Below w6.heap.size w6 w12 := (unhide HB11).trans (hb12.mono (unhide HB11).size)
  obtain ⟨⟨c0, c1, c2, c3, c4⟩, hKL12, hbw12⟩ := unhide HAll w12 hb612
  have HRow := hide (show ∀ V, Below w6.heap.size w6 V → Calls Tryd.prog 10 #[.agg #[.slice (some ⟨w.heap.size, 0, none⟩) 1 1, .string ⟨#[49]⟩]] V (VPost (.bool true) V) from fun V hV => by
    obtain ⟨⟨_, _, _, d3, d4⟩, hKLV, _⟩ := unhide HAll V hV
    obtain ⟨b, off, eb, hb, hj⟩ := hKLV.2.2.2 (by omega)
    obtain ⟨rfl, rfl⟩ : b = lb ∧ off = 0 := by simp at eb; exact ⟨eb.1.symm, eb.2.symm⟩
    obtain ⟨x, y, hr, hI⟩ := hj 0 (by omega) ([(bx, b1)], b1) rfl
    have hx := hr 0 _ rfl
    have hy := hr 1 _ rfl
    simp only [Nat.zero_mul, Nat.add_zero, Nat.zero_add] at hx hy
    rw [d3] at hx
    rw [d4] at hy
    injection hx with hx
    injection hy with hy
    subst hx hy
    have := Row_any hI (Nat.le_refl _) (by simp)
    have e : (readR [(bx, b1)] b1).isSome = true := by
      have h1 : readP (bx, b1) = some (bx, 1) := by
        unfold readP
        rw [if_neg (by show ¬ ((1 : Nat) = 0 ∨ 200 < 1); omega), n1 400 (by omega)]
        rfl
      simp [readR, readC, h1, n1 400]
    rw [e] at this
    exact this)
  have HRow2 := hide (show ∀ V, Calls Tryd.prog 10 #[.agg #[.slice none 0 0, .string ⟨#[]⟩]] V (VPost (.bool false) V) from fun V => by
    have := Row_any (w := V) (B := 0) (C := []) (K := ⟨#[]⟩) ⟨none, 0, 0, rfl, rfl, Nat.le_refl _, by omega, fun h => absurd rfl h⟩ (Nat.zero_le _) (by simp)
    have e : (readR [] ⟨#[]⟩).isSome = false := by simp [readR, emptyT]
    rw [e] at this
    exact this)
  have HB12 := hide hb612
  clear hb12 hz hb612 hKL12 hbw12 HCk3 HE11 HB11
  go_wp2_with fail
  refine (unhide HRow w12 (unhide HB12)).mono ?_
  rintro e w13 ⟨rfl, hb13⟩
  have HB13 := hide ((unhide HB12).trans (hb13.mono (unhide HB12).size))
  clear hb13 c0 c1 c2 c3 c4
  go_wp2_with fail
  refine (unhide HRow2 w13).mono ?_
  rintro e w14 ⟨rfl, hb14⟩
  have HB14 := hide ((unhide HB13).trans (hb14.mono (unhide HB13).size))
  clear hb14
  go_wp2
  go_ret
  exact ⟨rfl, (unhide HAll w14 (unhide HB14)).2.2⟩
end Go.Proofs.YtnkigifcilgmbaaDoor

/- Package farkas: the deep refutation of the law, as a tree and in memory. -/
namespace Go.Proofs.YtnkigifcilgmbaaDoor
open Go Go.RowKit Go.Maps
open _root_.Go.Proofs.YtnkigifcilgmbaaDoor.Nm (IsI pw)
def bz0 : ByteArray := ⟨#[48]⟩
def leafF : Fk := ⟨[b1], false, [], ⟨#[]⟩, []⟩
/-- So many splits, one within the other. -/
def chainF : Nat → Fk
  | 0 => leafF
  | i + 1 => ⟨[], true, [(bx, b1)], bz0, [leafF, chainF i]⟩
theorem chain_cnt : ∀ i, (chainF i).cnt = 1 + 2 * i
  | 0 => by simp [chainF, leafF, Fk.cnt]
  | i + 1 => by
    have := chain_cnt i
    rw [Fk.cnt_two (f := chainF (i + 1)) (a := leafF) (b := chainF i) rfl]
    have h : leafF.cnt = 1 := by simp [leafF, Fk.cnt]
    omega
theorem nz0 (d : Nat) (h : 1 ≤ d) : numT d bz0 = some 0 := by
  simp [numT, rightB, bz0, Lib.hasPrefix, Lib.trimPrefix, isDigB, h, Nm.dec]
theorem leaf_ref {rs t : List (List (ByteArray × Int) × Int)} (h : rs = ([], -1) :: t) : Refuted rs [b1] := by
  subst h
  refine ⟨(fun _ => 0, -1), ?_, fun _ _ => rfl, by decide⟩
  simp [sumO, allO, t1, sumN, sumStep, fadd]
theorem read_x : readR [(bx, b1)] bz0 = some ([(bx, 1)], 0) := by
  have h1 : readP (bx, b1) = some (bx, 1) := by
    unfold readP
    have : bx.size = 1 := rfl
    simp [this, n1 400]
  simp [readR, nz0 400, readC, h1]
theorem short_m1 : shortI (opp ([(bx, 1)], 0)).2 = true := by
  unfold shortI
  rw [itoa_trim]
  have : (opp ([(bx, 1)], 0)).2 = -1 := rfl
  rw [this]
  have h2 : Lib.decDigits (-1 : Int).natAbs = [UInt8.ofNat (48 + 1)] := Lib.decDigits_one (by decide)
  rw [h2]
  decide
theorem deep_ref : ∀ (m k : Nat) (rs t : List (List (ByteArray × Int) × Int)), rs = ([], -1) :: t → (refP k rs (chainF m) ↔ m + 1 ≤ k)
  | m, 0, rs, t, h => by
    constructor
    · intro h; exact h.elim
    · intro h; omega
  | 0, k + 1, rs, t, h => by
    constructor
    · intro _; omega
    · intro _; exact .inl ⟨rfl, leaf_ref h⟩
  | m + 1, k + 1, rs, t, h => by
    have ih1 := deep_ref 0 k (rs ++ [([(bx, 1)], 0)]) (t ++ [([(bx, 1)], 0)]) (by rw [h]; rfl)
    have ih2 := deep_ref m k (rs ++ [opp ([(bx, 1)], 0)]) (t ++ [opp ([(bx, 1)], 0)]) (by rw [h]; rfl)
    constructor
    · rintro (⟨h1, _⟩ | ⟨_, a, b, r, h1, h2, _, h4, h5⟩)
      · cases h1
      · have e : a = leafF ∧ b = chainF m := by
          have : [leafF, chainF m] = [a, b] := h1
          injection this with e1 e2
          injection e2 with e2 _
          exact ⟨e1.symm, e2.symm⟩
        obtain ⟨rfl, rfl⟩ := e
        have : readR [(bx, b1)] bz0 = some r := h2
        rw [read_x] at this
        injection this with this
        subst this
        have := ih2.1 h5
        omega
    · intro hm
      exact .inr ⟨rfl, leafF, chainF m, _, rfl, read_x, short_m1, ih1.2 (by omega), ih2.2 (by omega)⟩
theorem read_l : readL [([], bm1)] = some [([], -1)] := by
  simp [readL, allO, readR, nm1 400, readC]
/-- As FkAt, and no block of it is x. -/
def FkN (w : World) (B x : Nat) : Nat → Nat → Nat → Fk → Prop
  | 0, _, _, _ => False
  | d + 1, b, o, f => b < B ∧ b ≠ x ∧ f.C.length ≤ 1000 ∧ ∃ aS nS cS aC nC cC aL nL cL, w.rangeAt b o [.slice aS nS cS, .bool f.split, .slice aC nC cC, .string f.K, .slice aL nL cL] ∧ nS = f.sum.length ∧ Row B aS nS cS 1 (fun b o j => b ≠ x ∧ BA w f.sum b o j) ∧ nC = f.C.length ∧ Row B aC nC cC 2 (fun b o j => b ≠ x ∧ CA w f.C b o j) ∧ nL = f.l.length ∧ Row B aL nL cL 5 (fun b o j => b ≠ x ∧ ∀ g, f.l[j]? = some g → FkN w B x d b o g)
def IsFkN (w : World) (B x d : Nat) (cs : List Value) (f : Fk) : Prop := f.C.length ≤ 1000 ∧ ∃ aS nS cS aC nC cC aL nL cL, cs = [.slice aS nS cS, .bool f.split, .slice aC nC cC, .string f.K, .slice aL nL cL] ∧ nS = f.sum.length ∧ Row B aS nS cS 1 (fun b o j => b ≠ x ∧ BA w f.sum b o j) ∧ nC = f.C.length ∧ Row B aC nC cC 2 (fun b o j => b ≠ x ∧ CA w f.C b o j) ∧ nL = f.l.length ∧ Row B aL nL cL 5 (fun b o j => b ≠ x ∧ ∀ g, f.l[j]? = some g → FkN w B x d b o g)
theorem FkN.is {w : World} {B x : Nat} : ∀ (d b o : Nat) (f : Fk), FkN w B x d b o f → FkAt w B d b o f
  | 0, _, _, _, h => h
  | d + 1, b, o, f, ⟨hb, _, hC, aS, nS, cS, aC, nC, cC, aL, nL, cL, h1, h2, h3, h4, h5, h6, h7⟩ => ⟨hb, hC, aS, nS, cS, aC, nC, cC, aL, nL, cL, h1, h2, h3.mono (Nat.le_refl _) fun _ _ _ _ h => h.2, h4, h5.mono (Nat.le_refl _) fun _ _ _ _ h => h.2, h6, h7.mono (Nat.le_refl _) fun b o _ _ h g hg => FkN.is d b o g (h.2 g hg)⟩
theorem IsFkN.is {w : World} {B x d : Nat} {cs : List Value} {f : Fk} (h : IsFkN w B x d cs f) : IsFk w B d cs f := by
  obtain ⟨hC, aS, nS, cS, aC, nC, cC, aL, nL, cL, h1, h2, h3, h4, h5, h6, h7⟩ := h
  exact ⟨hC, aS, nS, cS, aC, nC, cC, aL, nL, cL, h1, h2, h3.mono (Nat.le_refl _) fun _ _ _ _ h => h.2, h4, h5.mono (Nat.le_refl _) fun _ _ _ _ h => h.2, h6, h7.mono (Nat.le_refl _) fun b o _ _ h g hg => FkN.is d b o g (h.2 g hg)⟩
theorem keepBA {w w' : World} {B x : Nat} (hk : ∀ b, b < B → b ≠ x → w'.heap[b]? = w.heap[b]?) {bs : List ByteArray} {b o j : Nat} (hb : b < B) (h : b ≠ x ∧ BA w bs b o j) : b ≠ x ∧ BA w' bs b o j := ⟨h.1, fun s hs => (World.cell?_of_block (w := w) (a := ⟨b, o, none⟩) (hk b hb h.1)).trans (h.2 s hs)⟩
theorem keepCA {w w' : World} {B x : Nat} (hk : ∀ b, b < B → b ≠ x → w'.heap[b]? = w.heap[b]?) {C : List (ByteArray × ByteArray)} {b o j : Nat} (hb : b < B) (h : b ≠ x ∧ CA w C b o j) : b ≠ x ∧ CA w' C b o j := ⟨h.1, fun c hc t u hu => (World.cell?_of_block (w := w) (a := ⟨b, o + t, none⟩) (hk b hb h.1)).trans (h.2 c hc t u hu)⟩
theorem FkN.keep {w w' : World} {B B' x : Nat} (hk : ∀ b, b < B → b ≠ x → w'.heap[b]? = w.heap[b]?) (hB : B ≤ B') : ∀ (d b o : Nat) (f : Fk), FkN w B x d b o f → FkN w' B' x d b o f
  | 0, _, _, _, h => h
  | d + 1, b, o, f, ⟨hb, hx, hC, aS, nS, cS, aC, nC, cC, aL, nL, cL, h1, h2, h3, h4, h5, h6, h7⟩ => ⟨Nat.lt_of_lt_of_le hb hB, hx, hC, aS, nS, cS, aC, nC, cC, aL, nL, cL, fun t u hu => (World.cell?_of_block (w := w) (a := ⟨b, o + t, none⟩) (hk b hb hx)).trans (h1 t u hu), h2, h3.mono hB fun _ _ _ hb h => keepBA hk hb h, h4, h5.mono hB fun _ _ _ hb h => keepCA hk hb h, h6, h7.mono hB fun b o _ _ h => ⟨h.1, fun g hg => FkN.keep hk hB d b o g (h.2 g hg)⟩⟩
theorem IsFkN.keep {w w' : World} {B B' x : Nat} (hk : ∀ b, b < B → b ≠ x → w'.heap[b]? = w.heap[b]?) (hB : B ≤ B') {d : Nat} {cs : List Value} {f : Fk} (h : IsFkN w B x d cs f) : IsFkN w' B' x d cs f := by
  obtain ⟨hC, aS, nS, cS, aC, nC, cC, aL, nL, cL, h1, h2, h3, h4, h5, h6, h7⟩ := h
  exact ⟨hC, aS, nS, cS, aC, nC, cC, aL, nL, cL, h1, h2, h3.mono hB fun _ _ _ hb h => keepBA hk hb h, h4, h5.mono hB fun _ _ _ hb h => keepCA hk hb h, h6, h7.mono hB fun b o _ _ h => ⟨h.1, fun g hg => FkN.keep hk hB d b o g (h.2 g hg)⟩⟩
theorem IsFkN.more {w w' : World} {B B' x d : Nat} {cs : List Value} {f : Fk} (h : IsFkN w B x d cs f) (hw : Below B w w') (hB : B ≤ B') : IsFkN w' B' x d cs f := h.keep (fun b hb _ => hw.block b hb) hB
theorem leaf_is {w : World} {B x d sb : Nat} {ty : TypeId} (h : w.heap[sb]? = some (.cells #[.string b1] ty)) (hB : sb < B) (hx : sb ≠ x) : IsFkN w B x d [.slice (some ⟨sb, 0, none⟩) 1 1, .bool false, .slice none 0 0, .string ⟨#[]⟩, .slice none 0 0] leafF := by
  refine ⟨by simp [leafF], _, _, _, _, _, _, _, _, _, rfl, rfl, ⟨Nat.le_refl _, by omega, fun _ => ⟨sb, 0, rfl, hB, fun j hj => ⟨hx, fun s hs => ?_⟩⟩⟩, rfl, ⟨Nat.le_refl _, by omega, fun h => absurd rfl h⟩, rfl, ⟨Nat.le_refl _, by omega, fun h => absurd rfl h⟩⟩
  obtain rfl : j = 0 := by omega
  have : s = b1 := by simpa [leafF] using hs.symm
  subst this
  exact (blk h).2.1 0 _ rfl
theorem chain_is {w : World} {B x d cb lb i : Nat} {ls cs : List Value} {ty : TypeId} (hc : w.heap[cb]? = some (.cells #[.string bx, .string b1] ty)) (hcB : cb < B) (hcx : cb ≠ x) (hl : IsFkN w B x d ls leafF) (hf : IsFkN w B x d cs (chainF i)) (hr : w.rangeAt lb 0 ls) (hr2 : w.rangeAt lb 5 cs) (hlB : lb < B) (hlx : lb ≠ x) :
    IsFkN w B x (d + 1) [.slice none 0 0, .bool true, .slice (some ⟨cb, 0, none⟩) 1 1, .string bz0, .slice (some ⟨lb, 0, none⟩) 2 2] (chainF (i + 1)) := by
  refine ⟨by simp [chainF], _, _, _, _, _, _, _, _, _, rfl, rfl, ⟨Nat.le_refl _, by omega, fun h => absurd rfl h⟩, rfl, ⟨Nat.le_refl _, by omega, fun _ => ⟨cb, 0, rfl, hcB, fun j hj => ⟨hcx, fun c hcc => ?_⟩⟩⟩, rfl, ⟨Nat.le_refl _, by omega, fun _ => ⟨lb, 0, rfl, hlB, fun j hj => ⟨hlx, fun g hg => ?_⟩⟩⟩⟩
  · obtain rfl : j = 0 := by omega
    have : c = (bx, b1) := by simpa [chainF] using hcc.symm
    subst this
    exact range_block (cs := [.string bx, .string b1]) hc
  · have hj2 : j = 0 ∨ j = 1 := by omega
    rcases hj2 with rfl | rfl
    · have : g = leafF := by simpa [chainF] using hg.symm
      subst this
      obtain ⟨hC, aS, nS, cS, aC, nC, cC, aL, nL, cL, rfl, h2, h3, h4, h5, h6, h7⟩ := hl
      exact ⟨hlB, hlx, hC, aS, nS, cS, aC, nC, cC, aL, nL, cL, hr, h2, h3, h4, h5, h6, h7⟩
    · have : g = chainF i := by simpa [chainF] using hg.symm
      subst this
      obtain ⟨hC, aS, nS, cS, aC, nC, cC, aL, nL, cL, rfl, h2, h3, h4, h5, h6, h7⟩ := hf
      exact ⟨hlB, hlx, hC, aS, nS, cS, aC, nC, cC, aL, nL, cL, hr2, h2, h3, h4, h5, h6, h7⟩
end Go.Proofs.YtnkigifcilgmbaaDoor

/- The walk of FarkasDigits. -/
namespace Go.Proofs.YtnkigifcilgmbaaDoor
open Go Go.RowKit Go.Maps
open _root_.Go.Proofs.YtnkigifcilgmbaaDoor.Nm (IsI pw)
/-- A place among n, of any number. -/
def plc (k n : Int) : Int := if Int.tmod k n < 0 then Int.tmod k n + n else Int.tmod k n
theorem tmod_lt {k n : Int} (hn : 0 < n) : -n < Int.tmod k n ∧ Int.tmod k n < n := by
  have h1 := Int.tmod_lt_of_pos k hn
  have h2 : Int.tmod (-k) n < n := Int.tmod_lt_of_pos (-k) hn
  rw [Int.neg_tmod] at h2
  omega
theorem plc_in (k : Int) {n : Int} (hn : 0 < n) : 0 ≤ plc k n ∧ plc k n < n := by
  have h := tmod_lt (k := k) hn
  unfold plc
  split <;> omega
set_option maxRecDepth 100000 in
set_option maxHeartbeats 4000000 in
theorem place_any (k n : Int) (w : World) (hn : 0 < n) (hn2 : n ≤ 1000000000) : Calls Tryd.prog 6 #[.int .i64 k, .int .i64 n] w fun e w' => e = .returned (.int .i64 (plc k n)) ∧ w' = w := by
  have hr := tmod_lt (k := k) hn
  have n0 : ¬ n = 0 := by omega
  have n1 : (n == 0) = false := by simpa using n0
  have e1 : IntKind.i64.wrap (Int.tmod k n) = Int.tmod k n := by rw [IntKind.wrap_i64]; omega
  by_cases h : Int.tmod k n < 0
  · have hp : Hid (plc k n = Int.tmod k n + n) := if_pos h
    have e2 : IntKind.i64.wrap (Int.tmod k n + n) = Int.tmod k n + n := by rw [IntKind.wrap_i64]; omega
    rw [unhide hp]
    go_enter Tryd.func6, Tryd.ntmps6
    go_wp2
    go_ret
    exact ⟨rfl, rfl⟩
  · have hp : Hid (plc k n = Int.tmod k n) := if_neg h
    have hd : decide (Int.tmod k n < 0) = false := by simp; omega
    rw [unhide hp]
    go_enter Tryd.func6, Tryd.ntmps6
    go_wp2
    go_ret
    exact ⟨rfl, rfl⟩

def fillL (n i : Nat) (d : UInt8) : List UInt8 := List.replicate i d ++ List.replicate (n - i) 0
def FY (V : World) (g n i : Nat) (d : UInt8) : Prop := V.heap[g]? = some (.cells (Lib.byteCells (fillL n i d)).toArray 5)
theorem bc_len (l : List UInt8) : (Lib.byteCells l).length = l.length := by simp [Lib.byteCells]
theorem fill_len {n i : Nat} (d : UInt8) (h : i ≤ n) : (fillL n i d).length = n := by simp [fillL]; omega
theorem fill_step {n i : Nat} (d : UInt8) (h : i < n) : (fillL n i d).set i d = fillL n (i + 1) d := by
  unfold fillL
  obtain ⟨k, hk⟩ : ∃ k, n - i = k + 1 := ⟨n - i - 1, by omega⟩
  rw [hk, show n - (i + 1) = k by omega, List.replicate_succ, List.set_append_right _ _ (by simp)]
  simp [List.replicate_succ', List.append_assoc]
theorem FY.put {V : World} {g n i : Nat} {d : UInt8} (h : FY V g n i d) (hi : i < n) : FY (V.setCell ⟨g, i, none⟩ (.int .u8 d.toNat)) g n (i + 1) d := by
  unfold FY at h ⊢
  rw [set_block h, ← fill_step d hi]
  congr 2
  simp [Lib.byteCells, List.map_set]
theorem FY.cell {V : World} {g n i : Nat} {d : UInt8} (h : FY V g n i d) (hi : i < n) : ∃ u, V.cell? ⟨g, i, none⟩ = some u ∧ V.frozen? ⟨g, i, none⟩ = false := by
  have hl : i < (Lib.byteCells (fillL n i d)).toArray.size := by
    simp only [List.size_toArray, bc_len]
    rw [fill_len d (by omega)]
    exact hi
  exact ⟨_, (blk h).2.1 i _ (Array.getElem?_eq_getElem hl), (blk h).2.2 i⟩
end Go.Proofs.YtnkigifcilgmbaaDoor

/- FarkasDigits' region 16. -/
namespace Go.Proofs.YtnkigifcilgmbaaDoor
open Go Go.RowKit Go.Maps
open _root_.Go.Proofs.YtnkigifcilgmbaaDoor.Nm (IsI pw)
section
variable {X : Exit → Act → World → Prop} {K : Act → World → Prop} {a : Act} {w : World} {dst : Option Tmp} {ty : TypeId} {pos : String} {af : Array Edge} {gd : Option (Nat × Bool)} {k : Nat}
end
theorem enter_row : Enters Tryd.prog 7 := ⟨fun xs w => by go_simp⟩
end Go.Proofs.YtnkigifcilgmbaaDoor

/- FarkasDeep: the region that makes a refutation deeper. -/
namespace Go.Proofs.YtnkigifcilgmbaaDoor
open Go Go.RowKit Go.Maps
open _root_.Go.Proofs.YtnkigifcilgmbaaDoor.Nm (IsI pw)
section
variable {X : Exit → Act → World → Prop} {K : Act → World → Prop} {a : Act} {w : World} {dst : Option Tmp} {ty : TypeId} {pos : String} {af : Array Edge} {gd : Option (Nat × Bool)} {k : Nat}
set_option maxRecDepth 100000 in
set_option maxHeartbeats 4000000 in
theorem op_bldC0 {s t : ByteArray} (h : K (a.put dst (.agg #[.string s, .string t])) w) : Oper.wp Tryd.prog ⟨dst, .build 34 #[(0, .const (.string s)), (1, .const (.string t))], ty, pos, af, gd⟩ a w K X := by
  have e1 : a.eval (.const (.string s)) = .string s := rfl
  have e2 : a.eval (.const (.string t)) = .string t := rfl
  unfold Oper.wp
  simp only [execOp, List.map_toArray, List.map_cons, List.map_nil, e1, e2]
  go_simp
  exact h
set_option maxRecDepth 100000 in
set_option maxHeartbeats 4000000 in
theorem op_bsS0 {s : ByteArray} (h : K (a.put dst (.slice (some ⟨w.heap.size, 0, none⟩) 1 1)) (w.alloc (.cells #[.string s] 9))) : Oper.wp Tryd.prog ⟨dst, .buildSlice 29 1 #[(0, .const (.string s))], ty, pos, af, gd⟩ a w K X := by
  have he : a.eval (.const (.string s)) = .string s := rfl
  unfold Oper.wp
  simp only [execOp, List.map_toArray, List.map_cons, List.map_nil, he]
  go_simp
  exact h
set_option maxRecDepth 100000 in
set_option maxHeartbeats 4000000 in
theorem op_bldF0 {b : Option Addr} {n c : Nat} (h1 : a.tmps.getD k undef = .slice b n c) (h : K (a.put dst (.agg #[.slice b n c, .bool false, .slice none 0 0, .string ⟨#[]⟩, .slice none 0 0])) w) : Oper.wp Tryd.prog ⟨dst, .build 32 #[(0, .tmp k)], ty, pos, af, gd⟩ a w K X := by
  have e1 : a.eval (.tmp k) = .slice b n c := h1
  unfold Oper.wp
  simp only [execOp, List.map_toArray, List.map_cons, List.map_nil, e1]
  go_simp
  exact h
set_option maxRecDepth 100000 in
set_option maxHeartbeats 4000000 in
theorem op_bsF2 {k2 : Nat} {s1 s2 s3 t1 t2 t3 : Option Addr} {n1 n2 n3 m1 m2 m3 c1 c2 c3 d1 d2 d3 : Nat} {p q : Bool} {x y : ByteArray} (h1 : a.tmps.getD k undef = .agg #[.slice s1 n1 c1, .bool p, .slice s2 n2 c2, .string x, .slice s3 n3 c3]) (h2 : a.tmps.getD k2 undef = .agg #[.slice t1 m1 d1, .bool q, .slice t2 m2 d2, .string y, .slice t3 m3 d3])
    (h : K (a.put dst (.slice (some ⟨w.heap.size, 0, none⟩) 2 2)) (w.alloc (.cells #[.slice s1 n1 c1, .bool p, .slice s2 n2 c2, .string x, .slice s3 n3 c3, .slice t1 m1 d1, .bool q, .slice t2 m2 d2, .string y, .slice t3 m3 d3] 32))) : Oper.wp Tryd.prog ⟨dst, .buildSlice 30 2 #[(0, .tmp k), (1, .tmp k2)], ty, pos, af, gd⟩ a w K X := by
  have e1 : a.eval (.tmp k) = .agg #[.slice s1 n1 c1, .bool p, .slice s2 n2 c2, .string x, .slice s3 n3 c3] := h1
  have e2 : a.eval (.tmp k2) = .agg #[.slice t1 m1 d1, .bool q, .slice t2 m2 d2, .string y, .slice t3 m3 d3] := h2
  unfold Oper.wp
  simp only [execOp, List.map_toArray, List.map_cons, List.map_nil, e1, e2]
  go_simp
  exact h
set_option maxRecDepth 100000 in
set_option maxHeartbeats 4000000 in
theorem op_bldF1 {k2 : Nat} {b b2 : Option Addr} {n c n2 c2 : Nat} {s : ByteArray} (h1 : a.tmps.getD k undef = .agg #[.slice b n c, .string s]) (h2 : a.tmps.getD k2 undef = .slice b2 n2 c2) (h : K (a.put dst (.agg #[.slice none 0 0, .bool true, .slice b n c, .string s, .slice b2 n2 c2])) w) : Oper.wp Tryd.prog ⟨dst, .build 32 #[(1, .const (.bool true)), (2, .tmp k), (3, .tmp k2)], ty, pos, af, gd⟩ a w K X := by
  have e0 : a.eval (.const (.bool true)) = .bool true := rfl
  have e1 : a.eval (.tmp k) = .agg #[.slice b n c, .string s] := h1
  have e2 : a.eval (.tmp k2) = .slice b2 n2 c2 := h2
  unfold Oper.wp
  simp only [execOp, List.map_toArray, List.map_cons, List.map_nil, e0, e1, e2]
  go_simp
  exact h
end
set_option maxRecDepth 100000 in
theorem ld_Fk {b o : Nat} {x y z u v : Value} {w : World} (h : w.rangeAt b o [x, y, z, u, v]) : (Instr.loadAt 32 (.pointer (some ⟨b, o, none⟩))).run Tryd.prog w = .ok (.agg #[x, y, z, u, v]) w := run_loadAt_mid (P := Tryd.prog) w b o 32 _ _ h rfl rfl rfl
/-- Five cells of a block are filled. -/
def put5 (w : World) (q : Nat) (x y z u v : Value) : World := ((((w.setCell ⟨q, 0, none⟩ x).setCell ⟨q, 1, none⟩ y).setCell ⟨q, 2, none⟩ z).setCell ⟨q, 3, none⟩ u).setCell ⟨q, 4, none⟩ v
theorem put5_at (w : World) (q : Nat) (x y z u v : Value) : PutAt q w (put5 w q x y z u v) := (((((PutAt.refl q w).set 0 x).set 1 y).set 2 z).set 3 u).set 4 v
theorem fill5 {w : World} {q : Nat} {a b c d e x y z u v : Value} {ty : TypeId} (h : w.heap[q]? = some (.cells #[a, b, c, d, e] ty)) : (put5 w q x y z u v).heap[q]? = some (.cells #[x, y, z, u, v] ty) := set_block (set_block (set_block (set_block (set_block h _) _) _) _) _
/-- A leaf, as cells. -/
def lfC (sb : Nat) : List Value := [.slice (some ⟨sb, 0, none⟩) 1 1, .bool false, .slice none 0 0, .string ⟨#[]⟩, .slice none 0 0]
def spD (w0 : World) (fb d i : Nat) (cs : List Value) (j : Nat) (w : World) (v : Value) : Prop :=
  (j = 0 → v = .agg #[.string bx, .string b1]) ∧
  (j = 1 → ∃ c : Nat, v = .slice (some ⟨c, 0, none⟩) 1 1 ∧ w0.heap.size ≤ c ∧ w.heap[c]? = some (.cells #[.string bx, .string b1] 34)) ∧
  (j = 2 → ∃ c : Nat, v = .agg #[.slice (some ⟨c, 0, none⟩) 1 1, .string bz0] ∧ w0.heap.size ≤ c ∧ w.heap[c]? = some (.cells #[.string bx, .string b1] 34)) ∧
  (j = 3 → ∃ s : Nat, v = .slice (some ⟨s, 0, none⟩) 1 1 ∧ w0.heap.size ≤ s ∧ w.heap[s]? = some (.cells #[.string b1] 9)) ∧
  (j = 4 → ∃ s : Nat, v = .agg (lfC s).toArray ∧ w0.heap.size ≤ s ∧ w.heap[s]? = some (.cells #[.string b1] 9)) ∧
  (j = 5 → v = .agg cs.toArray) ∧
  (j = 6 → ∃ l s : Nat, v = .slice (some ⟨l, 0, none⟩) 2 2 ∧ w0.heap.size ≤ l ∧ w0.heap.size ≤ s ∧ w.heap[s]? = some (.cells #[.string b1] 9) ∧ w.heap[l]? = some (.cells (lfC s ++ cs).toArray 32)) ∧
  (j = 7 → ∃ c l : Nat, v = .agg #[.slice none 0 0, .bool true, .slice (some ⟨c, 0, none⟩) 1 1, .string bz0, .slice (some ⟨l, 0, none⟩) 2 2] ∧ IsFkN w w.heap.size fb (d + 1) [.slice none 0 0, .bool true, .slice (some ⟨c, 0, none⟩) 1 1, .string bz0, .slice (some ⟨l, 0, none⟩) 2 2] (chainF (i + 1)))
def keptD : List Nat := (List.range 35).filter fun i => !(decide (20 ≤ i) && decide (i ≤ 27))
def JD (w0 : World) (fb d i : Nat) (w : World) (_ : Value) : Prop := ∃ V c l, Below w0.heap.size w0 V ∧ IsFkN V V.heap.size fb (d + 1) [.slice none 0 0, .bool true, .slice (some ⟨c, 0, none⟩) 1 1, .string bz0, .slice (some ⟨l, 0, none⟩) 2 2] (chainF (i + 1)) ∧ w = put5 V fb (.slice none 0 0) (.bool true) (.slice (some ⟨c, 0, none⟩) 1 1) (.string bz0) (.slice (some ⟨l, 0, none⟩) 2 2)
set_option maxRecDepth 100000 in
set_option maxHeartbeats 4000000 in
theorem deep_r9 {Q : Exit → Act → World → Prop} {a0 : Act} {w0 : World} {fb d i : Nat} {cs : List Value} (hN : a0.tmps.size = 35) (h4 : a0.tmps[4]? = some (.pointer (some ⟨fb, 0, none⟩))) (hF : w0.heap[fb]? = some (.cells cs.toArray 32)) (hC : IsFkN w0 w0.heap.size fb d cs (chainF i))
    (hend : ∀ (a : Act) (w : World), a.defers = a0.defers → a.tmps.size = 35 → (∀ k, k ∈ keptD → a.tmps[k]? = a0.tmps[k]?) → JD w0 fb d i w undef → Q .normal a w) :
    (Code.region 9 (Nm.regionOf Tryd.f3 9).toArray true).wp Tryd.prog Q a0 w0 := by
  have hD : Below w0.heap.size w0 w0.drew := (Below.refl _ w0).drew
  have hl : (Nm.regionOf Tryd.f3 9).length = 9 := by kernel_rfl
  have hFlt : fb < w0.heap.size := (Array.getElem?_eq_some_iff.1 hF).1
  have hC0 := hC
  obtain ⟨-, aS, nS, cS, aC, nC, cC, aL, nL, cL, rfl, -⟩ := hC0
  refine wp_region_any (by kernel_rfl) ?_
  refine one_store2 (l := (Nm.regionOf Tryd.f3 9)) (w0 := w0.drew) 35 w0.heap.size 8 7 keptD [0, 1, 2, 3, 4, 5, 6, 7] (spD w0 fb d i [.slice aS nS cS, .bool (chainF i).split, .slice aC nC cC, .string (chainF i).K, .slice aL nL cL]) (fun _ _ => True) (JD w0 fb d i) (by kernel_rfl) hN (Nat.le_refl _) (by rw [hl]; omega) (by kernel_rfl) (by kernel_rfl) (by kernel_rfl) (by kernel_rfl) (by decide) (by decide) (by kernel_rfl) ?_ (fun _ => trivial) ?_ ?_ ?_ ?_
  · intro j w w' v h hb
    have q : ∀ {b : Nat} {o : Obj}, w.heap[b]? = some o → w'.heap[b]? = some o := fun {b o} h => (hb.block b (Array.getElem?_eq_some_iff.1 h).1).trans h
    obtain ⟨q0, q1, q2, q3, q4, q5, q6, q7⟩ := h
    refine ⟨q0, fun e => ?_, fun e => ?_, fun e => ?_, fun e => ?_, q5, fun e => ?_, fun e => ?_⟩
    · obtain ⟨c, e1, e2, e3⟩ := q1 e
      exact ⟨c, e1, e2, q e3⟩
    · obtain ⟨c, e1, e2, e3⟩ := q2 e
      exact ⟨c, e1, e2, q e3⟩
    · obtain ⟨c, e1, e2, e3⟩ := q3 e
      exact ⟨c, e1, e2, q e3⟩
    · obtain ⟨c, e1, e2, e3⟩ := q4 e
      exact ⟨c, e1, e2, q e3⟩
    · obtain ⟨l, s, e1, e2, e3, e4, e5⟩ := q6 e
      exact ⟨l, s, e1, e2, e3, q e4, q e5⟩
    · obtain ⟨c, l, e1, e2⟩ := q7 e
      exact ⟨c, l, e1, e2.more hb hb.size⟩
  · intro j hj a w hb hnn hk hp
    have hb0 : Below w0.heap.size w0 w := hD.trans hb
    have k4 : a.eval (.tmp 4) = .pointer (some ⟨fb, 0, none⟩) := getD_of ((hk 4 (by decide)).trans h4)
    have hFw := (hb0.block fb hFlt).trans hF
    have hs0 := hb0.size
    have hi' : j = 0 ∨ j = 1 ∨ j = 2 ∨ j = 3 ∨ j = 4 ∨ j = 5 ∨ j = 6 ∨ j = 7 := by simpa using hj
    rcases hi' with rfl | rfl | rfl | rfl | rfl | rfl | rfl | rfl
    · exact st_want (wnone rfl) (op_bldC0 ⟨_, rfl, Below.refl _ _, ⟨fun _ => rfl, by simp, by simp, by simp, by simp, by simp, by simp, by simp⟩, trivial⟩)
    · have e : a.tmps.getD 20 undef = .agg #[.string bx, .string b1] := (hp 0 rfl (by decide)).1 rfl
      obtain ⟨A, eA, hbA, hsA, hcA, hhA⟩ := box_new w #[.string bx, .string b1] 34
      refine st_want (wnone rfl) (op_bsC e ?_)
      rw [eA]
      exact ⟨_, rfl, hbA, ⟨by simp, fun _ => ⟨w.heap.size, rfl, hs0, hhA⟩, by simp, by simp, by simp, by simp, by simp, by simp⟩, trivial⟩
    · obtain ⟨c, e1, e2, e3⟩ := (hp 1 rfl (by decide)).2.1 rfl
      have e : a.tmps.getD 21 undef = .slice (some ⟨c, 0, none⟩) 1 1 := e1
      refine st_want (wnone rfl) (op_call enter_row ?_)
      rw [show (#[Operand.const (.string ⟨#[48]⟩), .tmp 21]).map a.eval = #[.string bz0, .slice (some ⟨c, 0, none⟩) 1 1] by simp only [List.map_toArray, List.map_cons, List.map_nil, Act.eval]; rw [e]; rfl]
      refine (row_any (some ⟨c, 0, none⟩) 1 1 bz0 w).mono ?_
      rintro ex w' ⟨rfl, hb'⟩
      exact ⟨_, rfl, _, rfl, hb', ⟨by simp, by simp, fun _ => ⟨c, rfl, e2, (hb'.block c (Array.getElem?_eq_some_iff.1 e3).1).trans e3⟩, by simp, by simp, by simp, by simp, by simp⟩, trivial⟩
    · obtain ⟨A, eA, hbA, hsA, hcA, hhA⟩ := box_new w #[.string b1] 9
      refine st_want (wnone rfl) (op_bsS0 (s := b1) ?_)
      rw [eA]
      exact ⟨_, rfl, hbA, ⟨by simp, by simp, by simp, fun _ => ⟨w.heap.size, rfl, hs0, hhA⟩, by simp, by simp, by simp, by simp⟩, trivial⟩
    · obtain ⟨s, e1, e2, e3⟩ := (hp 3 rfl (by decide)).2.2.2.1 rfl
      have e : a.tmps.getD 23 undef = .slice (some ⟨s, 0, none⟩) 1 1 := e1
      exact st_want (wnone rfl) (op_bldF0 e ⟨_, rfl, Below.refl _ _, ⟨by simp, by simp, by simp, by simp, fun _ => ⟨s, rfl, e2, e3⟩, by simp, by simp, by simp⟩, trivial⟩)
    · exact st_want (wnone rfl) (op_load k4 (ld_Fk (range_block hFw)) ⟨_, rfl, Below.refl _ _, ⟨by simp, by simp, by simp, by simp, by simp, fun _ => rfl, by simp, by simp⟩, trivial⟩)
    · obtain ⟨s, e1, e2, e3⟩ := (hp 4 rfl (by decide)).2.2.2.2.1 rfl
      have e : a.tmps.getD 24 undef = .agg #[.slice (some ⟨s, 0, none⟩) 1 1, .bool false, .slice none 0 0, .string ⟨#[]⟩, .slice none 0 0] := e1
      have e' : a.tmps.getD 25 undef = .agg #[.slice aS nS cS, .bool (chainF i).split, .slice aC nC cC, .string (chainF i).K, .slice aL nL cL] := (hp 5 rfl (by decide)).2.2.2.2.2.1 rfl
      obtain ⟨A, eA, hbA, hsA, hcA, hhA⟩ := box_new w #[.slice (some ⟨s, 0, none⟩) 1 1, .bool false, .slice none 0 0, .string ⟨#[]⟩, .slice none 0 0, .slice aS nS cS, .bool (chainF i).split, .slice aC nC cC, .string (chainF i).K, .slice aL nL cL] 32
      refine st_want (wnone rfl) (op_bsF2 e e' ?_)
      rw [eA]
      exact ⟨_, rfl, hbA, ⟨by simp, by simp, by simp, by simp, by simp, by simp, fun _ => ⟨w.heap.size, s, rfl, hs0, e2, (hbA.block s (Array.getElem?_eq_some_iff.1 e3).1).trans e3, hhA⟩, by simp⟩, trivial⟩
    · obtain ⟨c, e1, e2, e3⟩ := (hp 2 rfl (by decide)).2.2.1 rfl
      obtain ⟨l, s, g1, g2, g3, g4, g5⟩ := (hp 6 rfl (by decide)).2.2.2.2.2.2.1 rfl
      have e : a.tmps.getD 22 undef = .agg #[.slice (some ⟨c, 0, none⟩) 1 1, .string bz0] := e1
      have e' : a.tmps.getD 26 undef = .slice (some ⟨l, 0, none⟩) 2 2 := g1
      have hLf : IsFkN w w.heap.size fb d (lfC s) leafF := leaf_is g4 (Array.getElem?_eq_some_iff.1 g4).1 (by omega)
      have hrl : w.rangeAt l 0 (lfC s) := fun t u hu => by
        have ht := (List.getElem?_eq_some_iff.1 hu).1
        refine (blk g5).2.1 (0 + t) u ?_
        rw [Nat.zero_add, List.getElem?_toArray, List.getElem?_append_left ht]
        exact hu
      have hr2 : w.rangeAt l 5 [.slice aS nS cS, .bool (chainF i).split, .slice aC nC cC, .string (chainF i).K, .slice aL nL cL] := fun t u hu => by
        refine (blk g5).2.1 (5 + t) u ?_
        rw [List.getElem?_toArray, List.getElem?_append_right (by simp [lfC]), show 5 + t - (lfC s).length = t by simp [lfC]]
        exact hu
      have hch := chain_is e3 (Array.getElem?_eq_some_iff.1 e3).1 (by omega) hLf (hC.more hb0 hs0) hrl hr2 (Array.getElem?_eq_some_iff.1 g5).1 (by omega)
      exact st_want (wnone rfl) (op_bldF1 e e' ⟨_, rfl, Below.refl _ _, ⟨by simp, by simp, by simp, by simp, by simp, by simp, by simp, fun _ => ⟨c, l, rfl, hch⟩⟩, trivial⟩)
  · intro j hj hj1 hj2 a w hn hk hp
    rw [hl] at hj
    have hj1' : ¬ (j = 0 ∨ j = 1 ∨ j = 2 ∨ j = 3 ∨ j = 4 ∨ j = 5 ∨ j = 6 ∨ j = 7) := by simpa using hj1
    omega
  · intro a w hb hnn hk hp
    have hb0 : Below w0.heap.size w0 w := hD.trans hb
    obtain ⟨c, l, e1, e2⟩ := (hp 7 (by decide)).2.2.2.2.2.2.2 rfl
    have e4 : a.eval (.tmp 27) = .agg #[.slice none 0 0, .bool true, .slice (some ⟨c, 0, none⟩) 1 1, .string bz0, .slice (some ⟨l, 0, none⟩) 2 2] := e1
    have f4 : a.eval (.tmp 4) = .pointer (some ⟨fb, 0, none⟩) := getD_of ((hk 4 (by decide)).trans h4)
    have hFw := (hb0.block fb hFlt).trans hF
    have r0 : w.cell? ⟨fb, 0, none⟩ = some (.slice aS nS cS) := (blk hFw).2.1 0 _ rfl
    have r1 : w.cell? ⟨fb, 1, none⟩ = some (.bool (chainF i).split) := (blk hFw).2.1 1 _ rfl
    have r2 : w.cell? ⟨fb, 2, none⟩ = some (.slice aC nC cC) := (blk hFw).2.1 2 _ rfl
    have r3 : w.cell? ⟨fb, 3, none⟩ = some (.string (chainF i).K) := (blk hFw).2.1 3 _ rfl
    have r4 : w.cell? ⟨fb, 4, none⟩ = some (.slice aL nL cL) := (blk hFw).2.1 4 _ rfl
    have g0 := (blk hFw).2.2 0
    have g1 := (blk hFw).2.2 1
    have g2 := (blk hFw).2.2 2
    have g3 := (blk hFw).2.2 3
    have g4 := (blk hFw).2.2 4
    have HJ : ∀ v, JD w0 fb d i (put5 w fb (.slice none 0 0) (.bool true) (.slice (some ⟨c, 0, none⟩) 1 1) (.string bz0) (.slice (some ⟨l, 0, none⟩) 2 2)) v := fun v => ⟨w, c, l, hb0, e2, rfl⟩
    show Oper.wp Tryd.prog ⟨none, .store 32 (.tmp 4) (.tmp 27), _, _, _, _⟩ a w _ _
    unfold Oper.wp
    simp only [execOp, e4, f4]
    simp [go_sem, r0, r1, r2, r3, r4, g0, g1, g2, g3, g4]
    exact HJ _
  · intro a w hd hnn hk hpu hJ
    exact hend a w hd hnn hk hJ
end Go.Proofs.YtnkigifcilgmbaaDoor

namespace Go.Proofs.YtnkigifcilgmbaaDoor
open Go Go.RowKit Go.Maps
open _root_.Go.Proofs.YtnkigifcilgmbaaDoor.Nm (IsI pw)
/-- So many times deeper. -/
def DInv (w : World) (lb fb i : Nat) (V : World) : Prop := Below w.heap.size w V ∧ V.heap[lb]? = some (.cells #[.slice none 0 0, .string bm1] 26) ∧ ∃ cs, V.heap[fb]? = some (.cells cs.toArray 32) ∧ IsFkN V V.heap.size fb i cs (chainF i)
theorem DInv.next {w wr W : World} {lb fb i : Nat} (h : DInv w lb fb i wr) (hlf : lb ≠ fb) (hw : w.heap.size ≤ fb) (hJ : JD wr fb i i W undef) : DInv w lb fb (i + 1) W := by
  obtain ⟨h1, h2, cs, h3, h4⟩ := h
  obtain ⟨V, c, l, k1, k2, rfl⟩ := hJ
  have hcs := h4
  obtain ⟨-, aS, nS, cS, aC, nC, cC, aL, nL, cL, rfl, -⟩ := hcs
  have hp := put5_at V fb (.slice none 0 0) (.bool true) (.slice (some ⟨c, 0, none⟩) 1 1) (.string bz0) (.slice (some ⟨l, 0, none⟩) 2 2)
  have hfl : fb < wr.heap.size := (Array.getElem?_eq_some_iff.1 h3).1
  have hll : lb < wr.heap.size := (Array.getElem?_eq_some_iff.1 h2).1
  refine ⟨hp.below (h1.trans (k1.mono h1.size)) hw, (hp.block lb hlf).trans ((k1.block lb hll).trans h2), _, fill5 ((k1.block fb hfl).trans h3), k2.keep (fun b _ hx => hp.block b hx) (by rw [hp.size]; exact Nat.le_refl _)⟩
theorem lin_row {w : World} {lb : Nat} (h : w.heap[lb]? = some (.cells #[.slice none 0 0, .string bm1] 26)) : Row w.heap.size (some ⟨lb, 0, none⟩) 1 1 2 (LAt w w.heap.size [([], bm1)]) := by
  refine ⟨Nat.le_refl _, by omega, fun _ => ⟨lb, 0, rfl, (Array.getElem?_eq_some_iff.1 h).1, fun j hj l hl => ?_⟩⟩
  obtain rfl : j = 0 := by omega
  have : l = ([], bm1) := by simpa using hl.symm
  subst this
  exact ⟨_, _, range_block (cs := [.slice none 0 0, .string bm1]) h, none, 0, 0, rfl, rfl, Nat.le_refl _, by omega, fun h => absurd rfl h⟩
set_option maxRecDepth 100000 in
set_option maxHeartbeats 4000000 in
theorem deep_walk (n : Int) (w : World) (hT : Nm.Tab w) : Calls Tryd.prog 3 #[.int .i64 n] w fun e w' => e = .returned (.bool true) ∧ Below w.heap.size w w' := by
  go_enter Tryd.func3, Tryd.ntmps3
  go_wp2_with fail
  refine (known_any hT).mono ?_
  rintro e w1 ⟨rfl, hb1⟩
  go_wp2_with fail
  refine (place_any n 4 w1 (by omega) (by omega)).mono ?_
  rintro e w2 ⟨rfl, rfl⟩
  obtain ⟨N, hN, hN1, hN2⟩ : ∃ N : Nat, wrap64 (198 + plc n 4) = (N : Int) ∧ 198 ≤ N ∧ N ≤ 201 := by
    have h := plc_in n (n := 4) (by omega)
    refine ⟨(198 + plc n 4).toNat, ?_, by omega, by omega⟩
    unfold wrap64
    omega
  have HN := hide hN
  clear hN
  go_wp2_with fail
  rw [unhide HN]
  clear HN
  refine (row_any none 0 0 _ _).mono ?_
  rintro e w3 ⟨rfl, hb3⟩
  obtain ⟨w4, e4, hb4, hs4, hc4, hh4⟩ := box_new w3 #[.slice none 0 0, .string ⟨#[45, 49]⟩] 26
  obtain ⟨w5, e5, hb5, hs5, hc5, hh5⟩ := box_new w4 #[.string ⟨#[49]⟩] 9
  obtain ⟨w6, e6, hb6, hs6, hc6, hh6⟩ := box_new w5 #[.slice (some ⟨w3.heap.size + 1, 0, none⟩) 1 1, .bool false, .slice none 0 0, .string ⟨#[]⟩, .slice none 0 0] 32
  have hb03 : Below w.heap.size w w3 := hb1.trans (hb3.mono hb1.size)
  have hb36 : Below w3.heap.size w3 w6 := hb4.trans ((hb5.mono (by omega)).trans (hb6.mono (by omega)))
  have hinv : DInv w w3.heap.size w5.heap.size 0 w6 := ⟨hb03.trans (hb36.mono hb03.size), (hb6.block _ (by omega)).trans ((hb5.block _ (by omega)).trans hh4), _, hh6, leaf_is ((hb6.block _ (by omega)).trans (by rw [← hs4]; exact hh5)) (by omega) (by omega)⟩
  have hne : w3.heap.size ≠ w5.heap.size ∧ w.heap.size ≤ w5.heap.size := by have := hb03.size; omega
  have e55 : w5.heap.size = w3.heap.size + 1 + 1 := by omega
  rw [e55] at hinv hne
  obtain ⟨fb, hfb⟩ : ∃ fb, w3.heap.size + 1 + 1 = fb := ⟨_, rfl⟩
  obtain ⟨lb, hlb⟩ : ∃ lb, w3.heap.size = lb := ⟨_, rfl⟩
  have HE := hide (And.intro e4 (And.intro e5 (And.intro e6 (And.intro hfb hlb))))
  rw [hfb, hlb] at hinv hne
  have HI := hide hinv
  have HNE := hide hne
  clear hb3 e4 hb4 hs4 hc4 hh4 e5 hb5 hs5 hc5 hh5 e6 hb6 hs6 hc6 hh6 hb03 hb36 hinv hne hfb hlb hb1 e55
  go_wp2_with fail
  obtain ⟨e4, e5, e6, hfb, hlb⟩ := unhide HE
  rw [e4, e5, e6, hfb, hlb]
  clear e4 e5 e6 hfb hlb HE
  go_loopw [5] (fun iv wr => ∃ i : Nat, i + 1 ≤ N ∧ iv = .int .i64 ((i : Int) + 1) ∧ DInv w lb fb i wr) (fun iv _ => N - (intOf iv).toNat)
  case atStart => exact ⟨0, by omega, rfl, unhide HI⟩
  case round =>
    obtain ⟨i, hi0, rfl, hD⟩ := hrel
    by_cases hi : i + 1 < N
    · have g1 : (i : Int) + 1 < (N : Int) := by omega
      have HD := hide hD
      clear hD
      go_wp2_with fail
      obtain ⟨h1, h2, cs, h3, h4⟩ := unhide HD
      refine deep_r9 (w0 := wr) (fb := fb) (d := i) (i := i) (cs := cs) rfl rfl h3 h4 ?_
      intro a W hd hsz hkp hJ
      obtain ⟨yy, rfl, -⟩ := act_set [20, 21, 22, 23, 24, 25, 26, 27] (by kernel_rfl) hd hsz rfl hkp
      have HNew := hide ((unhide HD).next (unhide HNE).1 (unhide HNE).2 hJ)
      clear h1 h2 h3 h4 hd hsz hkp hJ HD
      simp only [setAll]
      go_wp2
      refine ⟨⟨i + 1, by omega, ?_, unhide HNew⟩, ?_⟩
      · have : wrap64 ((i : Int) + 1 + 1) = ((i + 1 : Nat) : Int) + 1 := by unfold wrap64; omega
        simp [this]
      · have : wrap64 ((i : Int) + 1 + 1) = ((i + 1 : Nat) : Int) + 1 := by unfold wrap64; omega
        simp [intOf, this]
        omega
    · have gi : decide ((i : Int) + 1 < (N : Int)) = false := by simp; omega
      have g1 : ¬ ((i : Int) + 1 < (N : Int)) := by omega
      obtain rfl : N = i + 1 := by omega
      obtain ⟨h1, h2, cs, h3, h4⟩ := hD
      have hcs := h4
      obtain ⟨-, aS, nS, cS, aC, nC, cC, aL, nL, cL, rfl, -⟩ := hcs
      obtain ⟨sp, hsp⟩ : ∃ sp, (chainF i).split = sp := ⟨_, rfl⟩
      obtain ⟨KK, hKK⟩ : ∃ KK, (chainF i).K = KK := ⟨_, rfl⟩
      have hck := Check_any (lin_row h2) rfl (by omega) (fun l hl => by simp at hl; subst hl; simp) h4.is (by rw [chain_cnt]; omega) (Nm.Tab.below hT h1)
      rw [hsp, hKK] at h3 hck
      have r0 : wr.cell? ⟨fb, 0, none⟩ = some (.slice aS nS cS) := (blk h3).2.1 0 _ rfl
      have r1 : wr.cell? ⟨fb, 1, none⟩ = some (.bool sp) := (blk h3).2.1 1 _ rfl
      have r2 : wr.cell? ⟨fb, 2, none⟩ = some (.slice aC nC cC) := (blk h3).2.1 2 _ rfl
      have r3 : wr.cell? ⟨fb, 3, none⟩ = some (.string KK) := (blk h3).2.1 3 _ rfl
      have r4 : wr.cell? ⟨fb, 4, none⟩ = some (.slice aL nL cL) := (blk h3).2.1 4 _ rfl
      have HCk := hide hck
      have HB := hide h1
      clear h1 h2 h3 h4 hck hsp hKK hi hi0
      go_wp2_with fail
      refine (unhide HCk).mono ?_
      rintro e w9 ⟨z, rfl, hb9, _, hz⟩
      obtain ⟨hz1, hz2⟩ := hz _ read_l
      have hdr := deep_ref i 200 [([], -1)] [] rfl
      have HB9 := hide ((unhide HB).trans (hb9.mono (unhide HB).size))
      by_cases h200 : i + 1 ≤ 200
      · obtain rfl : z = 0 := hz1 (hdr.2 h200)
        have g5 : Hid (decide ((i : Int) + 1 ≤ 200) = true) := by show _ = _; simp; omega
        clear hz hz1 hz2 hdr hb9 h200 HCk r0 r1 r2 r3 r4
        go_wp2
        go_ret
        refine ⟨?_, unhide HB9⟩
        show Ending.returned (.bool (decide ((i : Int) + 1 ≤ 200))) = _
        rw [unhide g5]
      · obtain rfl : z = 100 := hz2 (fun h => h200 (hdr.1 h))
        have g5 : Hid ((!decide ((i : Int) + 1 ≤ 200)) = true) := by show _ = _; simp; omega
        clear hz hz1 hz2 hdr hb9 h200 HCk r0 r1 r2 r3 r4
        go_wp2
        go_ret
        refine ⟨?_, unhide HB9⟩
        show Ending.returned (.bool (!decide ((i : Int) + 1 ≤ 200))) = _
        rw [unhide g5]
end Go.Proofs.YtnkigifcilgmbaaDoor
