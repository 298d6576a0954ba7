/- The document's Names: the region that puts a name in. -/
import Derived.Test.YthgdmppmjnmiiaaGreatDoorZAO
import Derived.Test.YthgdmppmjnmiiaaGreatDoorRows
import Derived.ProofKit
import Derived.OpenShut
import Derived.SizedLaws
import Derived.Carry
import Derived.BigRegion
import Derived.Maps.AppendAt
import Derived.Test.YthgdmppmjnmiiaaGreatDoorZAI
import Derived.Sort.Walk0
set_option linter.unusedVariables false
set_option linter.unusedSimpArgs false

/- avowlaw10: known() is true. -/
namespace Go.Proofs.YthgdmppmjnmiiaaGreatDoor
open Go Go.RowKit Go.Maps
open _root_.Go.Proofs.YthgdmppmjnmiiaaGreatDoor.Nm (IsI pw)
theorem hC0 : ∀ l ∈ ls0, l.1.length ≤ 1000 := fun l hl => by
  simp [ls0] at hl
  rcases hl with rfl | rfl <;> simp
theorem len0 : ls0.length = 2 := rfl
set_option maxRecDepth 100000 in
set_option maxHeartbeats 8000000 in
theorem known_any {w : World} (hT : Nm.Tab w) : Calls Tryz.prog 4 #[] w (VPost (.bool true) w) := by
  obtain ⟨A1, eA1, hbA1, hsA1, hcA1, hhA1⟩ := box_new w #[.string ⟨#[120]⟩, .string ⟨#[49]⟩] 39
  have HRow1 := hide (row_any (some ⟨w.heap.size, 0, none⟩) 1 1 ⟨#[49]⟩ A1)
  have HE1 := hide eA1
  have H1 := hide (And.intro hbA1 (And.intro hsA1 hhA1))
  have HT := hide hT
  clear eA1 hbA1 hsA1 hcA1 hhA1 hT
  go_enter Tryz.func4, Tryz.ntmps4
  go_wp2_with fail
  rw [unhide HE1]
  refine (unhide HRow1).mono ?_
  rintro e w1 ⟨rfl, hb1⟩
  obtain ⟨A2, eA2, hbA2, hsA2, hcA2, hhA2⟩ := box_new w1 #[.string ⟨#[120]⟩, .string ⟨#[45, 49]⟩] 39
  have HRow2 := hide (row_any (some ⟨w1.heap.size, 0, none⟩) 1 1 ⟨#[45, 50]⟩ A2)
  have HE2 := hide eA2
  have H2 := hide (And.intro hb1 (And.intro hbA2 (And.intro hsA2 hhA2)))
  clear hb1 eA2 hbA2 hsA2 hcA2 hhA2 HRow1 HE1
  go_wp2_with fail
  rw [unhide HE2]
  refine (unhide HRow2).mono ?_
  rintro e w2 ⟨rfl, hb2⟩
  obtain ⟨hbA1, hsA1, hhA1⟩ := unhide H1
  obtain ⟨hb1, hbA2, hsA2, hhA2⟩ := unhide H2
  obtain ⟨A3, eA3, hbA3, hsA3, hcA3, hhA3⟩ := box_new w2 #[.slice (some ⟨w.heap.size, 0, none⟩) 1 1, .string ⟨#[49]⟩, .slice (some ⟨w1.heap.size, 0, none⟩) 1 1, .string ⟨#[45, 50]⟩] 28
  have q1 := hb1.size
  have q2 := hb2.size
  have hg1 : A3.heap[w.heap.size]? = some (.cells #[.string ⟨#[120]⟩, .string ⟨#[49]⟩] 39) := (hbA3.block _ (by omega)).trans ((hb2.block _ (by omega)).trans ((hbA2.block _ (by omega)).trans ((hb1.block _ (by omega)).trans hhA1)))
  have hg2 : A3.heap[w1.heap.size]? = some (.cells #[.string ⟨#[120]⟩, .string ⟨#[45, 49]⟩] 39) := (hbA3.block _ (by omega)).trans ((hb2.block _ (by omega)).trans hhA2)
  have hKL : KL w2.heap.size A3 := KL.mk hg1 hg2 hhA3
  have hb03 : Below w.heap.size w A3 := hbA1.trans ((hb1.mono (by omega)).trans ((hbA2.mono (by omega)).trans ((hb2.mono (by omega)).trans (hbA3.mono (by omega)))))
  obtain ⟨A4, eA4, hbA4, hsA4, hcA4, hhA4⟩ := box_new A3 #[.string ⟨#[50]⟩, .string ⟨#[49]⟩] 9
  have hKL4 := hKL.more hbA4
  have hb04 : Below w.heap.size w A4 := hb03.trans (hbA4.mono hb03.size)
  have hba4 : Row A4.heap.size (some ⟨A3.heap.size, 0, none⟩) 2 2 1 (BA A4 [b2, b1]) := BA.mk (bs := [b2, b1]) hhA4 (fun j s hs => by
    match j, hs with
    | 0, hs => simpa [b2] using hs
    | 1, hs => simpa [b1] using hs
    | j + 2, hs => simp at hs) (by simp)
  have HSum := hide (Sum_any (ls := ls0) (bs := [b2, b1]) hKL4.2 len0.symm hba4 rfl (Nat.le_refl _) (by omega) hC0 (Nm.Tab.below (unhide HT) hb04))
  obtain ⟨lb, hlb⟩ : ∃ lb, w2.heap.size = lb := ⟨_, rfl⟩
  have hszA3 : A3.heap.size = lb + 1 := by omega
  rw [hlb] at hKL4 HSum
  rw [hszA3] at HSum
  have HE3 := hide (And.intro eA3 eA4)
  have hlc : A4.cell? ⟨lb, 0, none⟩ = some (.slice (some ⟨w.heap.size, 0, none⟩) 1 1) ∧ A4.cell? ⟨lb, 1, none⟩ = some (.string ⟨#[49]⟩) := by
    have hl4 := (hbA4.block w2.heap.size (by omega)).trans hhA3
    rw [hlb] at hl4
    exact ⟨(blk hl4).2.1 0 _ rfl, (blk hl4).2.1 1 _ rfl⟩
  have hA4s : lb + 2 ≤ A4.heap.size := by omega
  have H4 := hide (And.intro hKL4 (And.intro hb04 (And.intro hlc hA4s)))
  clear hbA1 hsA1 hhA1 hb1 hbA2 hsA2 hhA2 eA3 hbA3 hsA3 hcA3 hhA3 q1 q2 hg1 hg2 hKL hb03 eA4 hbA4 hsA4 hcA4 hhA4 hKL4 hb04 hba4 hb2 HRow2 HE2 H1 H2
  go_wp2_with fail
  rw [(unhide HE3).1, (unhide HE3).2]
  refine (unhide HSum).mono ?_
  rintro e w5 ⟨r, rfl, hb5, -, hq⟩
  obtain ⟨ss, hnd, hss, hIL⟩ := hq _ sum21
  obtain rfl := ss_x hnd hss
  rw [co_x, k_0] at hIL
  obtain ⟨a, n, c, rfl, hn, hR⟩ := hIL
  obtain rfl : n = 1 := hn
  obtain ⟨g, o, rfl, hg, hgj⟩ := hR.2.2 (by omega)
  have hgc := hgj 0 (by omega) (bx, b1) rfl
  have hN1 : w5.cell? ⟨g, o + 1, none⟩ = some (.string ⟨#[49]⟩) := by
    have := hgc 1 _ rfl
    rw [show o + 0 * 2 + 1 = o + 1 by omega] at this
    exact this
  rw [sum21]
  obtain ⟨hKL4, hb04, hlc, hA4s⟩ := unhide H4
  obtain ⟨w6, e6, hb6, hs6, hc6, hh6⟩ := box_new w5 #[.slice (some ⟨g, o, none⟩) 1 c, .string ⟨#[48]⟩] 28
  have hb46 : Below A4.heap.size A4 w6 := hb5.trans (hb6.mono hb5.size)
  have hb06 : Below w.heap.size w w6 := hb04.trans (hb46.mono hb04.size)
  have HAll : Hid (∀ V, Below w6.heap.size w6 V → (V.cell? ⟨w5.heap.size, 0, none⟩ = some (.slice (some ⟨g, o, none⟩) 1 c) ∧ V.cell? ⟨w5.heap.size, 1, none⟩ = some (.string ⟨#[48]⟩) ∧ V.cell? ⟨g, o + 1, none⟩ = some (.string ⟨#[49]⟩) ∧ V.cell? ⟨lb, 0, none⟩ = some (.slice (some ⟨w.heap.size, 0, none⟩) 1 1) ∧ V.cell? ⟨lb, 1, none⟩ = some (.string ⟨#[49]⟩)) ∧ KL lb V ∧ Below w.heap.size w V) := fun V hV => by
    have hl : lb < w6.heap.size := Nat.lt_of_lt_of_le (by omega) hb46.size
    have h5 : w5.heap.size < w6.heap.size := by omega
    have hg6 : g < w6.heap.size := by omega
    exact ⟨⟨(hV.cell (p := ⟨w5.heap.size, 0, none⟩) h5).trans ((blk hh6).2.1 0 _ rfl), (hV.cell (p := ⟨w5.heap.size, 1, none⟩) h5).trans ((blk hh6).2.1 1 _ rfl), (hV.cell (p := ⟨g, o + 1, none⟩) hg6).trans ((hb6.cell (p := ⟨g, o + 1, none⟩) hg).trans hN1), (hV.cell (p := ⟨lb, 0, none⟩) hl).trans ((hb46.cell (p := ⟨lb, 0, none⟩) (show lb < A4.heap.size by omega)).trans hlc.1), (hV.cell (p := ⟨lb, 1, none⟩) hl).trans ((hb46.cell (p := ⟨lb, 1, none⟩) (show lb < A4.heap.size by omega)).trans hlc.2)⟩, (hKL4.more hb46).more hV, hb06.trans (hV.mono hb06.size)⟩
  obtain ⟨A7, eA7, hbA7, hsA7, hcA7, hhA7⟩ := box_new w6 #[.string ⟨#[49]⟩, .string ⟨#[49]⟩] 9
  have HCk1 := hide (Check_sum (w := A7) (ls := ls0) (bs := [b1, b1]) (aL := some ⟨lb, 0, none⟩) (n := 2) (cL := 2) (aB := some ⟨w6.heap.size, 0, none⟩) (nB := 2) (cB := 2) (ar := none) (nr := 0) (cr := 0) (kr := ⟨#[]⟩) (al := none) (nl := 0) (cl := 0) (unhide HAll A7 hbA7).2.1.2 rfl (BA.mk (bs := [b1, b1]) hhA7 (fun j s hs => by
    match j, hs with
    | 0, hs => simpa [b1] using hs
    | 1, hs => simpa [b1] using hs
    | j + 2, hs => simp at hs) (by simp)) rfl (by omega) hC0)
  have HE7 := hide (And.intro e6 eA7)
  have HB7 := hide hbA7
  have hs6' : w6.heap.size = w5.heap.size + 1 := hs6
  have HS6 := hide hs6
  clear hb5 hq hnd hss hR hg hgj hgc hN1 hKL4 hb04 hlc hA4s e6 hb6 hc6 hh6 hb46 hb06 eA7 hbA7 hsA7 hcA7 hhA7 HSum HE3 hs6 hszA3 hlb
  rw [unhide HS6] at HCk1
  go_wp2_with fail
  rw [(unhide HE7).1, (unhide HE7).2]
  refine (unhide HCk1).mono ?_
  rintro e w8 ⟨z, rfl, hb8, -, hz⟩
  obtain rfl : z = 0 := (hz rs0 rd0).1 ref11
  have hb68 : Below w6.heap.size w6 w8 := (unhide HB7).trans (hb8.mono (unhide HB7).size)
  obtain ⟨A9, eA9, hbA9, hsA9, hcA9, hhA9⟩ := box_new w8 #[.string ⟨#[49]⟩] 9
  have hb69 : Below w6.heap.size w6 A9 := hb68.trans (hbA9.mono hb68.size)
  have HCk2 := hide (Check_sum (w := A9) (ls := ls0) (bs := [b1]) (aL := some ⟨lb, 0, none⟩) (n := 2) (cL := 2) (aB := some ⟨w8.heap.size, 0, none⟩) (nB := 1) (cB := 1) (ar := none) (nr := 0) (cr := 0) (kr := ⟨#[]⟩) (al := none) (nl := 0) (cl := 0) (unhide HAll A9 hb69).2.1.2 rfl (BA.mk (bs := [b1]) hhA9 (fun j s hs => by
    match j, hs with
    | 0, hs => simpa [b1] using hs
    | j + 1, hs => simp at hs) (by simp)) rfl (by omega) hC0)
  have HE9 := hide eA9
  have HB9 := hide hb69
  clear hb8 hz hb68 eA9 hbA9 hsA9 hcA9 hhA9 hb69 HCk1 HE7 HB7 hs6'
  go_wp2_with fail
  rw [unhide HE9]
  refine (unhide HCk2).mono ?_
  rintro e w10 ⟨z, rfl, hb10, -, hz⟩
  obtain rfl : z = 100 := (hz rs0 rd0).2 ref1
  have hb610 : Below w6.heap.size w6 w10 := (unhide HB9).trans (hb10.mono (unhide HB9).size)
  obtain ⟨A11, eA11, hbA11, hsA11, hcA11, hhA11⟩ := box_new w10 #[.slice none 0 0, .string ⟨#[]⟩] 28
  have hb611 : Below w6.heap.size w6 A11 := hb610.trans (hbA11.mono hb610.size)
  have HCk3 := hide (Check_sum (w := A11) (ls := [([], ⟨#[]⟩)]) (bs := []) (aL := some ⟨w10.heap.size, 0, none⟩) (n := 1) (cL := 1) (aB := none) (nB := 0) (cB := 0) (ar := none) (nr := 0) (cr := 0) (kr := ⟨#[]⟩) (al := none) (nl := 0) (cl := 0) ⟨Nat.le_refl _, by omega, fun _ => ⟨w10.heap.size, 0, rfl, (blk hhA11).1, fun j hj l hl => by
    obtain rfl : j = 0 := by omega
    obtain rfl : ([], ⟨#[]⟩) = l := by simpa using hl
    exact ⟨.slice none 0 0, .string ⟨#[]⟩, fun t u hu => by
      rw [show 0 + 0 * 2 + t = t by omega]
      exact (blk hhA11).2.1 t u (by simpa using hu), none, 0, 0, rfl, rfl, Nat.le_refl _, by omega, fun h => absurd rfl h⟩⟩⟩ rfl ⟨Nat.le_refl _, by omega, fun h => absurd rfl h⟩ rfl (by omega) (fun l hl => by simp at hl; subst hl; simp))
  have HE11 := hide eA11
  have HB11 := hide hb611
  clear hb10 hz hb610 eA11 hbA11 hsA11 hcA11 hhA11 hb611 HCk2 HE9 HB9
  go_wp2_with fail
  rw [unhide HE11]
  refine (unhide HCk3).mono ?_
  rintro e w12 ⟨z, rfl, hb12, hz, -⟩
  obtain rfl : z = 90 := hz rdE
  have hb612 : Below w6.heap.size w6 w12 := (unhide HB11).trans (hb12.mono (unhide HB11).size)
  obtain ⟨⟨c0, c1, c2, c3, c4⟩, hKL12, hbw12⟩ := unhide HAll w12 hb612
  have HRow := hide (show ∀ V, Below w6.heap.size w6 V → Calls Tryz.prog 8 #[.agg #[.slice (some ⟨w.heap.size, 0, none⟩) 1 1, .string ⟨#[49]⟩]] V (VPost (.bool true) V) from fun V hV => by
    obtain ⟨⟨_, _, _, d3, d4⟩, hKLV, _⟩ := unhide HAll V hV
    obtain ⟨b, off, eb, hb, hj⟩ := hKLV.2.2.2 (by omega)
    obtain ⟨rfl, rfl⟩ : b = lb ∧ off = 0 := by simp at eb; exact ⟨eb.1.symm, eb.2.symm⟩
    obtain ⟨x, y, hr, hI⟩ := hj 0 (by omega) ([(bx, b1)], b1) rfl
    have hx := hr 0 _ rfl
    have hy := hr 1 _ rfl
    simp only [Nat.zero_mul, Nat.add_zero, Nat.zero_add] at hx hy
    rw [d3] at hx
    rw [d4] at hy
    injection hx with hx
    injection hy with hy
    subst hx hy
    have := Row_any hI (Nat.le_refl _) (by simp)
    have e : (readR [(bx, b1)] b1).isSome = true := by
      have h1 : readP (bx, b1) = some (bx, 1) := by
        unfold readP
        rw [if_neg (by show ¬ ((1 : Nat) = 0 ∨ 200 < 1); omega), n1 400 (by omega)]
        rfl
      simp [readR, readC, h1, n1 400]
    rw [e] at this
    exact this)
  have HRow2 := hide (show ∀ V, Calls Tryz.prog 8 #[.agg #[.slice none 0 0, .string ⟨#[]⟩]] V (VPost (.bool false) V) from fun V => by
    have := Row_any (w := V) (B := 0) (C := []) (K := ⟨#[]⟩) ⟨none, 0, 0, rfl, rfl, Nat.le_refl _, by omega, fun h => absurd rfl h⟩ (Nat.zero_le _) (by simp)
    have e : (readR [] ⟨#[]⟩).isSome = false := by simp [readR, emptyT]
    rw [e] at this
    exact this)
  have HB12 := hide hb612
  clear hb12 hz hb612 hKL12 hbw12 HCk3 HE11 HB11
  go_wp2_with fail
  refine (unhide HRow w12 (unhide HB12)).mono ?_
  rintro e w13 ⟨rfl, hb13⟩
  have HB13 := hide ((unhide HB12).trans (hb13.mono (unhide HB12).size))
  clear hb13 c0 c1 c2 c3 c4
  go_wp2_with fail
  refine (unhide HRow2 w13).mono ?_
  rintro e w14 ⟨rfl, hb14⟩
  have HB14 := hide ((unhide HB13).trans (hb14.mono (unhide HB13).size))
  clear hb14
  go_wp2
  go_ret
  exact ⟨rfl, (unhide HAll w14 (unhide HB14)).2.2⟩
end Go.Proofs.YthgdmppmjnmiiaaGreatDoor

/- FarkasBoxes: facts on its rows. -/
namespace Go.Proofs.YthgdmppmjnmiiaaGreatDoor
open Go Go.RowKit Go.Maps
open _root_.Go.Proofs.YthgdmppmjnmiiaaGreatDoor.Nm (IsI pw)
def b0 : ByteArray := ⟨#[48]⟩
theorem n0 (d : Nat) (h : 1 ≤ d) : numT d b0 = some 0 := by
  simp [numT, rightB, b0, Lib.hasPrefix, Lib.trimPrefix, isDigB, h, Nm.dec]
theorem t0 : timesT b0 = some 0 := by simp [timesT, n0 1600]
end Go.Proofs.YthgdmppmjnmiiaaGreatDoor

/- FarkasMixes: plain facts. -/
namespace Go.Proofs.YthgdmppmjnmiiaaGreatDoor
open Go Go.RowKit Go.Maps
open _root_.Go.Proofs.YthgdmppmjnmiiaaGreatDoor.Nm (IsI pw)
theorem nodup_len {α : Type} [DecidableEq α] : ∀ {l m : List α}, l.Nodup → (∀ x ∈ l, x ∈ m) → l.length ≤ m.length
  | [], _, _, _ => by simp
  | x :: l, m, h, hs => by
    have hx := hs x (by simp)
    have hl := nodup_len (l := l) (m := m.erase x) (List.nodup_cons.1 h).2 fun y hy => by
      have hne : y ≠ x := fun e => (List.nodup_cons.1 h).1 (e ▸ hy)
      exact (List.mem_erase_of_ne hne).2 (hs y (by simp [hy]))
    rw [List.length_erase_of_mem hx] at hl
    have : 0 < m.length := List.length_pos_of_mem hx
    simp
    omega
end Go.Proofs.YthgdmppmjnmiiaaGreatDoor

/- Arguments of type []api.Lin, []string, []uint8, as the rows read them. -/
namespace Go.Proofs.YthgdmppmjnmiiaaGreatDoor
open Go Go.ChangeShapes Go.WideShapes Go.ChangeAt Go.RowKit
section
variable {H : Type} {enc : TypeId × Value → H} {P : Program} {W : World} {base : Nat} {sp : Nat → Bool} {held : Bool}
theorem trod_s {n : Nat} {t : TypeId} {c : Value} {x : DataW H × List MemPlace} (ht : P.underlying t = some .string) (h : DataW.trod enc P W base sp held n t [c] = some x) : ∃ s, c = .string s ∧ s.size ≤ maxLen := by
  cases n with
  | zero => simp [DataW.trod] at h
  | succ n =>
    unfold DataW.trod at h
    rw [ht] at h
    cases c <;> simp at h
    exact ⟨_, rfl, h.1⟩
theorem cells_at {a : Addr} {n : Nat} {l : List Value} (h : W.cells? base a n = some l) : l.length = n ∧ ∀ (i : Nat) v, l[i]? = some v → W.cell? (a.add i) = some v := by
  unfold World.cells? at h
  split at h
  · refine ⟨by simpa using mapM_some_length h, fun i v hv => ?_⟩
    have hl : l.length = n := by simpa using mapM_some_length h
    have hi : i < n := by have := (List.getElem?_eq_some_iff.1 hv).1; omega
    have := mapM_some_get h i i (by simp [hi])
    rw [this, hv]
  · cases h
theorem all_of {e : TypeId} {d : DataW H} {n : Nat} : ∀ {l : List (DataW H)}, d ∈ l → n ∈ d.weights P e → n ∈ DataW.weightsAll P e l
  | x :: l, h, hn => by
    simp only [DataW.weightsAll, List.mem_append]
    rcases List.mem_cons.1 h with rfl | h
    · exact .inl hn
    · exact .inr (all_of h hn)
theorem each_of {t : TypeId} {d : DataW H} {n : Nat} : ∀ {ts : List TypeId} {l : List (DataW H)} {i : Nat}, ts[i]? = some t → l[i]? = some d → n ∈ d.weights P t → n ∈ DataW.weightsEach P ts l
  | [], _, _, h, _, _ => by simp at h
  | _ :: _, [], _, _, h, _ => by simp at h
  | t' :: ts, d' :: l, 0, h1, h2, hn => by
    simp at h1 h2
    subst h1 h2
    simp only [DataW.weightsEach, List.mem_append]
    exact .inl hn
  | t' :: ts, d' :: l, i + 1, h1, h2, hn => by
    simp only [DataW.weightsEach, List.mem_append]
    exact .inr (each_of (i := i) (by simpa using h1) (by simpa using h2) hn)
theorem addr_add (b off j : Nat) : (⟨b, off, none⟩ : Addr).add j = ⟨b, off + j, none⟩ := by simp [Addr.add]
/-- A slice, each of whose elements lies in so many cells. -/
theorem row_of {e t : TypeId} {n k : Nat} {c : Value} {x : DataW H × List MemPlace} (ht : P.underlying t = some (.slice e)) (hk : P.cellsOf e = k) (hk0 : 0 < k) (hby : 0 < P.bytesOf e) (h : DataW.trod enc P W base sp held n t [c] = some x) (hz : ∀ m ∈ x.1.weights P t, m ≤ reachBytes)
    {q : List Value → Nat → Prop} (hp : ∀ (m j : Nat) (l : List Value) (y : DataW H × List MemPlace), m < n → DataW.trod enc P W base sp held m e l = some y → l.length = k → (∀ m ∈ y.1.weights P e, m ≤ reachBytes) → q l j) :
    ∃ a len cap, c = .slice a len cap ∧ len ≤ cap ∧ len ≤ 281474976710656 ∧ (len ≠ 0 → ∃ b off, a = some ⟨b, off, none⟩ ∧ b < W.heap.size ∧ ∀ j, j < len → ∃ l, l.length = k ∧ W.rangeAt b (off + j * k) l ∧ q l j) := by
  rcases DataW.trod_slice ht h with ⟨hcs, _⟩ | ⟨a, len, cap, elems, rest, m, hm, hcs, hx, _, hl, hcap, hlen, hel, _⟩
  · injection hcs with hcs
    exact ⟨none, 0, 0, hcs, Nat.le_refl _, by omega, fun h => absurd rfl h⟩
  · injection hcs with hcs
    rw [hx] at hz
    have hz1 := hz _ (by simp only [DataW.weights, ht]; exact List.mem_cons_self ..)
    have hlz : len ≤ 281474976710656 := by
      simp only [List.length_map, reachBytes] at hz1
      have : len * 1 ≤ (elems.length + rest.length) * P.bytesOf e := Nat.mul_le_mul (by omega) hby
      omega
    refine ⟨some a, len, cap, hcs, hl, hlz, fun h0 => ?_⟩
    have hE : ∀ i, i < len → ∃ l y, DataW.trod enc P W base sp held m e l = some y ∧ l.length = k ∧ (∀ (j : Nat) v, l[j]? = some v → W.cell? ((a.add (i * k)).add j) = some v) ∧ ∀ m ∈ y.1.weights P e, m ≤ reachBytes := fun i hi => by
      have h1 := hel i hi
      rw [hk, List.getElem?_eq_getElem (show i < elems.length by omega)] at h1
      obtain ⟨l, hl1, hl2⟩ := Option.bind_eq_some_iff.1 h1
      obtain ⟨h3, h4⟩ := cells_at hl1
      refine ⟨l, _, hl2, h3, h4, fun m hm => hz m ?_⟩
      simp only [DataW.weights, ht, List.mem_cons, List.mem_append]
      exact .inr (.inl (all_of (List.mem_map.2 ⟨_, List.getElem_mem _, rfl⟩) hm))
    obtain ⟨b, off, spot⟩ := a
    have hs : spot = none ∧ b < W.heap.size := by
      obtain ⟨l, y, _, h3, h4, _⟩ := hE 0 (by omega)
      have h5 := h4 0 _ (List.getElem?_eq_getElem (by omega))
      refine ⟨by simpa [Addr.add] using World.cell?_spot h5, ?_⟩
      have := World.block_lt_of_cell? _ _ h5
      simpa [Addr.add] using this
    obtain ⟨rfl, hb⟩ := hs
    refine ⟨b, off, rfl, hb, fun j hj => ?_⟩
    obtain ⟨l, y, h2, h3, h4, h5⟩ := hE j hj
    refine ⟨l, h3, fun i v hv => ?_, hp m j l y (by omega) h2 h3 h5⟩
    have := h4 i v hv
    rw [addr_add, addr_add] at this
    exact this
end
theorem pick_list {α : Type} (x0 : α) {len : Nat} {p : Nat → α → Prop} (h : ∀ j, j < len → ∃ u, p j u) : ∃ ls : List α, ls.length = len ∧ ∀ (j : Nat) u, ls[j]? = some u → p j u := by
  refine ⟨(List.range len).map fun j => if hj : j < len then Classical.choose (h j hj) else x0, by simp, fun j u hu => ?_⟩
  have hj : j < len := by have := (List.getElem?_eq_some_iff.1 hu).1; simpa using this
  rw [List.getElem?_map, List.getElem?_range hj, Option.map_some, dif_pos hj] at hu
  injection hu with hu
  rw [← hu]
  exact Classical.choose_spec (h j hj)
theorem cells_co : Tryz.prog.cellsOf 39 = 2 := by kernel_rfl
theorem cells_lin : Tryz.prog.cellsOf 28 = 2 := by kernel_rfl
theorem cells_lc : Tryz.prog.cellsOf 26 = 1 := by kernel_rfl
theorem cells_s : Tryz.prog.cellsOf 9 = 1 := by kernel_rfl
theorem bytes_co : 0 < Tryz.prog.bytesOf 39 := by
  have : Tryz.prog.bytesOf 39 = 32 := by kernel_rfl
  omega
theorem bytes_lin : 0 < Tryz.prog.bytesOf 28 := by
  have : Tryz.prog.bytesOf 28 = 40 := by kernel_rfl
  omega
theorem bytes_s : 0 < Tryz.prog.bytesOf 9 := by
  have : Tryz.prog.bytesOf 9 = 16 := by kernel_rfl
  omega
theorem len1 : ∀ {l : List Value}, l.length = 1 → ∃ c0, l = [c0]
  | [c0], _ => ⟨c0, rfl⟩
theorem len2 : ∀ {l : List Value}, l.length = 2 → ∃ c0 c1, l = [c0, c1]
  | [c0, c1], _ => ⟨c0, c1, rfl⟩
section
variable {H : Type} {enc : TypeId × Value → H} {W : World} {base : Nat} {sp : Nat → Bool} {held : Bool}
theorem open_strs {n : Nat} {c : Value} {x : DataW H × List MemPlace} (h : DataW.trod enc Tryz.prog W base sp held n 23 [c] = some x) (hz : ∀ m ∈ x.1.weights Tryz.prog 23, m ≤ reachBytes) : ∃ a cap, ∃ bs : List ByteArray, c = .slice a bs.length cap ∧ Row W.heap.size a bs.length cap 1 (BA W bs) := by
  obtain ⟨a, len, cap, rfl, hl, hz2, hr⟩ := row_of (k := 1) (q := fun l _ => ∃ s : ByteArray, l = [.string s]) Tryz.underlying23 cells_s (by omega) bytes_s h hz fun m j l y _ hy hl1 _ => by
    obtain ⟨c0, rfl⟩ := len1 hl1
    obtain ⟨s, rfl, _⟩ := trod_s Tryz.underlying9 hy
    exact ⟨s, rfl⟩
  by_cases h0 : len = 0
  · subst h0
    exact ⟨a, cap, [], rfl, hl, by simp, fun h => absurd rfl h⟩
  · obtain ⟨b, off, rfl, hb, hj⟩ := hr h0
    obtain ⟨xs, hxs, hp⟩ := pick_list (p := fun j (s : ByteArray) => W.cell? ⟨b, off + j * 1, none⟩ = some (.string s)) .empty (len := len) fun j hjl => by
      obtain ⟨l, _, hra, s, rfl⟩ := hj j hjl
      exact ⟨s, hra 0 _ rfl⟩
    subst hxs
    exact ⟨_, cap, xs, rfl, hl, hz2, fun _ => ⟨b, off, rfl, hb, fun j _ s hs => hp j s hs⟩⟩
end
end Go.Proofs.YthgdmppmjnmiiaaGreatDoor

/- The walk of FarkasDigits. -/
namespace Go.Proofs.YthgdmppmjnmiiaaGreatDoor
open Go Go.RowKit Go.Maps
open _root_.Go.Proofs.YthgdmppmjnmiiaaGreatDoor.Nm (IsI pw)
def fillL (n i : Nat) (d : UInt8) : List UInt8 := List.replicate i d ++ List.replicate (n - i) 0
def FY (V : World) (g n i : Nat) (d : UInt8) : Prop := V.heap[g]? = some (.cells (Lib.byteCells (fillL n i d)).toArray 5)
theorem bc_len (l : List UInt8) : (Lib.byteCells l).length = l.length := by simp [Lib.byteCells]
theorem fill_len {n i : Nat} (d : UInt8) (h : i ≤ n) : (fillL n i d).length = n := by simp [fillL]; omega
theorem fill_step {n i : Nat} (d : UInt8) (h : i < n) : (fillL n i d).set i d = fillL n (i + 1) d := by
  unfold fillL
  obtain ⟨k, hk⟩ : ∃ k, n - i = k + 1 := ⟨n - i - 1, by omega⟩
  rw [hk, show n - (i + 1) = k by omega, List.replicate_succ, List.set_append_right _ _ (by simp)]
  simp [List.replicate_succ', List.append_assoc]
theorem FY.put {V : World} {g n i : Nat} {d : UInt8} (h : FY V g n i d) (hi : i < n) : FY (V.setCell ⟨g, i, none⟩ (.int .u8 d.toNat)) g n (i + 1) d := by
  unfold FY at h ⊢
  rw [set_block h, ← fill_step d hi]
  congr 2
  simp [Lib.byteCells, List.map_set]
theorem FY.cell {V : World} {g n i : Nat} {d : UInt8} (h : FY V g n i d) (hi : i < n) : ∃ u, V.cell? ⟨g, i, none⟩ = some u ∧ V.frozen? ⟨g, i, none⟩ = false := by
  have hl : i < (Lib.byteCells (fillL n i d)).toArray.size := by
    simp only [List.size_toArray, bc_len]
    rw [fill_len d (by omega)]
    exact hi
  exact ⟨_, (blk h).2.1 i _ (Array.getElem?_eq_getElem hl), (blk h).2.2 i⟩
theorem FY.conv {V : World} {g n : Nat} {d : UInt8} (h : FY V g n n d) (hn : 0 < n) (hm : n ≤ 1000000) : (convert 90 9 (.slice (some ⟨g, 0, none⟩) n n)).run Tryz.prog V = .ok (.string ⟨(List.replicate n d).toArray⟩) V := by
  have e : fillL n n d = List.replicate n d := by simp [fillL]
  unfold FY at h
  rw [e] at h
  obtain ⟨g', c, ev, hr⟩ := Nm.conv_row (W := V) (Bc := 0) (v := .slice (some ⟨g, 0, none⟩) n n) (l := List.replicate n d) (n := n) (by simp) hn ⟨by simp [bc_len], .inr ⟨g, n, _, rfl, Nat.zero_le _, h, Nat.le_refl _, by unfold maxLen; omega, by simp [bc_len], by simp [List.take_of_length_le, bc_len]⟩⟩
  exact hr
end Go.Proofs.YthgdmppmjnmiiaaGreatDoor

/- FarkasMixes: three lists of texts that grow; its arguments. -/
namespace Go.Proofs.YthgdmppmjnmiiaaGreatDoor
open Go Go.RowKit Go.Maps
open _root_.Go.Proofs.YthgdmppmjnmiiaaGreatDoor.Nm (IsI pw)
theorem infStr : (Tryz.prog.info? 9).map (fun i => (i.zero, i.size, i.bytes)) = some (some (.string ⟨#[]⟩), 1, 16) := by kernel_rfl
theorem app_str {w : World} {S0 n : Nat} {v : Value} {xs : List Value} (ho : w.ownsRow S0 9 1 v n xs) (hS : S0 ≤ w.heap.size) (hn : n ≤ 1000000) (s : ByteArray) (ty : TypeId) : ∃ v' w', (Builtin.append_ #[23, 23] ty #[v, .slice (some ⟨w.heap.size, 0, none⟩) 1 1]).run Tryz.prog (w.alloc (.cells #[.string s] 9)) = .ok v' w' ∧ w'.ownsRow S0 9 1 v' (n + 1) (xs ++ [.string s]) ∧ Below S0 w w' ∧ (∀ k, k < w.heap.size → v.ownBlock ≠ some k → w'.heap[k]? = w.heap[k]?) ∧ (∀ g, v'.ownBlock = some g → v.ownBlock = some g ∨ w.heap.size ≤ g) ∧ w.heap.size ≤ w'.heap.size := by
  obtain ⟨A, eA, hbA, hsA, hcA, hhA⟩ := box_new w #[.string s] 9
  rw [eA]
  obtain ⟨i, hi, hz, h1, h2⟩ := inf_of infStr
  have hoA : A.ownsRow S0 9 1 v n xs := own_sameK ho fun g hg => hbA.block g (ho.lt g hg).2
  obtain ⟨v', w', hr, ho', hgr, _, hfr⟩ := run_append_own_at (P := Tryz.prog) A S0 23 ty 9 i _ 1 16 Tryz.underlying23 hi hz h1 h2 rfl (by omega) v n xs hoA ⟨w.heap.size, 0, none⟩ 1 1 [.string s] rfl (fun j u hu => by rw [Addr.add_lit, Nat.zero_add]; exact (blk hhA).2.1 j u (by simpa using hu)) (by simp [Value.oneCell']) (by unfold maxLen; omega) (by omega) (by omega)
  have hbel : Below S0 A w' := below_appK (Below.refl _ A) hgr hoA (by omega)
  refine ⟨v', w', hr, ho', (hbA.mono hS).trans hbel, fun k hk hne => (hgr.block k (by omega) (fun e => hne e.symm)).trans (hbA.block k hk), fun g hg => ?_, by have := hbel.size; omega⟩
  rcases hfr with hf | hf
  · exact .inl (by rw [← hf]; exact hg)
  · rw [hg] at hf
    have := Option.some.inj hf
    exact .inr (by omega)
/-- Three lists of texts, each in memory of its own. -/
structure S3 (S0 : Nat) (V : World) (i : Nat) (v1 v2 v3 : Value) (l1 l2 l3 : List ByteArray) : Prop where
  o1 : V.ownsRow S0 9 1 v1 i (l1.map Value.string)
  o2 : V.ownsRow S0 9 1 v2 i (l2.map Value.string)
  o3 : V.ownsRow S0 9 1 v3 i (l3.map Value.string)
  d12 : ∀ g, v1.ownBlock = some g → v2.ownBlock ≠ some g
  d13 : ∀ g, v1.ownBlock = some g → v3.ownBlock ≠ some g
  d23 : ∀ g, v2.ownBlock = some g → v3.ownBlock ≠ some g
theorem S3.below {S0 : Nat} {V V' : World} {i : Nat} {v1 v2 v3 : Value} {l1 l2 l3 : List ByteArray} (h : S3 S0 V i v1 v2 v3 l1 l2 l3) (hb : Below V.heap.size V V') : S3 S0 V' i v1 v2 v3 l1 l2 l3 :=
  ⟨own_sameK h.o1 fun g hg => hb.block g (h.o1.lt g hg).2, own_sameK h.o2 fun g hg => hb.block g (h.o2.lt g hg).2, own_sameK h.o3 fun g hg => hb.block g (h.o3.lt g hg).2, h.d12, h.d13, h.d23⟩
theorem S3.step {S0 : Nat} {V : World} {i : Nat} {v1 v2 v3 : Value} {l1 l2 l3 : List ByteArray} (h : S3 S0 V i v1 v2 v3 l1 l2 l3) (hS : S0 ≤ V.heap.size) (hi : i ≤ 1000000) (a b c : ByteArray) (ty : TypeId) : ∃ u1 w1 u2 w2 u3 w3,
    (Builtin.append_ #[23, 23] ty #[v1, .slice (some ⟨V.heap.size, 0, none⟩) 1 1]).run Tryz.prog (V.alloc (.cells #[.string a] 9)) = .ok u1 w1 ∧ (Builtin.append_ #[23, 23] ty #[v2, .slice (some ⟨w1.heap.size, 0, none⟩) 1 1]).run Tryz.prog (w1.alloc (.cells #[.string b] 9)) = .ok u2 w2 ∧
    (Builtin.append_ #[23, 23] ty #[v3, .slice (some ⟨w2.heap.size, 0, none⟩) 1 1]).run Tryz.prog (w2.alloc (.cells #[.string c] 9)) = .ok u3 w3 ∧ S3 S0 w3 (i + 1) u1 u2 u3 (l1 ++ [a]) (l2 ++ [b]) (l3 ++ [c]) ∧ Below S0 V w3 := by
  obtain ⟨u1, w1, r1, p1, b1, k1, q1, z1⟩ := app_str h.o1 hS hi a ty
  have p12 : w1.ownsRow S0 9 1 v2 i (l2.map Value.string) := own_sameK h.o2 fun g hg => k1 g (h.o2.lt g hg).2 fun e => h.d12 g e hg
  have p13 : w1.ownsRow S0 9 1 v3 i (l3.map Value.string) := own_sameK h.o3 fun g hg => k1 g (h.o3.lt g hg).2 fun e => h.d13 g e hg
  obtain ⟨u2, w2, r2, p2, b2, k2, q2, z2⟩ := app_str p12 (by omega) hi b ty
  have f21 : ∀ g, u1.ownBlock = some g → v2.ownBlock ≠ some g := fun g hg e => by
    rcases q1 g hg with h1 | h1
    · exact h.d12 g h1 e
    · have := (h.o2.lt g e).2; omega
  have f31 : ∀ g, u1.ownBlock = some g → v3.ownBlock ≠ some g := fun g hg e => by
    rcases q1 g hg with h1 | h1
    · exact h.d13 g h1 e
    · have := (h.o3.lt g e).2; omega
  have p21 : w2.ownsRow S0 9 1 u1 (i + 1) (l1.map Value.string ++ [.string a]) := own_sameK p1 fun g hg => k2 g (p1.lt g hg).2 fun e => f21 g hg e
  have p23 : w2.ownsRow S0 9 1 v3 i (l3.map Value.string) := own_sameK p13 fun g hg => k2 g (p13.lt g hg).2 fun e => h.d23 g e hg
  obtain ⟨u3, w3, r3, p3, b3, k3, q3, z3⟩ := app_str p23 (by omega) hi c ty
  have f32 : ∀ g, u2.ownBlock = some g → v3.ownBlock ≠ some g := fun g hg e => by
    rcases q2 g hg with h1 | h1
    · exact h.d23 g h1 e
    · have := (p13.lt g e).2; omega
  have m1 : ∀ (l : List ByteArray) (x : ByteArray), (l ++ [x]).map Value.string = l.map Value.string ++ [.string x] := fun l x => by simp
  refine ⟨u1, w1, u2, w2, u3, w3, r1, r2, r3, ⟨?_, ?_, ?_, ?_, ?_, ?_⟩, b1.trans (b2.trans b3)⟩
  · rw [m1]
    exact own_sameK p21 fun g hg => k3 g (p21.lt g hg).2 fun e => f31 g hg e
  · rw [m1]
    exact own_sameK p2 fun g hg => k3 g (p2.lt g hg).2 fun e => f32 g hg e
  · rw [m1]
    exact p3
  · intro g hg e
    rcases q2 g e with h1 | h1
    · exact f21 g hg h1
    · have := (p1.lt g hg).2; omega
  · intro g hg e
    rcases q3 g e with h1 | h1
    · exact f31 g hg h1
    · have := (p21.lt g hg).2; omega
  · intro g hg e
    rcases q3 g e with h1 | h1
    · exact f32 g hg h1
    · have := (p2.lt g hg).2; omega
/-- A list of texts of one's own, as Sum takes it. -/
theorem own_row {w : World} {S0 n : Nat} {v : Value} {l : List ByteArray} (h : w.ownsRow S0 9 1 v n (l.map Value.string)) (hn : n ≤ 1000000) : ∃ a c, v = .slice a n c ∧ n = l.length ∧ Row w.heap.size a n c 1 (BA w l) := by
  obtain ⟨a, c, rfl, hc, hx⟩ := own_cells h
  have hl : n = l.length := by have := h.1; simpa using this.symm
  refine ⟨a, c, rfl, hl, hc, by omega, fun h0 => ?_⟩
  obtain ⟨g, rfl, _, hg, hcell⟩ := hx h0
  refine ⟨g, 0, rfl, hg, fun j hj s hs => ?_⟩
  rw [Nat.zero_add, Nat.mul_one]
  exact hcell j _ (by rw [List.getElem?_map, hs]; rfl)
theorem own_nil (w : World) (S0 : Nat) : w.ownsRow S0 9 1 (.slice none 0 0) 0 (([] : List ByteArray).map Value.string) := World.ownsRow_nil w S0 9 1
section
open Go.ChangeShapes Go.WideShapes Go.ChangeAt
variable {H : Type} {enc : TypeId × Value → H} {W : World} {base : Nat} {sp : Nat → Bool} {held : Bool}
end
end Go.Proofs.YthgdmppmjnmiiaaGreatDoor

/- FarkasMixes: the law's walk. -/
namespace Go.Proofs.YthgdmppmjnmiiaaGreatDoor
open Go Go.RowKit Go.Maps
open _root_.Go.Proofs.YthgdmppmjnmiiaaGreatDoor.Nm (IsI pw)
theorem LAt.more {w w' : World} {B n c : Nat} {a : Option Addr} {ls : List (List (ByteArray × ByteArray) × ByteArray)} (h : Row B a n c 2 (LAt w B ls)) (hb : Below B w w') : Row B a n c 2 (LAt w' B ls) := h.mono (Nat.le_refl _) fun b o j hb' h l hl => by
  obtain ⟨x, y, h1, h2⟩ := h l hl
  exact ⟨x, y, rangeAt_below h1 hb' hb, h2.more hb⟩
theorem IsL.up {w : World} {B B' : Nat} {v : Value} {C : List (ByteArray × ByteArray)} {K : ByteArray} (h : IsL w B v C K) (hB : B ≤ B') : IsL w B' v C K := by
  obtain ⟨a, n, c, e, hn, hr⟩ := h
  exact ⟨a, n, c, e, hn, hr.mono hB fun _ _ _ _ h => h⟩
theorem LAt.all {w w' : World} {n c : Nat} {a : Option Addr} {ls : List (List (ByteArray × ByteArray) × ByteArray)} (h : Row w.heap.size a n c 2 (LAt w w.heap.size ls)) (hb : Below w.heap.size w w') : Row w'.heap.size a n c 2 (LAt w' w'.heap.size ls) := (LAt.more h hb).mono hb.size fun _ _ _ _ h l hl => by
  obtain ⟨x, y, h1, h2⟩ := h l hl
  exact ⟨x, y, h1, h2.up hb.size⟩
theorem BA.all {w w' : World} {n c : Nat} {a : Option Addr} {bs : List ByteArray} (h : Row w.heap.size a n c 1 (BA w bs)) (hb : Below w.heap.size w w') : Row w'.heap.size a n c 1 (BA w' bs) := h.mono hb.size fun _ _ _ hb' h => h.more hb' hb
theorem CA.all {w w' : World} {n c : Nat} {a : Option Addr} {C : List (ByteArray × ByteArray)} (h : Row w.heap.size a n c 2 (CA w C)) (hb : Below w.heap.size w w') : Row w'.heap.size a n c 2 (CA w' C) := h.mono hb.size fun _ _ _ hb' h => h.more hb' hb
end Go.Proofs.YthgdmppmjnmiiaaGreatDoor

/- The document's Names: sorted names, each once. -/
namespace Go.Proofs.YthgdmppmjnmiiaaGreatDoor
open Go Go.RowKit Go.Maps
open _root_.Go.Proofs.YthgdmppmjnmiiaaGreatDoor.Nm (IsI pw)
def NL (y x : ByteArray) : Prop := y.toList < x.toList
def SrtN (l : List ByteArray) : Prop := l.Pairwise NL
theorem toList_inj {x y : ByteArray} (h : x.toList = y.toList) : x = y := by
  rw [Lib.toList_data, Lib.toList_data] at h
  obtain ⟨a⟩ := x
  obtain ⟨b⟩ := y
  congr
  exact Array.toList_inj.1 h
theorem NL.tri {x y : ByteArray} (h1 : ¬ NL y x) (h2 : y ≠ x) : NL x y := by
  unfold NL at *
  apply Classical.byContradiction
  intro h
  exact h2 (toList_inj (List.le_antisymm (List.not_lt.1 h) (List.not_lt.1 h1)))
theorem NL.trans {x y z : ByteArray} (h1 : NL x y) (h2 : NL y z) : NL x z := List.lt_trans h1 h2
theorem ins_mem {l : List ByteArray} {x : ByteArray} {k : Nat} : ∀ z, z ∈ l.take k ++ x :: l.drop k ↔ z ∈ l ∨ z = x := fun z => by
  rw [List.mem_append, List.mem_cons]
  have : z ∈ l ↔ z ∈ l.take k ∨ z ∈ l.drop k := by
    conv => lhs; rw [← List.take_append_drop k l]
    rw [List.mem_append]
  rw [this]
  constructor
  · rintro (h | h | h)
    · exact .inl (.inl h)
    · exact .inr h
    · exact .inl (.inr h)
  · rintro ((h | h) | h)
    · exact .inl h
    · exact .inr (.inr h)
    · exact .inr (.inl h)
theorem ins_srt {l : List ByteArray} {x : ByteArray} {k : Nat} (hs : SrtN l) (hlt : ∀ (j : Nat) y, j < k → l[j]? = some y → NL y x) (hge : ∀ y, l[k]? = some y → ¬ NL y x ∧ y ≠ x) : SrtN (l.take k ++ x :: l.drop k) := by
  unfold SrtN at *
  have hs2 : (l.take k ++ l.drop k).Pairwise NL := by rw [List.take_append_drop]; exact hs
  rw [List.pairwise_append] at hs2
  obtain ⟨h1, h2, h3⟩ := hs2
  have hx : ∀ z ∈ l.drop k, NL x z := by
    cases hD : l.drop k with
    | nil => simp
    | cons d t =>
      have hd : l[k]? = some d := by
        have := congrArg List.head? hD
        simpa using this
      obtain ⟨q1, q2⟩ := hge d hd
      have hxd := NL.tri q1 q2
      rw [hD] at h2
      intro z hz
      rcases List.mem_cons.1 hz with rfl | hz
      · exact hxd
      · exact hxd.trans ((List.pairwise_cons.1 h2).1 z hz)
  rw [List.pairwise_append]
  refine ⟨h1, List.pairwise_cons.2 ⟨hx, h2⟩, fun y hy z hz => ?_⟩
  rcases List.mem_cons.1 hz with rfl | hz
  · obtain ⟨j, hj⟩ := List.getElem?_of_mem hy
    rw [List.getElem?_take] at hj
    split at hj
    · rename_i h
      exact hlt j y h hj
    · cases hj
  · exact h3 y hy z hz
/-- All names of rows. -/
def nmsC (C : List (ByteArray × ByteArray)) : List ByteArray := C.map (·.1)
def nmsL (ls : List (List (ByteArray × ByteArray) × ByteArray)) : List ByteArray := ls.flatMap fun l => nmsC l.1
theorem srt_nodup {l : List ByteArray} (h : SrtN l) : l.Nodup := h.imp fun {a b} hab e => by
  subst e
  exact List.lt_irrefl _ hab
theorem srt_len {l m : List ByteArray} (h : SrtN l) (hm : ∀ z ∈ l, z ∈ m) : l.length ≤ m.length := nodup_len (srt_nodup h) hm
end Go.Proofs.YthgdmppmjnmiiaaGreatDoor

/- The document's Names: a name is put in. -/
namespace Go.Proofs.YthgdmppmjnmiiaaGreatDoor
open Go Go.RowKit Go.Maps
open _root_.Go.Proofs.YthgdmppmjnmiiaaGreatDoor.Nm (IsI pw)
/-- v[k:], v[:k:k]. -/
def loV : Value → Nat → Value
  | .slice (some ad) n c, k => .slice (if c = k then some ad else some ⟨ad.block, ad.off + k, ad.spot⟩) (n - k) (c - k)
  | v, _ => v
def hiV : Value → Nat → Value
  | .slice (some ad) _ _, k => .slice (some ad) k k
  | v, _ => v
section
variable {X : Exit → Act → World → Prop} {K : Act → World → Prop} {a : Act} {w : World} {dst : Option Tmp} {ty : TypeId} {pos : String} {af : Array Edge} {gd : Option (Nat × Bool)}
set_option maxRecDepth 100000 in
set_option maxHeartbeats 4000000 in
theorem op_lo {x y : Operand} {S0 n k : Nat} {v : Value} {xs : List Value} (ho : w.ownsRow S0 9 1 v n xs) (hx : a.eval x = v) (hy : a.eval y = .int .i64 k) (hk : k ≤ n) (h : K (a.put dst (loV v k)) w) : Oper.wp Tryz.prog ⟨dst, .slice 23 x (some y) none none, ty, pos, af, gd⟩ a w K X := by
  obtain ⟨-, ⟨rfl, rfl⟩ | ⟨g, c, cur, rfl, -, -, hc, hm, -, -⟩⟩ := ho
  · obtain rfl : k = 0 := by omega
    unfold Oper.wp
    simp only [execOp, hx, Option.map_some, Option.map_none, hy]
    go_simp
    exact h
  · have g1 : (0 : Int) ≤ (k : Int) := by omega
    have g2 : (k : Int) ≤ (n : Int) := by omega
    have g3 : (n : Int) ≤ (c : Int) := by omega
    simp only [loV, Nat.zero_add] at h
    unfold Oper.wp
    simp only [execOp, hx, Option.map_some, Option.map_none, hy]
    go_simp
    exact h
set_option maxRecDepth 100000 in
set_option maxHeartbeats 4000000 in
theorem op_hi {x y z : Operand} {S0 n k : Nat} {v : Value} {xs : List Value} (ho : w.ownsRow S0 9 1 v n xs) (hx : a.eval x = v) (hy : a.eval y = .int .i64 k) (hz : a.eval z = .int .i64 k) (hk : k ≤ n) (h : K (a.put dst (hiV v k)) w) : Oper.wp Tryz.prog ⟨dst, .slice 23 x none (some y) (some z), ty, pos, af, gd⟩ a w K X := by
  obtain ⟨-, ⟨rfl, rfl⟩ | ⟨g, c, cur, rfl, -, -, hc, hm, -, -⟩⟩ := ho
  · obtain rfl : k = 0 := by omega
    unfold Oper.wp
    simp only [execOp, hx, Option.map_some, Option.map_none, hy, hz]
    go_simp
    exact h
  · have g1 : (0 : Int) ≤ (k : Int) := by omega
    have g2 : (k : Int) ≤ (n : Int) := by omega
    have g3 : (n : Int) ≤ (c : Int) := by omega
    have g4 : (k : Int) ≤ (c : Int) := by omega
    simp only [hiV] at h
    unfold Oper.wp
    simp only [execOp, hx, Option.map_some, Option.map_none, hy, hz]
    go_simp
    exact h
end
/-- The new name, and those behind it. -/
theorem ins_run1 {w : World} {S0 k : Nat} {v3 : Value} {cur : List ByteArray} {x : ByteArray} (ho : w.ownsRow S0 9 1 v3 cur.length (cur.map Value.string)) (hk : k ≤ cur.length) (hn : cur.length ≤ 1000) (ty : TypeId) : ∃ u w2, (Builtin.append_ #[23, 23] ty #[.slice (some ⟨w.heap.size, 0, none⟩) 1 1, loV v3 k]).run Tryz.prog (w.alloc (.cells #[.string x] 9)) = .ok u w2 ∧ w2.ownsRow w.heap.size 9 1 u (1 + (cur.length - k)) ((x :: cur.drop k).map Value.string) ∧ Below w.heap.size w w2 := by
  obtain ⟨A, eA, hbA, hsA, hcA, hhA⟩ := box_new w #[.string x] 9
  rw [eA]
  obtain ⟨i, hi, hz, h1, h2⟩ := inf_of infStr
  have hoA : A.ownsRow w.heap.size 9 1 (.slice (some ⟨w.heap.size, 0, none⟩) 1 1) 1 [.string x] := ⟨rfl, .inr ⟨w.heap.size, 1, #[.string x], rfl, Nat.le_refl _, hhA, Nat.le_refl _, by unfold maxLen; omega, rfl, rfl⟩⟩
  by_cases hm : cur.length - k = 0
  · have hdr : cur.drop k = [] := List.drop_eq_nil_of_le (by omega)
    refine ⟨.slice (some ⟨w.heap.size, 0, none⟩) 1 1, A, ?_, by rw [hm, hdr]; exact hoA, hbA⟩
    have hlo : ∃ b c, loV v3 k = .slice b 0 c := by
      obtain ⟨-, ⟨rfl, h0⟩ | ⟨g, c, cu, rfl, -⟩⟩ := ho
      · exact ⟨none, 0, rfl⟩
      · exact ⟨(if c = k then some ⟨g, 0, none⟩ else some ⟨g, 0 + k, none⟩), c - k, by simp only [loV, hm]⟩
    obtain ⟨b, c, e⟩ := hlo
    rw [e]
    cases b with
    | none => simp [Builtin.append_, run_underlying Tryz.underlying23, sizeOf, typeInfo, hi, Builtin.lenOf, Builtin.firstCells, loadCells, loadCellsFrom, storeCells]
    | some ad => simp [Builtin.append_, run_underlying Tryz.underlying23, sizeOf, typeInfo, hi, Builtin.lenOf, Builtin.firstCells, loadCells, loadCellsFrom, storeCells]
  · obtain ⟨hlen, ⟨rfl, h0⟩ | ⟨g, c, cu, rfl, hg, hgb, hnc, hcm, hcs, htk⟩⟩ := ho
    · omega
    · have hne : c ≠ k := by omega
      have hlo : loV (.slice (some ⟨g, 0, none⟩) cur.length c) k = .slice (some ⟨g, k, none⟩) (cur.length - k) (c - k) := by simp [loV, hne]
      rw [hlo]
      have hgA : A.heap[g]? = some (.cells cu 9) := (hbA.block g (Array.getElem?_eq_some_iff.1 hgb).1).trans hgb
      obtain ⟨u, w2, hr, ho', hgr, _, _⟩ := run_append_own_at (P := Tryz.prog) A w.heap.size 23 ty 9 i _ 1 16 Tryz.underlying23 hi hz h1 h2 rfl (by omega) _ 1 [.string x] hoA ⟨g, k, none⟩ (cur.length - k) (c - k) ((cur.drop k).map Value.string) (by simp) (fun j u hu => by
        rw [Addr.add_lit, cell_arr hgA]
        rw [List.getElem?_map, List.getElem?_drop] at hu
        have hlt : k + j < cur.length := by
          rcases Nat.lt_or_ge (k + j) cur.length with h | h
          · exact h
          · rw [List.getElem?_eq_none h] at hu; cases hu
        have h9 : (cu.toList.take (cur.length * 1))[k + j]? = cu.toList[k + j]? := by rw [List.getElem?_take, if_pos (by omega)]
        rw [← Array.getElem?_toList, ← h9, htk, List.getElem?_map]
        exact hu) (fun u hu => by obtain ⟨s, _, rfl⟩ := List.mem_map.1 hu; rfl) (by unfold maxLen; omega) (by omega) (by omega)
      refine ⟨u, w2, hr, by rw [List.map_cons]; exact ho', ?_⟩
      have hbel : Below w.heap.size A w2 := ⟨hgr.os, hgr.tape, hgr.output, hgr.size, fun q hq => hgr.block q (by omega) (fun e => by have h9 : q = w.heap.size := Option.some.inj e; omega)⟩
      exact hbA.trans hbel
/-- All of it, in memory of its own. -/
theorem ins_run2 {w2 : World} {S0 B k : Nat} {v3 u : Value} {cur rest : List ByteArray} (ho : w2.ownsRow S0 9 1 v3 cur.length (cur.map Value.string)) (hk : k ≤ cur.length) (hu : w2.ownsRow B 9 1 u rest.length (rest.map Value.string)) (hr0 : 0 < rest.length) (hS : S0 ≤ w2.heap.size) (hn : k + rest.length ≤ 3000) (ty : TypeId) : ∃ v' w3, (Builtin.append_ #[23, 23] ty #[hiV v3 k, u]).run Tryz.prog w2 = .ok v' w3 ∧ w3.ownsRow S0 9 1 v' (k + rest.length) ((cur.take k ++ rest).map Value.string) ∧ Below w2.heap.size w2 w3 := by
  obtain ⟨i, hi, hz, h1, h2⟩ := inf_of infStr
  obtain ⟨au, cu, rfl, hcu, hxu⟩ := own_cells hu
  obtain ⟨gu, rfl, _, hgu, hcell⟩ := hxu (by omega)
  have hnews : ∀ j v, (rest.map Value.string)[j]? = some v → w2.cell? ((⟨gu, 0, none⟩ : Addr).add j) = some v := fun j v hv => by
    rw [Addr.add_lit, Nat.zero_add]
    exact hcell j v hv
  have fin : ∀ (olds : List Value) (cc : Nat), olds = (cur.take k).map Value.string → k + rest.length ≤ cc → cc ≤ maxLen → (w2.drew.alloc (.cells (olds.toArray ++ (rest.map Value.string).toArray ++ Builtin.zeroCells #[.string ⟨#[]⟩] (cc - (k + rest.length))) 9)).ownsRow S0 9 1 (.slice (some ⟨w2.heap.size, 0, none⟩) (k + rest.length) cc) (k + rest.length) ((cur.take k ++ rest).map Value.string) := fun olds cc ho2 hc1 hc2 => by
    subst ho2
    have hl : ((cur.take k ++ rest).map Value.string).length = k + rest.length := by simp; omega
    refine ⟨by rw [hl]; omega, .inr ⟨w2.heap.size, cc, _, rfl, hS, (MapKept.heap_alloc w2.drew _).1, hc1, hc2, ?_, ?_⟩⟩
    · simp only [Array.size_append, List.size_toArray, size_zeroCells, List.length_map, List.length_take]
      simp
      omega
    · simp only [Array.toList_append, List.append_assoc]
      rw [← List.append_assoc, ← List.map_append, Nat.mul_one, ← hl]
      exact List.take_left
  have hbel : ∀ o, Below w2.heap.size w2 (w2.drew.alloc o) := fun o => ((Below.refl w2.heap.size w2).drew).alloc (Nat.le_refl _) o
  have hml : k + rest.length ≤ maxLen := by unfold maxLen; omega
  obtain ⟨hlen, ⟨rfl, h0⟩ | ⟨g, c, cc, rfl, hg, hgb, hnc, hcm, hcs, htk⟩⟩ := ho
  · have hc0 : cur = [] := List.eq_nil_of_length_eq_zero h0
    obtain rfl : k = 0 := by omega
    have hr := run_append_nil (P := Tryz.prog) w2 23 ty 9 i _ Tryz.underlying23 hi hz ⟨gu, 0, none⟩ rest.length cu (rest.map Value.string) (by rw [h1]; simp) hnews hr0 (by omega) (by rw [h2]; omega)
    have hf := fin [] (grownCap w2 rest.length 0 9) (by simp) (by rw [Nat.zero_add]; exact grownCap_ge w2 rest.length 0 _) (grownCap_le_maxLen w2 rest.length 0 _ (by omega))
    simp only [Nat.zero_add, List.take_zero, List.nil_append] at hf hml ⊢
    refine ⟨_, _, hr, ?_, hbel _⟩
    have e : (([] : List Value).toArray ++ (rest.map Value.string).toArray) = (rest.map Value.string).toArray := by simp
    rw [e] at hf
    exact hf
  · have hr := run_append_grow (P := Tryz.prog) w2 23 ty 9 i _ Tryz.underlying23 hi hz ⟨g, 0, none⟩ k k ((cur.take k).map Value.string) (by rw [h1]; simp; omega) (fun j v hv => by
      rw [Addr.add_lit, Nat.zero_add, cell_arr hgb]
      rw [List.getElem?_map, List.getElem?_take] at hv
      split at hv
      · rename_i hj
        have h9 : (cc.toList.take (cur.length * 1))[j]? = cc.toList[j]? := by rw [List.getElem?_take, if_pos (by omega)]
        rw [← Array.getElem?_toList, ← h9, htk, List.getElem?_map]
        exact hv
      · cases hv) ⟨gu, 0, none⟩ rest.length cu (rest.map Value.string) (by rw [h1]; simp) hnews (by omega) (by omega) (growslice_fits (by omega) (by rw [h2]; omega))
    exact ⟨_, _, hr, fin _ _ rfl (grownCap_ge w2 (k + rest.length) k _) (grownCap_le_maxLen w2 (k + rest.length) k _ hml), hbel _⟩
end Go.Proofs.YthgdmppmjnmiiaaGreatDoor

/- FarkasDigits' region 16. -/
namespace Go.Proofs.YthgdmppmjnmiiaaGreatDoor
open Go Go.RowKit Go.Maps
open _root_.Go.Proofs.YthgdmppmjnmiiaaGreatDoor.Nm (IsI pw)
section
variable {X : Exit → Act → World → Prop} {K : Act → World → Prop} {a : Act} {w : World} {dst : Option Tmp} {ty : TypeId} {pos : String} {af : Array Edge} {gd : Option (Nat × Bool)} {k : Nat}
set_option maxRecDepth 100000 in
set_option maxHeartbeats 4000000 in
theorem op_bsS {s : ByteArray} (hv : a.tmps.getD k undef = .string s) (h : K (a.put dst (.slice (some ⟨w.heap.size, 0, none⟩) 1 1)) (w.alloc (.cells #[.string s] 9))) : Oper.wp Tryz.prog ⟨dst, .buildSlice 23 1 #[(0, .tmp k)], ty, pos, af, gd⟩ a w K X := by
  have he : a.eval (.tmp k) = .string s := hv
  unfold Oper.wp
  simp only [execOp, List.map_toArray, List.map_cons, List.map_nil, he]
  go_simp
  exact h
end
end Go.Proofs.YthgdmppmjnmiiaaGreatDoor

namespace Go.Proofs.YthgdmppmjnmiiaaGreatDoor
open Go Go.RowKit Go.Maps
open _root_.Go.Proofs.YthgdmppmjnmiiaaGreatDoor.Nm (IsI pw)
set_option maxRecDepth 100000 in
theorem ix_L {b off n c i : Nat} (w : World) (hi : i < n) (hn : n ≤ 1000000) : (Instr.indexAt 22 (.slice (some ⟨b, off, none⟩) n c) (.int .i64 i)).run Tryz.prog w = .ok (.pointer (some ⟨b, off + i * 2, none⟩)) w := by
  have g1 : (i : Int) < (n : Int) := by omega
  have g0 : (0 : Int) ≤ (i : Int) := by omega
  have g2 : (n : Int) ≤ 1000000 := by omega
  go_simp
set_option maxRecDepth 100000 in
theorem ix_C {b off n c i : Nat} (w : World) (hi : i < n) (hn : n ≤ 1000000) : (Instr.indexAt 26 (.slice (some ⟨b, off, none⟩) n c) (.int .i64 i)).run Tryz.prog w = .ok (.pointer (some ⟨b, off + i * 2, none⟩)) w := by
  have g1 : (i : Int) < (n : Int) := by omega
  have g0 : (0 : Int) ≤ (i : Int) := by omega
  have g2 : (n : Int) ≤ 1000000 := by omega
  go_simp
set_option maxRecDepth 100000 in
theorem fa_linO (r o : Nat) (w : World) : (Instr.fieldAt 28 (.pointer (some ⟨r, o, none⟩)) 0).run Tryz.prog w = .ok (.pointer (some ⟨r, o, none⟩)) w := by go_simp
set_option maxRecDepth 100000 in
theorem fa_coO (r o : Nat) (w : World) : (Instr.fieldAt 39 (.pointer (some ⟨r, o, none⟩)) 0).run Tryz.prog w = .ok (.pointer (some ⟨r, o, none⟩)) w := by go_simp
def expN (b off n cL i bc oc nC cC kk at_ hb : Nat) (x : ByteArray) (v3 u v' : Value) : List Value := [v3, .int .i64 at_, .int .i64 at_, hiV v3 at_, .slice (some ⟨b, off, none⟩) n cL, .int .i64 i, .pointer (some ⟨b, off + i * 2, none⟩), .pointer (some ⟨b, off + i * 2, none⟩), .slice (some ⟨bc, oc, none⟩) nC cC, .int .i64 kk, .pointer (some ⟨bc, oc + kk * 2, none⟩), .pointer (some ⟨bc, oc + kk * 2, none⟩), .string x, .slice (some ⟨hb, 0, none⟩) 1 1, v3, .int .i64 at_, loV v3 at_, u, v', v']
def keptN : List Nat := (List.range 88).filter fun i => !(decide (68 ≤ i) && decide (i ≤ 86)) && !(i == 3)
def chnN (i : Nat) : Bool := i == 0 || i == 13 || i == 14 || i == 17 || i == 18 || i == 19
def wst (W0 W1 W2 W3 : World) (l13 l17 l18 : Bool) : World := cond l18 W3 (cond l17 W2 (cond l13 W1 W0))
set_option maxRecDepth 100000 in
set_option maxHeartbeats 4000000 in
theorem names_r13 {X : Exit → Act → World → Prop} {a0 : Act} {w0 W2 W3 : World} {b off n cL i bc oc nC cC kk at_ S0 : Nat} {x : ByteArray} {v3 u v' : Value} {cur : List ByteArray}
    (hN : a0.tmps.size = 88) (h0 : a0.tmps[0]? = some (.slice (some ⟨b, off, none⟩) n cL)) (h3 : a0.tmps[3]? = some v3) (h4 : a0.tmps[4]? = some (.int .i64 i)) (h5 : a0.tmps[5]? = some (.int .i64 kk)) (h6 : a0.tmps[6]? = some (.int .i64 at_))
    (p0 : w0.cell? ⟨b, off + i * 2, none⟩ = some (.slice (some ⟨bc, oc, none⟩) nC cC)) (p1 : w0.cell? ⟨bc, oc + kk * 2, none⟩ = some (.string x)) (hb : b < w0.heap.size) (hbc : bc < w0.heap.size) (hi : i < n) (hn : n ≤ 1000000) (hki : kk < nC) (hnC : nC ≤ 1000000)
    (ho : w0.ownsRow S0 9 1 v3 cur.length (cur.map Value.string)) (hk : at_ ≤ cur.length)
    (hr1 : (Builtin.append_ #[23, 23] 23 #[.slice (some ⟨w0.drew.heap.size, 0, none⟩) 1 1, loV v3 at_]).run Tryz.prog (w0.drew.alloc (.cells #[.string x] 9)) = .ok u W2) (hr2 : (Builtin.append_ #[23, 23] 23 #[hiV v3 at_, u]).run Tryz.prog W2 = .ok v' W3) (hB2 : Below w0.heap.size w0 W2) (hB3 : Below w0.heap.size w0 W3)
    (hend : ∀ (a : Act), a.defers = a0.defers → a.tmps.size = 88 → (∀ k, k ∈ keptN → a.tmps[k]? = a0.tmps[k]?) → a.tmps.getD 3 undef = v' → X .normal a W3) :
    (Code.region 13 (Nm.regionOf Tryz.f20 13).toArray true).wp Tryz.prog X a0 w0 := by
  have hl : (Nm.regionOf Tryz.f20 13).length = 20 := by kernel_rfl
  have hB0 : Below w0.heap.size w0 w0.drew := (Below.refl _ w0).drew
  have hB1 : Below w0.heap.size w0 (w0.drew.alloc (.cells #[.string x] 9)) := hB0.alloc (Nat.le_refl _) _
  have hBw : ∀ l1 l2 l3, Below w0.heap.size w0 (wst w0.drew (w0.drew.alloc (.cells #[.string x] 9)) W2 W3 l1 l2 l3) := fun l1 l2 l3 => by
    cases l3 with
    | true => exact hB3
    | false =>
      cases l2 with
      | true => exact hB2
      | false =>
        cases l1 with
        | true => exact hB1
        | false => exact hB0
  refine wp_region_any (by kernel_rfl) ?_
  refine seqG (l := (Nm.regionOf Tryz.f20 13)) (w0 := w0.drew) 88 keptN (fun j v => v = (expN b off n cL i bc oc nC cC kk at_ w0.drew.heap.size x v3 u v').getD j undef) chnN (fun L s w => (L 19 = false → s 19 = v3) ∧ w = wst w0.drew (w0.drew.alloc (.cells #[.string x] 9)) W2 W3 (L 13) (L 17) (L 18)) (by kernel_rfl) hN (by kernel_rfl) ?_ ?_ ?_ ?_ ?_ ?_
  · intro j hj
    rw [hl]
    simp [chnN] at hj
    omega
  · exact ⟨fun _ => getD_of h3, rfl⟩
  · intro L L' s s' w hh hq
    rw [← (hh 13 rfl).1, ← (hh 17 rfl).1, ← (hh 18 rfl).1, ← (hh 19 rfl).1, ← (hh 19 rfl).2]
    exact hq
  · intro j hj hcn a w Lf hn' hk' hp hq
    rw [hl] at hj
    have hj' : j = 1 ∨ j = 2 ∨ j = 3 ∨ j = 4 ∨ j = 5 ∨ j = 6 ∨ j = 7 ∨ j = 8 ∨ j = 9 ∨ j = 10 ∨ j = 11 ∨ j = 12 ∨ j = 15 ∨ j = 16 := by
      simp [chnN] at hcn
      omega
    have k0 : a.eval (.tmp 0) = .slice (some ⟨b, off, none⟩) n cL := getD_of ((hk' 0 (by decide)).trans h0)
    have k4 : a.eval (.tmp 4) = .int .i64 i := getD_of ((hk' 4 (by decide)).trans h4)
    have k5 : a.eval (.tmp 5) = .int .i64 kk := getD_of ((hk' 5 (by decide)).trans h5)
    have k6 : a.eval (.tmp 6) = .int .i64 at_ := getD_of ((hk' 6 (by decide)).trans h6)
    have hbw : Below w0.heap.size w0 w := by rw [hq.2]; exact hBw _ _ _
    have hown : w.ownsRow S0 9 1 v3 cur.length (cur.map Value.string) := own_sameK ho fun g hg => hbw.block g (ho.lt g hg).2
    rcases hj' with rfl | rfl | rfl | rfl | rfl | rfl | rfl | rfl | rfl | rfl | rfl | rfl | rfl | rfl
    · exact st_want (wnone rfl) (op_move ⟨_, rfl, rfl, k6⟩)
    · exact st_want (wnone rfl) (op_move ⟨_, rfl, rfl, k6⟩)
    · exact st_want (wnone rfl) (op_hi hown (hp 0 rfl) (hp 1 rfl) (hp 2 rfl) hk ⟨_, rfl, rfl, rfl⟩)
    · exact st_want (wnone rfl) (op_move ⟨_, rfl, rfl, k0⟩)
    · exact st_want (wnone rfl) (op_move ⟨_, rfl, rfl, k4⟩)
    · exact st_want (wnone rfl) (op_idx (hp 4 rfl) (hp 5 rfl) (ix_L w hi hn) ⟨_, rfl, rfl, rfl⟩)
    · exact st_want (wnone rfl) (op_fieldAddr (hp 6 rfl) (fa_linO b (off + i * 2) w) ⟨_, rfl, rfl, rfl⟩)
    · exact st_want (wnone rfl) (op_load (hp 7 rfl) (ld_C ((hbw.cell (p := ⟨b, off + i * 2, none⟩) hb).trans p0)) ⟨_, rfl, rfl, rfl⟩)
    · exact st_want (wnone rfl) (op_move ⟨_, rfl, rfl, k5⟩)
    · exact st_want (wnone rfl) (op_idx (hp 8 rfl) (hp 9 rfl) (ix_C w hki hnC) ⟨_, rfl, rfl, rfl⟩)
    · exact st_want (wnone rfl) (op_fieldAddr (hp 10 rfl) (fa_coO bc (oc + kk * 2) w) ⟨_, rfl, rfl, rfl⟩)
    · exact st_want (wnone rfl) (op_load (hp 11 rfl) (ld_S ((hbw.cell (p := ⟨bc, oc + kk * 2, none⟩) hbc).trans p1)) ⟨_, rfl, rfl, rfl⟩)
    · exact st_want (wnone rfl) (op_move ⟨_, rfl, rfl, k6⟩)
    · exact st_want (wnone rfl) (op_lo hown (hp 14 rfl) (hp 15 rfl) hk ⟨_, rfl, rfl, rfl⟩)
  · intro j hcn a w Lf hn' hk' hp0 hLj hd hq
    have dn : ∀ j k, j < 20 → (preds ((Nm.regionOf Tryz.f20 13).getD j default)).contains k = true → Lf k = false → Lf j = false := fun j k hj hk hLk => by
      cases hL : Lf j with
      | false => rfl
      | true => rw [hd j (by rw [hl]; exact hj) hL k hk] at hLk; cases hLk
    have hj' : j = 0 ∨ j = 13 ∨ j = 14 ∨ j = 17 ∨ j = 18 ∨ j = 19 := by simp [chnN] at hcn; omega
    obtain ⟨hq19, hqw⟩ := hq
    rcases hj' with rfl | rfl | rfl | rfl | rfl | rfl
    · have l19 := dn 19 0 (by decide) rfl hLj
      have e : a.eval (.tmp 3) = v3 := hq19 l19
      refine st_want (wnone rfl) (op_move ⟨_, rfl, e, fun _ => ?_, ?_⟩)
      · simp only [upS]
        exact hq19 l19
      · simp only [upL]
        exact hqw
    · have l17 := dn 17 13 (by decide) rfl hLj
      have l18 := dn 18 17 (by decide) rfl l17
      have l19 := dn 19 18 (by decide) rfl l18
      have e : a.tmps.getD 80 undef = .string x := (hp0 12 rfl).2
      rw [hLj, l17, l18] at hqw
      have hw : w = w0.drew := hqw
      subst hw
      refine st_want (wnone rfl) (op_bsS e ⟨_, rfl, rfl, fun _ => ?_, ?_⟩)
      · simp only [upS]
        exact hq19 l19
      · simp only [upL, l17, l18]
        rfl
    · have l19 := dn 19 14 (by decide) rfl hLj
      have e : a.eval (.tmp 3) = v3 := hq19 l19
      refine st_want (wnone rfl) (op_move ⟨_, rfl, e, fun _ => ?_, ?_⟩)
      · simp only [upS]
        exact hq19 l19
      · simp only [upL]
        exact hqw
    · have l13 : Lf 13 = true := (hp0 13 rfl).1
      have l18 := dn 18 17 (by decide) rfl hLj
      have l19 := dn 19 18 (by decide) rfl l18
      have e1 : a.tmps.getD 81 undef = .slice (some ⟨w0.drew.heap.size, 0, none⟩) 1 1 := (hp0 13 rfl).2
      have e2 : a.tmps.getD 84 undef = loV v3 at_ := (hp0 16 rfl).2
      rw [hLj, l13, l18] at hqw
      have hw : w = w0.drew.alloc (.cells #[.string x] 9) := hqw
      subst hw
      refine st_want (wnone rfl) (op_app e1 e2 hr1 ⟨_, rfl, rfl, fun _ => ?_, ?_⟩)
      · simp only [upS]
        exact hq19 l19
      · simp only [upL, l18]
        rfl
    · have l17 : Lf 17 = true := (hp0 17 rfl).1
      have l19 := dn 19 18 (by decide) rfl hLj
      have e1 : a.tmps.getD 71 undef = hiV v3 at_ := (hp0 3 rfl).2
      have e2 : a.tmps.getD 85 undef = u := (hp0 17 rfl).2
      rw [hLj, l17] at hqw
      have hw : w = W2 := hqw
      subst hw
      refine st_want (wnone rfl) (op_app e1 e2 hr2 ⟨_, rfl, rfl, fun _ => ?_, ?_⟩)
      · simp only [upS]
        exact hq19 l19
      · simp only [upL]
        rfl
    · have e : a.eval (.tmp 86) = v' := (hp0 18 rfl).2
      refine st_want (wnone rfl) (op_assign ⟨_, rfl, e, fun h => ?_, ?_⟩)
      · simp [upL] at h
      · simp only [upL]
        exact hqw
  · intro a w hdf hn' hk' hp hq
    have hw : w = W3 := hq.2
    subst hw
    exact hend a hdf hn' hk' (hp 19 (by rw [hl]; decide))
end Go.Proofs.YthgdmppmjnmiiaaGreatDoor
