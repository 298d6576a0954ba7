/- FarkasMixes: three lists of texts that grow; its arguments. -/
import Derived.Test.YtnkigifcilgmbaaGreatDoorZAN
import Derived.Test.YtnkigifcilgmbaaGreatDoorRows
import Derived.ProofKit
import Derived.OpenShut
import Derived.SizedLaws
import Derived.Carry
import Derived.BigRegion
import Derived.Maps.AppendAt
set_option linter.unusedVariables false
set_option linter.unusedSimpArgs false

/- avowlaw10: known() is true. -/
namespace Go.Proofs.YtnkigifcilgmbaaGreatDoor
open Go Go.RowKit Go.Maps
open _root_.Go.Proofs.YtnkigifcilgmbaaGreatDoor.Nm (IsI pw)
def bx : ByteArray := ⟨#[120]⟩
def b1 : ByteArray := ⟨#[49]⟩
def b2 : ByteArray := ⟨#[50]⟩
def bm1 : ByteArray := ⟨#[45, 49]⟩
def bm2 : ByteArray := ⟨#[45, 50]⟩
def ls0 : List (List (ByteArray × ByteArray) × ByteArray) := [([(bx, b1)], b1), ([(bx, bm1)], bm2)]
def rs0 : List (List (ByteArray × Int) × Int) := [([(bx, 1)], 1), ([(bx, -1)], -2)]
theorem n1 (d : Nat) (h : 1 ≤ d) : numT d b1 = some 1 := by
  have : decide (1 ≤ d) = true := by simpa using h
  simp [numT, rightB, b1, Lib.hasPrefix, Lib.trimPrefix, List.isPrefixOf, isDigB, Nm.dec, h]
theorem n2 (d : Nat) (h : 1 ≤ d) : numT d b2 = some 2 := by
  simp [numT, rightB, b2, Lib.hasPrefix, Lib.trimPrefix, List.isPrefixOf, isDigB, Nm.dec, h]
theorem nm1 (d : Nat) (h : 1 ≤ d) : numT d bm1 = some (-1) := by
  simp [numT, rightB, bm1, Lib.hasPrefix, Lib.trimPrefix, List.isPrefixOf, isDigB, Nm.dec, h]
theorem nm2 (d : Nat) (h : 1 ≤ d) : numT d bm2 = some (-2) := by
  simp [numT, rightB, bm2, Lib.hasPrefix, Lib.trimPrefix, List.isPrefixOf, isDigB, Nm.dec, h]
theorem rd0 : readL ls0 = some rs0 := by
  have h1 : readP (bx, b1) = some (bx, 1) := by
    unfold readP
    rw [if_neg (by show ¬ ((1 : Nat) = 0 ∨ 200 < 1); omega), n1 400 (by omega)]
    rfl
  have h2 : readP (bx, bm1) = some (bx, -1) := by
    unfold readP
    rw [if_neg (by show ¬ ((1 : Nat) = 0 ∨ 200 < 1); omega), nm1 400 (by omega)]
    rfl
  have h3 : readR [(bx, b1)] b1 = some ([(bx, 1)], 1) := by
    simp [readR, readC, h1, n1 400]
  have h4 : readR [(bx, bm1)] bm2 = some ([(bx, -1)], -2) := by
    simp [readR, readC, h2, nm2 400]
  simp [readL, allO, ls0, rs0, h3, h4]
theorem t1 : timesT b1 = some 1 := by simp [timesT, n1 1600]
theorem t2 : timesT b2 = some 2 := by simp [timesT, n2 1600]
theorem sum21 : sumAll ls0 [b2, b1] = some (fput (fput (fun _ => 0) bx 2) bx 1, 0) := by
  unfold sumAll
  rw [rd0]
  simp [sumO, allO, t1, t2, rs0, sumN, sumStep, fadd, fput]
theorem sum11 : sumO rs0 [b1, b1] = some (fput (fput (fun _ => 0) bx 1) bx 0, -1) := by
  simp [sumO, allO, t1, rs0, sumN, sumStep, fadd, fput]
theorem ref11 : Refuted rs0 [b1, b1] := ⟨_, sum11, fun s _ => by
  show (if s = bx then (0 : Int) else if s = bx then 1 else 0) = 0
  split
  · rfl
  · rfl, by show (-1 : Int) < 0; decide⟩
theorem sum1 : sumO rs0 [b1] = some (fput (fun _ => 0) bx 1, 1) := by
  simp [sumO, allO, t1, rs0, sumN, sumStep, fadd, fput]
theorem ref1 : ¬ Refuted rs0 [b1] := fun ⟨q, h, _, h2⟩ => by
  rw [sum1] at h
  injection h with h
  subst h
  exact absurd h2 (by show ¬ (1 : Int) < 0; decide)
theorem emptyT (d : Nat) : numT d ⟨#[]⟩ = none := by
  simp [numT, rightB, Lib.hasPrefix, Lib.trimPrefix, List.isPrefixOf]
theorem rdE : readL [([], ⟨#[]⟩)] = none := by
  simp [readL, allO, readR, emptyT]
/-- The names of known's sum: x alone. -/
theorem ss_x {ss : List (List UInt8)} (hn : ss.Nodup) (h : ∀ x, x ∈ ss ↔ x.length ≤ maxLen ∧ (fput (fput (fun _ => 0) bx 2) bx 1) (bytesOf x) ≠ 0) : ss = [[120]] := by
  have hx : ∀ x, x ∈ ss ↔ x = [120] := fun x => by
    rw [h x]
    have e : bytesOf x = bx ↔ x = [120] := by
      constructor
      · intro e
        have := congrArg (fun b : ByteArray => b.data.toList) e
        simpa [bytesOf, bx] using this
      · rintro rfl
        rfl
    unfold fput
    constructor
    · rintro ⟨_, h⟩
      by_cases hb : bytesOf x = bx
      · exact e.1 hb
      · simp [hb] at h
    · intro hx
      refine ⟨by rw [hx]; unfold maxLen; simp, ?_⟩
      rw [if_pos (e.2 hx)]
      decide
  cases ss with
  | nil => exact absurd ((hx [120]).2 rfl) (by simp)
  | cons a l =>
    have ha := (hx a).1 (by simp)
    subst ha
    cases l with
    | nil => rfl
    | cons b l =>
      have hb := (hx b).1 (by simp)
      subst hb
      simp at hn
theorem co_x : coefsOf (fput (fput (fun _ => 0) bx 2) bx 1) [[120]] = [(bx, b1)] := by
  have : (fput (fput (fun _ => 0) bx 2) bx 1) (bytesOf [120]) = 1 := by
    unfold fput
    rw [if_pos (show bytesOf [120] = bx from rfl)]
  have hi : Lib.itoa 1 = [49] := by kernel_rfl
  simp [coefsOf, coefOf, this, hi]
  exact ⟨rfl, rfl⟩
theorem k_0 : bytesOf (Lib.itoa 0) = ⟨#[48]⟩ := by
  have hi : Lib.itoa 0 = [48] := by kernel_rfl
  rw [hi]
  rfl
/-- The two rows of known lie there. -/
def KL (lb : Nat) (V : World) : Prop := lb < V.heap.size ∧ Row V.heap.size (some ⟨lb, 0, none⟩) 2 2 2 (LAt V V.heap.size ls0)
theorem KL.more {lb : Nat} {V V' : World} (h : KL lb V) (hb : Below V.heap.size V V') : KL lb V' := ⟨Nat.lt_of_lt_of_le h.1 hb.size, h.2.mono hb.size fun b o j hb' h l hl => by
  obtain ⟨x, y, h1, a, n, c, e, hn, hr⟩ := h l hl
  exact ⟨x, y, rangeAt_below h1 hb' hb, a, n, c, e, hn, hr.mono hb.size fun b o j hb2 h p hp => rangeAt_below (h p hp) hb2 hb⟩⟩
theorem KL.mk {V : World} {lb g1 g2 : Nat} (h1 : V.heap[g1]? = some (.cells #[.string bx, .string b1] 48)) (h2 : V.heap[g2]? = some (.cells #[.string bx, .string bm1] 48)) (hl : V.heap[lb]? = some (.cells #[.slice (some ⟨g1, 0, none⟩) 1 1, .string b1, .slice (some ⟨g2, 0, none⟩) 1 1, .string bm2] 28)) : KL lb V := by
  have hc : ∀ {g : Nat} {s t : ByteArray}, V.heap[g]? = some (.cells #[.string s, .string t] 48) → Row V.heap.size (some ⟨g, 0, none⟩) 1 1 2 (CA V [(s, t)]) := fun {g s t} h => ⟨Nat.le_refl _, by omega, fun _ => ⟨g, 0, rfl, (blk h).1, fun j hj c hc i u hu => by
    obtain rfl : j = 0 := by omega
    obtain rfl : (s, t) = c := by simpa using hc
    rw [show 0 + 0 * 2 + i = i by omega]
    exact (blk h).2.1 i u (by simpa using hu)⟩⟩
  refine ⟨(blk hl).1, Nat.le_refl _, by omega, fun _ => ⟨lb, 0, rfl, (blk hl).1, fun j hj l hlj => ?_⟩⟩
  rcases (by omega : j = 0 ∨ j = 1) with rfl | rfl
  · have : l = ([(bx, b1)], b1) := by simpa [ls0] using hlj.symm
    subst this
    exact ⟨.slice (some ⟨g1, 0, none⟩) 1 1, .string b1, fun t u hu => (blk hl).2.1 (0 + 0 * 2 + t) u (by
      match t, hu with
      | 0, hu => simpa using hu
      | 1, hu => simpa using hu
      | t + 2, hu => simp at hu), _, _, _, rfl, rfl, hc h1⟩
  · have : l = ([(bx, bm1)], bm2) := by simpa [ls0] using hlj.symm
    subst this
    exact ⟨.slice (some ⟨g2, 0, none⟩) 1 1, .string bm2, fun t u hu => (blk hl).2.1 (0 + 1 * 2 + t) u (by
      match t, hu with
      | 0, hu => simpa using hu
      | 1, hu => simpa using hu
      | t + 2, hu => simp at hu), _, _, _, rfl, rfl, hc h2⟩
theorem BA.mk {V : World} {g : Nat} {cs : Array Value} {bs : List ByteArray} (h : V.heap[g]? = some (.cells cs 9)) (hb : ∀ (j : Nat) s, bs[j]? = some s → cs[j]? = some (.string s)) (hn : bs.length ≤ 1000) : Row V.heap.size (some ⟨g, 0, none⟩) bs.length bs.length 1 (BA V bs) := ⟨Nat.le_refl _, by omega, fun _ => ⟨g, 0, rfl, (blk h).1, fun j hj s hs => by
  rw [show 0 + j * 1 = j by omega]
  exact (blk h).2.1 j _ (hb j s hs)⟩⟩
end Go.Proofs.YtnkigifcilgmbaaGreatDoor

/- avowlaw10: known() is true. -/
namespace Go.Proofs.YtnkigifcilgmbaaGreatDoor
open Go Go.RowKit Go.Maps
open _root_.Go.Proofs.YtnkigifcilgmbaaGreatDoor.Nm (IsI pw)
theorem hC0 : ∀ l ∈ ls0, l.1.length ≤ 1000 := fun l hl => by
  simp [ls0] at hl
  rcases hl with rfl | rfl <;> simp
theorem len0 : ls0.length = 2 := rfl
set_option maxRecDepth 100000 in
set_option maxHeartbeats 8000000 in
theorem known_any {w : World} (hT : Nm.Tab w) : Calls Tryz.prog 8 #[] w (VPost (.bool true) w) := by
  obtain ⟨A1, eA1, hbA1, hsA1, hcA1, hhA1⟩ := box_new w #[.string ⟨#[120]⟩, .string ⟨#[49]⟩] 48
  have HRow1 := hide (row_any (some ⟨w.heap.size, 0, none⟩) 1 1 ⟨#[49]⟩ A1)
  have HE1 := hide eA1
  have H1 := hide (And.intro hbA1 (And.intro hsA1 hhA1))
  have HT := hide hT
  clear eA1 hbA1 hsA1 hcA1 hhA1 hT
  go_enter Tryz.func8, Tryz.ntmps8
  go_wp2_with fail
  rw [unhide HE1]
  refine (unhide HRow1).mono ?_
  rintro e w1 ⟨rfl, hb1⟩
  obtain ⟨A2, eA2, hbA2, hsA2, hcA2, hhA2⟩ := box_new w1 #[.string ⟨#[120]⟩, .string ⟨#[45, 49]⟩] 48
  have HRow2 := hide (row_any (some ⟨w1.heap.size, 0, none⟩) 1 1 ⟨#[45, 50]⟩ A2)
  have HE2 := hide eA2
  have H2 := hide (And.intro hb1 (And.intro hbA2 (And.intro hsA2 hhA2)))
  clear hb1 eA2 hbA2 hsA2 hcA2 hhA2 HRow1 HE1
  go_wp2_with fail
  rw [unhide HE2]
  refine (unhide HRow2).mono ?_
  rintro e w2 ⟨rfl, hb2⟩
  obtain ⟨hbA1, hsA1, hhA1⟩ := unhide H1
  obtain ⟨hb1, hbA2, hsA2, hhA2⟩ := unhide H2
  obtain ⟨A3, eA3, hbA3, hsA3, hcA3, hhA3⟩ := box_new w2 #[.slice (some ⟨w.heap.size, 0, none⟩) 1 1, .string ⟨#[49]⟩, .slice (some ⟨w1.heap.size, 0, none⟩) 1 1, .string ⟨#[45, 50]⟩] 28
  have q1 := hb1.size
  have q2 := hb2.size
  have hg1 : A3.heap[w.heap.size]? = some (.cells #[.string ⟨#[120]⟩, .string ⟨#[49]⟩] 48) := (hbA3.block _ (by omega)).trans ((hb2.block _ (by omega)).trans ((hbA2.block _ (by omega)).trans ((hb1.block _ (by omega)).trans hhA1)))
  have hg2 : A3.heap[w1.heap.size]? = some (.cells #[.string ⟨#[120]⟩, .string ⟨#[45, 49]⟩] 48) := (hbA3.block _ (by omega)).trans ((hb2.block _ (by omega)).trans hhA2)
  have hKL : KL w2.heap.size A3 := KL.mk hg1 hg2 hhA3
  have hb03 : Below w.heap.size w A3 := hbA1.trans ((hb1.mono (by omega)).trans ((hbA2.mono (by omega)).trans ((hb2.mono (by omega)).trans (hbA3.mono (by omega)))))
  obtain ⟨A4, eA4, hbA4, hsA4, hcA4, hhA4⟩ := box_new A3 #[.string ⟨#[50]⟩, .string ⟨#[49]⟩] 9
  have hKL4 := hKL.more hbA4
  have hb04 : Below w.heap.size w A4 := hb03.trans (hbA4.mono hb03.size)
  have hba4 : Row A4.heap.size (some ⟨A3.heap.size, 0, none⟩) 2 2 1 (BA A4 [b2, b1]) := BA.mk (bs := [b2, b1]) hhA4 (fun j s hs => by
    match j, hs with
    | 0, hs => simpa [b2] using hs
    | 1, hs => simpa [b1] using hs
    | j + 2, hs => simp at hs) (by simp)
  have HSum := hide (Sum_any (ls := ls0) (bs := [b2, b1]) hKL4.2 len0.symm hba4 rfl (Nat.le_refl _) (by omega) hC0 (Nm.Tab.below (unhide HT) hb04))
  obtain ⟨lb, hlb⟩ : ∃ lb, w2.heap.size = lb := ⟨_, rfl⟩
  have hszA3 : A3.heap.size = lb + 1 := by omega
  rw [hlb] at hKL4 HSum
  rw [hszA3] at HSum
  have HE3 := hide (And.intro eA3 eA4)
  have hlc : A4.cell? ⟨lb, 0, none⟩ = some (.slice (some ⟨w.heap.size, 0, none⟩) 1 1) ∧ A4.cell? ⟨lb, 1, none⟩ = some (.string ⟨#[49]⟩) := by
    have hl4 := (hbA4.block w2.heap.size (by omega)).trans hhA3
    rw [hlb] at hl4
    exact ⟨(blk hl4).2.1 0 _ rfl, (blk hl4).2.1 1 _ rfl⟩
  have hA4s : lb + 2 ≤ A4.heap.size := by omega
  have H4 := hide (And.intro hKL4 (And.intro hb04 (And.intro hlc hA4s)))
  clear hbA1 hsA1 hhA1 hb1 hbA2 hsA2 hhA2 eA3 hbA3 hsA3 hcA3 hhA3 q1 q2 hg1 hg2 hKL hb03 eA4 hbA4 hsA4 hcA4 hhA4 hKL4 hb04 hba4 hb2 HRow2 HE2 H1 H2
  go_wp2_with fail
  rw [(unhide HE3).1, (unhide HE3).2]
  refine (unhide HSum).mono ?_
  rintro e w5 ⟨r, rfl, hb5, -, hq⟩
  obtain ⟨ss, hnd, hss, hIL⟩ := hq _ sum21
  obtain rfl := ss_x hnd hss
  rw [co_x, k_0] at hIL
  obtain ⟨a, n, c, rfl, hn, hR⟩ := hIL
  obtain rfl : n = 1 := hn
  obtain ⟨g, o, rfl, hg, hgj⟩ := hR.2.2 (by omega)
  have hgc := hgj 0 (by omega) (bx, b1) rfl
  have hN1 : w5.cell? ⟨g, o + 1, none⟩ = some (.string ⟨#[49]⟩) := by
    have := hgc 1 _ rfl
    rw [show o + 0 * 2 + 1 = o + 1 by omega] at this
    exact this
  rw [sum21]
  obtain ⟨hKL4, hb04, hlc, hA4s⟩ := unhide H4
  obtain ⟨w6, e6, hb6, hs6, hc6, hh6⟩ := box_new w5 #[.slice (some ⟨g, o, none⟩) 1 c, .string ⟨#[48]⟩] 28
  have hb46 : Below A4.heap.size A4 w6 := hb5.trans (hb6.mono hb5.size)
  have hb06 : Below w.heap.size w w6 := hb04.trans (hb46.mono hb04.size)
  have HAll : Hid (∀ V, Below w6.heap.size w6 V → (V.cell? ⟨w5.heap.size, 0, none⟩ = some (.slice (some ⟨g, o, none⟩) 1 c) ∧ V.cell? ⟨w5.heap.size, 1, none⟩ = some (.string ⟨#[48]⟩) ∧ V.cell? ⟨g, o + 1, none⟩ = some (.string ⟨#[49]⟩) ∧ V.cell? ⟨lb, 0, none⟩ = some (.slice (some ⟨w.heap.size, 0, none⟩) 1 1) ∧ V.cell? ⟨lb, 1, none⟩ = some (.string ⟨#[49]⟩)) ∧ KL lb V ∧ Below w.heap.size w V) := fun V hV => by
    have hl : lb < w6.heap.size := Nat.lt_of_lt_of_le (by omega) hb46.size
    have h5 : w5.heap.size < w6.heap.size := by omega
    have hg6 : g < w6.heap.size := by omega
    exact ⟨⟨(hV.cell (p := ⟨w5.heap.size, 0, none⟩) h5).trans ((blk hh6).2.1 0 _ rfl), (hV.cell (p := ⟨w5.heap.size, 1, none⟩) h5).trans ((blk hh6).2.1 1 _ rfl), (hV.cell (p := ⟨g, o + 1, none⟩) hg6).trans ((hb6.cell (p := ⟨g, o + 1, none⟩) hg).trans hN1), (hV.cell (p := ⟨lb, 0, none⟩) hl).trans ((hb46.cell (p := ⟨lb, 0, none⟩) (show lb < A4.heap.size by omega)).trans hlc.1), (hV.cell (p := ⟨lb, 1, none⟩) hl).trans ((hb46.cell (p := ⟨lb, 1, none⟩) (show lb < A4.heap.size by omega)).trans hlc.2)⟩, (hKL4.more hb46).more hV, hb06.trans (hV.mono hb06.size)⟩
  obtain ⟨A7, eA7, hbA7, hsA7, hcA7, hhA7⟩ := box_new w6 #[.string ⟨#[49]⟩, .string ⟨#[49]⟩] 9
  have HCk1 := hide (Check_sum (w := A7) (ls := ls0) (bs := [b1, b1]) (aL := some ⟨lb, 0, none⟩) (n := 2) (cL := 2) (aB := some ⟨w6.heap.size, 0, none⟩) (nB := 2) (cB := 2) (ar := none) (nr := 0) (cr := 0) (kr := ⟨#[]⟩) (al := none) (nl := 0) (cl := 0) (unhide HAll A7 hbA7).2.1.2 rfl (BA.mk (bs := [b1, b1]) hhA7 (fun j s hs => by
    match j, hs with
    | 0, hs => simpa [b1] using hs
    | 1, hs => simpa [b1] using hs
    | j + 2, hs => simp at hs) (by simp)) rfl (by omega) hC0)
  have HE7 := hide (And.intro e6 eA7)
  have HB7 := hide hbA7
  have hs6' : w6.heap.size = w5.heap.size + 1 := hs6
  have HS6 := hide hs6
  clear hb5 hq hnd hss hR hg hgj hgc hN1 hKL4 hb04 hlc hA4s e6 hb6 hc6 hh6 hb46 hb06 eA7 hbA7 hsA7 hcA7 hhA7 HSum HE3 hs6 hszA3 hlb
  rw [unhide HS6] at HCk1
  go_wp2_with fail
  rw [(unhide HE7).1, (unhide HE7).2]
  refine (unhide HCk1).mono ?_
  rintro e w8 ⟨z, rfl, hb8, -, hz⟩
  obtain rfl : z = 0 := (hz rs0 rd0).1 ref11
  have hb68 : Below w6.heap.size w6 w8 := (unhide HB7).trans (hb8.mono (unhide HB7).size)
  obtain ⟨A9, eA9, hbA9, hsA9, hcA9, hhA9⟩ := box_new w8 #[.string ⟨#[49]⟩] 9
  have hb69 : Below w6.heap.size w6 A9 := hb68.trans (hbA9.mono hb68.size)
  have HCk2 := hide (Check_sum (w := A9) (ls := ls0) (bs := [b1]) (aL := some ⟨lb, 0, none⟩) (n := 2) (cL := 2) (aB := some ⟨w8.heap.size, 0, none⟩) (nB := 1) (cB := 1) (ar := none) (nr := 0) (cr := 0) (kr := ⟨#[]⟩) (al := none) (nl := 0) (cl := 0) (unhide HAll A9 hb69).2.1.2 rfl (BA.mk (bs := [b1]) hhA9 (fun j s hs => by
    match j, hs with
    | 0, hs => simpa [b1] using hs
    | j + 1, hs => simp at hs) (by simp)) rfl (by omega) hC0)
  have HE9 := hide eA9
  have HB9 := hide hb69
  clear hb8 hz hb68 eA9 hbA9 hsA9 hcA9 hhA9 hb69 HCk1 HE7 HB7 hs6'
  go_wp2_with fail
  rw [unhide HE9]
  refine (unhide HCk2).mono ?_
  rintro e w10 ⟨z, rfl, hb10, -, hz⟩
  obtain rfl : z = 100 := (hz rs0 rd0).2 ref1
  have hb610 : Below w6.heap.size w6 w10 := (unhide HB9).trans (hb10.mono (unhide HB9).size)
  obtain ⟨A11, eA11, hbA11, hsA11, hcA11, hhA11⟩ := box_new w10 #[.slice none 0 0, .string ⟨#[]⟩] 28
  have hb611 : Below w6.heap.size w6 A11 := hb610.trans (hbA11.mono hb610.size)
  have HCk3 := hide (Check_sum (w := A11) (ls := [([], ⟨#[]⟩)]) (bs := []) (aL := some ⟨w10.heap.size, 0, none⟩) (n := 1) (cL := 1) (aB := none) (nB := 0) (cB := 0) (ar := none) (nr := 0) (cr := 0) (kr := ⟨#[]⟩) (al := none) (nl := 0) (cl := 0) ⟨Nat.le_refl _, by omega, fun _ => ⟨w10.heap.size, 0, rfl, (blk hhA11).1, fun j hj l hl => by
    obtain rfl : j = 0 := by omega
    obtain rfl : ([], ⟨#[]⟩) = l := by simpa using hl
    exact ⟨.slice none 0 0, .string ⟨#[]⟩, fun t u hu => by
      rw [show 0 + 0 * 2 + t = t by omega]
      exact (blk hhA11).2.1 t u (by simpa using hu), none, 0, 0, rfl, rfl, Nat.le_refl _, by omega, fun h => absurd rfl h⟩⟩⟩ rfl ⟨Nat.le_refl _, by omega, fun h => absurd rfl h⟩ rfl (by omega) (fun l hl => by simp at hl; subst hl; simp))
  have HE11 := hide eA11
  have HB11 := hide hb611
  clear hb10 hz hb610 eA11 hbA11 hsA11 hcA11 hhA11 hb611 HCk2 HE9 HB9
  go_wp2_with fail
  rw [unhide HE11]
  refine (unhide HCk3).mono ?_
  rintro e w12 ⟨z, rfl, hb12, hz, -⟩
  obtain rfl : z = 90 := hz rdE
  have hb612 : Below w6.heap.size w6 w12 := (unhide HB11).trans (hb12.mono (unhide HB11).size)
  obtain ⟨⟨c0, c1, c2, c3, c4⟩, hKL12, hbw12⟩ := unhide HAll w12 hb612
  have HRow := hide (show ∀ V, Below w6.heap.size w6 V → Calls Tryz.prog 12 #[.agg #[.slice (some ⟨w.heap.size, 0, none⟩) 1 1, .string ⟨#[49]⟩]] V (VPost (.bool true) V) from fun V hV => by
    obtain ⟨⟨_, _, _, d3, d4⟩, hKLV, _⟩ := unhide HAll V hV
    obtain ⟨b, off, eb, hb, hj⟩ := hKLV.2.2.2 (by omega)
    obtain ⟨rfl, rfl⟩ : b = lb ∧ off = 0 := by simp at eb; exact ⟨eb.1.symm, eb.2.symm⟩
    obtain ⟨x, y, hr, hI⟩ := hj 0 (by omega) ([(bx, b1)], b1) rfl
    have hx := hr 0 _ rfl
    have hy := hr 1 _ rfl
    simp only [Nat.zero_mul, Nat.add_zero, Nat.zero_add] at hx hy
    rw [d3] at hx
    rw [d4] at hy
    injection hx with hx
    injection hy with hy
    subst hx hy
    have := Row_any hI (Nat.le_refl _) (by simp)
    have e : (readR [(bx, b1)] b1).isSome = true := by
      have h1 : readP (bx, b1) = some (bx, 1) := by
        unfold readP
        rw [if_neg (by show ¬ ((1 : Nat) = 0 ∨ 200 < 1); omega), n1 400 (by omega)]
        rfl
      simp [readR, readC, h1, n1 400]
    rw [e] at this
    exact this)
  have HRow2 := hide (show ∀ V, Calls Tryz.prog 12 #[.agg #[.slice none 0 0, .string ⟨#[]⟩]] V (VPost (.bool false) V) from fun V => by
    have := Row_any (w := V) (B := 0) (C := []) (K := ⟨#[]⟩) ⟨none, 0, 0, rfl, rfl, Nat.le_refl _, by omega, fun h => absurd rfl h⟩ (Nat.zero_le _) (by simp)
    have e : (readR [] ⟨#[]⟩).isSome = false := by simp [readR, emptyT]
    rw [e] at this
    exact this)
  have HB12 := hide hb612
  clear hb12 hz hb612 hKL12 hbw12 HCk3 HE11 HB11
  go_wp2_with fail
  refine (unhide HRow w12 (unhide HB12)).mono ?_
  rintro e w13 ⟨rfl, hb13⟩
  have HB13 := hide ((unhide HB12).trans (hb13.mono (unhide HB12).size))
  clear hb13 c0 c1 c2 c3 c4
  go_wp2_with fail
  refine (unhide HRow2 w13).mono ?_
  rintro e w14 ⟨rfl, hb14⟩
  have HB14 := hide ((unhide HB13).trans (hb14.mono (unhide HB13).size))
  clear hb14
  go_wp2
  go_ret
  exact ⟨rfl, (unhide HAll w14 (unhide HB14)).2.2⟩
end Go.Proofs.YtnkigifcilgmbaaGreatDoor

/- FarkasBoxes: facts on its rows. -/
namespace Go.Proofs.YtnkigifcilgmbaaGreatDoor
open Go Go.RowKit Go.Maps
open _root_.Go.Proofs.YtnkigifcilgmbaaGreatDoor.Nm (IsI pw)
def tx (z : Int) : ByteArray := bytesOf (Lib.itoa z)
theorem num_tx {z : Int} (h : z.natAbs < 1000000) {d : Nat} (hd : 6 ≤ d) (hd2 : d ≤ 1900) : numT d (tx z) = some z := by
  unfold tx
  rw [numT_itoa d z hd2, if_pos (Nat.le_trans (dd_len (m := 6) h (by omega)) hd)]
def b0 : ByteArray := ⟨#[48]⟩
theorem n0 (d : Nat) (h : 1 ≤ d) : numT d b0 = some 0 := by
  simp [numT, rightB, b0, Lib.hasPrefix, Lib.trimPrefix, isDigB, h, Nm.dec]
theorem t0 : timesT b0 = some 0 := by simp [timesT, n0 1600]
end Go.Proofs.YtnkigifcilgmbaaGreatDoor

/- FarkasMixes: plain facts. -/
namespace Go.Proofs.YtnkigifcilgmbaaGreatDoor
open Go Go.RowKit Go.Maps
open _root_.Go.Proofs.YtnkigifcilgmbaaGreatDoor.Nm (IsI pw)
theorem tx0 : tx 0 = b0 := k_0
theorem times_tx {z : Int} (h0 : 0 ≤ z) (h1 : z ≤ 255) : timesT (tx z) = some z := by
  unfold timesT
  rw [num_tx (z := z) (by omega) (d := 1600) (by omega) (by omega)]
  show (if z < 0 then none else some z) = some z
  rw [if_neg (by omega)]
theorem times_all : ∀ {zs : List Int}, (∀ z ∈ zs, 0 ≤ z ∧ z ≤ 255) → allO timesT (zs.map tx) = some zs
  | [], _ => rfl
  | z :: zs, h => by
    have h1 := h z (by simp)
    have h2 := times_all (zs := zs) fun y hy => h y (by simp [hy])
    simp [allO, times_tx h1.1 h1.2, h2]
theorem sumO_tx {rs : List (List (ByteArray × Int) × Int)} {zs : List Int} (h : ∀ z ∈ zs, 0 ≤ z ∧ z ≤ 255) (hl : zs.length ≤ rs.length) : sumO rs (zs.map tx) = some (sumN rs zs) := by
  unfold sumO
  rw [if_neg (by simp; omega), times_all h]
  rfl
/-- The numbers ahead of the cut, and those behind it. -/
def cutL (ct : Nat) (ns : List Int) : List Int := (List.range ns.length).map fun j => if j < ct then ns.getD j 0 else 0
def cutR (ct : Nat) (ns : List Int) : List Int := (List.range ns.length).map fun j => if j < ct then 0 else ns.getD j 0
theorem cutL_at {ct i : Nat} {ns : List Int} {z : Int} (h : ns[i]? = some z) : (cutL ct ns)[i]? = some (if i < ct then z else 0) := by
  have hi := (List.getElem?_eq_some_iff.1 h).1
  unfold cutL
  rw [List.getElem?_map, List.getElem?_range hi]
  simp [List.getD_eq_getElem?_getD, h]
theorem cutR_at {ct i : Nat} {ns : List Int} {z : Int} (h : ns[i]? = some z) : (cutR ct ns)[i]? = some (if i < ct then 0 else z) := by
  have hi := (List.getElem?_eq_some_iff.1 h).1
  unfold cutR
  rw [List.getElem?_map, List.getElem?_range hi]
  simp [List.getD_eq_getElem?_getD, h]
theorem cutL_len (ct : Nat) (ns : List Int) : (cutL ct ns).length = ns.length := by simp [cutL]
theorem cutR_len (ct : Nat) (ns : List Int) : (cutR ct ns).length = ns.length := by simp [cutR]
theorem at_of {ns : List Int} {i : Nat} (h : i < ns.length) : ∃ z, ns[i]? = some z := ⟨_, List.getElem?_eq_getElem h⟩
theorem cutL_in {ct : Nat} {ns : List Int} (h : ∀ z ∈ ns, 0 ≤ z ∧ z ≤ 255) : ∀ z ∈ cutL ct ns, 0 ≤ z ∧ z ≤ 255 := fun z hz => by
  obtain ⟨i, hi⟩ := List.getElem?_of_mem hz
  have hl := (List.getElem?_eq_some_iff.1 hi).1
  rw [cutL_len] at hl
  obtain ⟨y, hy⟩ := at_of hl
  rw [cutL_at hy] at hi
  injection hi with hi
  have := h y (List.mem_of_getElem? hy)
  split at hi <;> omega
theorem cutR_in {ct : Nat} {ns : List Int} (h : ∀ z ∈ ns, 0 ≤ z ∧ z ≤ 255) : ∀ z ∈ cutR ct ns, 0 ≤ z ∧ z ≤ 255 := fun z hz => by
  obtain ⟨i, hi⟩ := List.getElem?_of_mem hz
  have hl := (List.getElem?_eq_some_iff.1 hi).1
  rw [cutR_len] at hl
  obtain ⟨y, hy⟩ := at_of hl
  rw [cutR_at hy] at hi
  injection hi with hi
  have := h y (List.mem_of_getElem? hy)
  split at hi <;> omega
theorem cut_sum (rs : List (List (ByteArray × Int) × Int)) (ct : Nat) (ns : List Int) : (∀ s, sumC rs ns s = sumC rs (cutL ct ns) s + sumC rs (cutR ct ns) s) ∧ sumK rs ns = sumK rs (cutL ct ns) + sumK rs (cutR ct ns) :=
  sum_parts rs ns _ _ (cutL_len ct ns) (cutR_len ct ns) fun i n m k hn hm hk => by
    rw [cutL_at hn] at hm
    rw [cutR_at hn] at hk
    injection hm with hm
    injection hk with hk
    split at hm <;> split at hk <;> omega
theorem nodup_len {α : Type} [DecidableEq α] : ∀ {l m : List α}, l.Nodup → (∀ x ∈ l, x ∈ m) → l.length ≤ m.length
  | [], _, _, _ => by simp
  | x :: l, m, h, hs => by
    have hx := hs x (by simp)
    have hl := nodup_len (l := l) (m := m.erase x) (List.nodup_cons.1 h).2 fun y hy => by
      have hne : y ≠ x := fun e => (List.nodup_cons.1 h).1 (e ▸ hy)
      exact (List.mem_erase_of_ne hne).2 (hs y (by simp [hy]))
    rw [List.length_erase_of_mem hx] at hl
    have : 0 < m.length := List.length_pos_of_mem hx
    simp
    omega
def namesOf (rs : List (List (ByteArray × Int) × Int)) : List (List UInt8) := rs.flatMap fun r => r.1.map fun p => p.1.data.toList
theorem cf_zero : ∀ {ps : List (ByteArray × Int)} {s : ByteArray}, s.data.toList ∉ (ps.map fun p => p.1.data.toList) → cf ps s = 0
  | [], _, _ => rfl
  | p :: ps, s, h => by
    rw [List.map_cons, List.mem_cons, not_or] at h
    rw [cf_cons, if_neg (fun e => h.1 (by rw [e])), cf_zero h.2]
    rfl
theorem sumC_zero : ∀ {rs : List (List (ByteArray × Int) × Int)} {zs : List Int} {s : ByteArray}, s.data.toList ∉ namesOf rs → sumC rs zs s = 0
  | [], _, _, _ => by simp [sumC]
  | r :: rs, [], _, _ => by simp [sumC]
  | r :: rs, z :: zs, s, h => by
    unfold namesOf at h
    rw [List.flatMap_cons, List.mem_append, not_or] at h
    have := sumC_zero (rs := rs) (zs := zs) h.2
    unfold sumC at this ⊢
    simp only [List.zip_cons_cons, List.map_cons, List.sum_cons]
    rw [this, cf_zero h.1]
    simp
theorem names_len {ls : List (List (ByteArray × ByteArray) × ByteArray)} : ∀ {rs : List (List (ByteArray × Int) × Int)}, readL ls = some rs → (namesOf rs).length ≤ lwt ls := by
  induction ls with
  | nil => intro rs h; simp [readL, allO] at h; subst h; simp [namesOf]
  | cons l ls ih =>
    intro rs h
    simp only [readL, allO] at h
    cases hr : readR l.1 l.2 with
    | none => rw [hr] at h; cases h
    | some r =>
      cases hl : allO (fun x => readR x.1 x.2) ls with
      | none => rw [hr, hl] at h; cases h
      | some qs =>
        rw [hr, hl] at h
        simp at h
        subst h
        have h1 := ih hl
        have h2 := (readR_mem hr).1
        have e : lwt (l :: ls) = 1 + l.1.length + lwt ls := by simp [lwt]
        unfold namesOf at h1 ⊢
        rw [List.flatMap_cons, List.length_append, List.length_map]
        omega
theorem keys_len {rs : List (List (ByteArray × Int) × Int)} {zs : List Int} {ss : List (List UInt8)} {m : Nat} (h : Keys (sumN rs zs).1 ss) (hm : (namesOf rs).length ≤ m) : (coefsOf (sumN rs zs).1 ss).length ≤ m := by
  have e : (coefsOf (sumN rs zs).1 ss).length = ss.length := by simp [coefsOf]
  rw [e]
  refine Nat.le_trans (nodup_len h.1 fun x hx => ?_) hm
  have h2 := ((h.2 x).1 hx).2
  rw [sumN_C] at h2
  apply Classical.byContradiction
  intro hn
  refine h2 (sumC_zero ?_)
  have : (bytesOf x).data.toList = x := by simp [bytesOf]
  rw [this]
  exact hn
/-- The sum of the two parts, told and read again, is the whole. -/
theorem mix_same {rs : List (List (ByteArray × Int) × Int)} {ns : List Int} {ct : Nat} {ss s1 s2 : List (List UInt8)} {r1 r2 : List (ByteArray × Int) × Int} (h : Keys (sumN rs ns).1 ss) (h1 : Keys (sumN rs (cutL ct ns)).1 s1) (h2 : Keys (sumN rs (cutR ct ns)).1 s2)
    (hr1 : readR (coefsOf (sumN rs (cutL ct ns)).1 s1) (tx (sumN rs (cutL ct ns)).2) = some r1) (hr2 : readR (coefsOf (sumN rs (cutR ct ns)).1 s2) (tx (sumN rs (cutR ct ns)).2) = some r2) {st : List (List UInt8)} (ht : Keys (sumN [r1, r2] [1, 1]).1 st) :
    coefsOf (sumN [r1, r2] [1, 1]).1 st = coefsOf (sumN rs ns).1 ss ∧ (sumN [r1, r2] [1, 1]).2 = (sumN rs ns).2 := by
  obtain ⟨e1, f1⟩ := readR_told h1 hr1
  obtain ⟨e2, f2⟩ := readR_told h2 hr2
  obtain ⟨c1, c2⟩ := cut_sum rs ct ns
  refine ⟨told_same ht h fun s hs => ?_, ?_⟩
  · have g1 := f1 s hs
    have g2 := f2 s hs
    rw [sumN_C] at g1 g2
    rw [sumN_C, sumN_C, c1 s, ← g1, ← g2]
    simp [sumC]
  · rw [sumN_K] at e1 e2
    rw [sumN_K, sumN_K, c2, ← e1, ← e2]
    simp [sumK]
theorem sum11_any {r1 r2 : List (ByteArray × Int) × Int} {a b : List (ByteArray × ByteArray) × ByteArray} (h1 : readR a.1 a.2 = some r1) (h2 : readR b.1 b.2 = some r2) : sumAll [a, b] [b1, b1] = some (sumN [r1, r2] [1, 1]) := by
  simp [sumAll, readL, allO, h1, h2, sumO, t1]
theorem sumAll_tx {ls : List (List (ByteArray × ByteArray) × ByteArray)} {rs : List (List (ByteArray × Int) × Int)} {zs : List Int} (hr : readL ls = some rs) (h : ∀ z ∈ zs, 0 ≤ z ∧ z ≤ 255) (hl : zs.length ≤ rs.length) : sumAll ls (zs.map tx) = some (sumN rs zs) := by
  unfold sumAll
  rw [hr]
  exact sumO_tx h hl
end Go.Proofs.YtnkigifcilgmbaaGreatDoor

/- Arguments of type []api.Lin, []string, []uint8, as the rows read them. -/
namespace Go.Proofs.YtnkigifcilgmbaaGreatDoor
open Go Go.ChangeShapes Go.WideShapes Go.ChangeAt Go.RowKit
section
variable {H : Type} {enc : TypeId × Value → H} {P : Program} {W : World} {base : Nat} {sp : Nat → Bool} {held : Bool}
theorem trod_s {n : Nat} {t : TypeId} {c : Value} {x : DataW H × List MemPlace} (ht : P.underlying t = some .string) (h : DataW.trod enc P W base sp held n t [c] = some x) : ∃ s, c = .string s ∧ s.size ≤ maxLen := by
  cases n with
  | zero => simp [DataW.trod] at h
  | succ n =>
    unfold DataW.trod at h
    rw [ht] at h
    cases c <;> simp at h
    exact ⟨_, rfl, h.1⟩
theorem cells_at {a : Addr} {n : Nat} {l : List Value} (h : W.cells? base a n = some l) : l.length = n ∧ ∀ (i : Nat) v, l[i]? = some v → W.cell? (a.add i) = some v := by
  unfold World.cells? at h
  split at h
  · refine ⟨by simpa using mapM_some_length h, fun i v hv => ?_⟩
    have hl : l.length = n := by simpa using mapM_some_length h
    have hi : i < n := by have := (List.getElem?_eq_some_iff.1 hv).1; omega
    have := mapM_some_get h i i (by simp [hi])
    rw [this, hv]
  · cases h
theorem all_of {e : TypeId} {d : DataW H} {n : Nat} : ∀ {l : List (DataW H)}, d ∈ l → n ∈ d.weights P e → n ∈ DataW.weightsAll P e l
  | x :: l, h, hn => by
    simp only [DataW.weightsAll, List.mem_append]
    rcases List.mem_cons.1 h with rfl | h
    · exact .inl hn
    · exact .inr (all_of h hn)
theorem each_of {t : TypeId} {d : DataW H} {n : Nat} : ∀ {ts : List TypeId} {l : List (DataW H)} {i : Nat}, ts[i]? = some t → l[i]? = some d → n ∈ d.weights P t → n ∈ DataW.weightsEach P ts l
  | [], _, _, h, _, _ => by simp at h
  | _ :: _, [], _, _, h, _ => by simp at h
  | t' :: ts, d' :: l, 0, h1, h2, hn => by
    simp at h1 h2
    subst h1 h2
    simp only [DataW.weightsEach, List.mem_append]
    exact .inl hn
  | t' :: ts, d' :: l, i + 1, h1, h2, hn => by
    simp only [DataW.weightsEach, List.mem_append]
    exact .inr (each_of (i := i) (by simpa using h1) (by simpa using h2) hn)
theorem addr_add (b off j : Nat) : (⟨b, off, none⟩ : Addr).add j = ⟨b, off + j, none⟩ := by simp [Addr.add]
/-- A slice, each of whose elements lies in so many cells. -/
theorem row_of {e t : TypeId} {n k : Nat} {c : Value} {x : DataW H × List MemPlace} (ht : P.underlying t = some (.slice e)) (hk : P.cellsOf e = k) (hk0 : 0 < k) (hby : 0 < P.bytesOf e) (h : DataW.trod enc P W base sp held n t [c] = some x) (hz : ∀ m ∈ x.1.weights P t, m ≤ reachBytes)
    {q : List Value → Nat → Prop} (hp : ∀ (m j : Nat) (l : List Value) (y : DataW H × List MemPlace), m < n → DataW.trod enc P W base sp held m e l = some y → l.length = k → (∀ m ∈ y.1.weights P e, m ≤ reachBytes) → q l j) :
    ∃ a len cap, c = .slice a len cap ∧ len ≤ cap ∧ len ≤ 281474976710656 ∧ (len ≠ 0 → ∃ b off, a = some ⟨b, off, none⟩ ∧ b < W.heap.size ∧ ∀ j, j < len → ∃ l, l.length = k ∧ W.rangeAt b (off + j * k) l ∧ q l j) := by
  rcases DataW.trod_slice ht h with ⟨hcs, _⟩ | ⟨a, len, cap, elems, rest, m, hm, hcs, hx, _, hl, hcap, hlen, hel, _⟩
  · injection hcs with hcs
    exact ⟨none, 0, 0, hcs, Nat.le_refl _, by omega, fun h => absurd rfl h⟩
  · injection hcs with hcs
    rw [hx] at hz
    have hz1 := hz _ (by simp only [DataW.weights, ht]; exact List.mem_cons_self ..)
    have hlz : len ≤ 281474976710656 := by
      simp only [List.length_map, reachBytes] at hz1
      have : len * 1 ≤ (elems.length + rest.length) * P.bytesOf e := Nat.mul_le_mul (by omega) hby
      omega
    refine ⟨some a, len, cap, hcs, hl, hlz, fun h0 => ?_⟩
    have hE : ∀ i, i < len → ∃ l y, DataW.trod enc P W base sp held m e l = some y ∧ l.length = k ∧ (∀ (j : Nat) v, l[j]? = some v → W.cell? ((a.add (i * k)).add j) = some v) ∧ ∀ m ∈ y.1.weights P e, m ≤ reachBytes := fun i hi => by
      have h1 := hel i hi
      rw [hk, List.getElem?_eq_getElem (show i < elems.length by omega)] at h1
      obtain ⟨l, hl1, hl2⟩ := Option.bind_eq_some_iff.1 h1
      obtain ⟨h3, h4⟩ := cells_at hl1
      refine ⟨l, _, hl2, h3, h4, fun m hm => hz m ?_⟩
      simp only [DataW.weights, ht, List.mem_cons, List.mem_append]
      exact .inr (.inl (all_of (List.mem_map.2 ⟨_, List.getElem_mem _, rfl⟩) hm))
    obtain ⟨b, off, spot⟩ := a
    have hs : spot = none ∧ b < W.heap.size := by
      obtain ⟨l, y, _, h3, h4, _⟩ := hE 0 (by omega)
      have h5 := h4 0 _ (List.getElem?_eq_getElem (by omega))
      refine ⟨by simpa [Addr.add] using World.cell?_spot h5, ?_⟩
      have := World.block_lt_of_cell? _ _ h5
      simpa [Addr.add] using this
    obtain ⟨rfl, hb⟩ := hs
    refine ⟨b, off, rfl, hb, fun j hj => ?_⟩
    obtain ⟨l, y, h2, h3, h4, h5⟩ := hE j hj
    refine ⟨l, h3, fun i v hv => ?_, hp m j l y (by omega) h2 h3 h5⟩
    have := h4 i v hv
    rw [addr_add, addr_add] at this
    exact this
end
theorem pick_list {α : Type} (x0 : α) {len : Nat} {p : Nat → α → Prop} (h : ∀ j, j < len → ∃ u, p j u) : ∃ ls : List α, ls.length = len ∧ ∀ (j : Nat) u, ls[j]? = some u → p j u := by
  refine ⟨(List.range len).map fun j => if hj : j < len then Classical.choose (h j hj) else x0, by simp, fun j u hu => ?_⟩
  have hj : j < len := by have := (List.getElem?_eq_some_iff.1 hu).1; simpa using this
  rw [List.getElem?_map, List.getElem?_range hj, Option.map_some, dif_pos hj] at hu
  injection hu with hu
  rw [← hu]
  exact Classical.choose_spec (h j hj)
theorem cells_co : Tryz.prog.cellsOf 48 = 2 := by kernel_rfl
theorem cells_lin : Tryz.prog.cellsOf 28 = 2 := by kernel_rfl
theorem cells_lc : Tryz.prog.cellsOf 26 = 1 := by kernel_rfl
theorem cells_s : Tryz.prog.cellsOf 9 = 1 := by kernel_rfl
theorem bytes_co : 0 < Tryz.prog.bytesOf 48 := by
  have : Tryz.prog.bytesOf 48 = 32 := by kernel_rfl
  omega
theorem bytes_lin : 0 < Tryz.prog.bytesOf 28 := by
  have : Tryz.prog.bytesOf 28 = 40 := by kernel_rfl
  omega
theorem len1 : ∀ {l : List Value}, l.length = 1 → ∃ c0, l = [c0]
  | [c0], _ => ⟨c0, rfl⟩
theorem len2 : ∀ {l : List Value}, l.length = 2 → ∃ c0 c1, l = [c0, c1]
  | [c0, c1], _ => ⟨c0, c1, rfl⟩
section
variable {H : Type} {enc : TypeId × Value → H} {W : World} {base : Nat} {sp : Nat → Bool} {held : Bool}
set_option maxRecDepth 100000 in
theorem open_coef {n : Nat} {l : List Value} {x : DataW H × List MemPlace} (h : DataW.trod enc Tryz.prog W base sp held n 48 l = some x) (hl : l.length = 2) : ∃ c : ByteArray × ByteArray, l = [.string c.1, .string c.2] := by
  obtain ⟨xs, m, rfl, _, _, hxs, hf⟩ := DataW.trod_struct Tryz.underlying48 h
  obtain ⟨c0, c1, rfl⟩ := len2 hl
  have hs : xs.length = 2 := hxs
  have h0 : DataW.trod enc Tryz.prog W base sp held m 9 (List.take (Tryz.prog.cellsOf 9) (List.drop 0 [c0, c1])) = xs[0]? := hf 0 _ rfl
  have h1 : DataW.trod enc Tryz.prog W base sp held m 9 (List.take (Tryz.prog.cellsOf 9) (List.drop 1 [c0, c1])) = xs[1]? := hf 1 _ rfl
  rw [cells_s] at h0 h1
  rw [List.getElem?_eq_getElem (by omega)] at h0 h1
  obtain ⟨s, rfl, _⟩ := trod_s Tryz.underlying9 h0
  obtain ⟨t, rfl, _⟩ := trod_s Tryz.underlying9 h1
  exact ⟨(s, t), rfl⟩
theorem open_coefs {n : Nat} {c : Value} {x : DataW H × List MemPlace} (h : DataW.trod enc Tryz.prog W base sp held n 26 [c] = some x) (hz : ∀ m ∈ x.1.weights Tryz.prog 26, m ≤ reachBytes) : ∃ a cap, ∃ C : List (ByteArray × ByteArray), c = .slice a C.length cap ∧ Row W.heap.size a C.length cap 2 (CA W C) := by
  obtain ⟨a, len, cap, rfl, hl, hz2, hr⟩ := row_of (k := 2) (q := fun l _ => ∃ c : ByteArray × ByteArray, l = [.string c.1, .string c.2]) Tryz.underlying26 cells_co (by omega) bytes_co h hz fun m j l y _ hy hl1 _ => open_coef hy hl1
  by_cases h0 : len = 0
  · subst h0
    exact ⟨a, cap, [], rfl, hl, by simp, fun h => absurd rfl h⟩
  · obtain ⟨b, off, rfl, hb, hj⟩ := hr h0
    obtain ⟨C, hC, hp⟩ := pick_list (p := fun j (c : ByteArray × ByteArray) => W.rangeAt b (off + j * 2) [.string c.1, .string c.2]) (.empty, .empty) (len := len) fun j hjl => by
      obtain ⟨l, _, hra, c, rfl⟩ := hj j hjl
      exact ⟨c, hra⟩
    subst hC
    exact ⟨_, cap, C, rfl, hl, hz2, fun _ => ⟨b, off, rfl, hb, fun j _ c hc => hp j c hc⟩⟩
set_option maxRecDepth 100000 in
theorem open_lin {n : Nat} {l : List Value} {x : DataW H × List MemPlace} (h : DataW.trod enc Tryz.prog W base sp held n 28 l = some x) (hl : l.length = 2) (hz : ∀ m ∈ x.1.weights Tryz.prog 28, m ≤ reachBytes) : ∃ L : List (ByteArray × ByteArray) × ByteArray, ∃ u v, l = [u, v] ∧ IsL W W.heap.size (.agg #[u, v]) L.1 L.2 := by
  obtain ⟨xs, m, rfl, hx, _, hxs, hf⟩ := DataW.trod_struct Tryz.underlying28 h
  obtain ⟨c0, c1, rfl⟩ := len2 hl
  have hs : xs.length = 2 := hxs
  have h0 : DataW.trod enc Tryz.prog W base sp held m 26 (List.take (Tryz.prog.cellsOf 26) (List.drop 0 [c0, c1])) = xs[0]? := hf 0 _ rfl
  have h1 : DataW.trod enc Tryz.prog W base sp held m 9 (List.take (Tryz.prog.cellsOf 9) (List.drop 1 [c0, c1])) = xs[1]? := hf 1 _ rfl
  rw [cells_lc] at h0
  rw [cells_s] at h1
  rw [List.getElem?_eq_getElem (by omega)] at h0 h1
  obtain ⟨s, rfl, _⟩ := trod_s Tryz.underlying9 h1
  obtain ⟨a, cap, C, rfl, hA⟩ := open_coefs h0 fun k hk => by
    refine hz k ?_
    rw [hx]
    simp only [DataW.weights, Tryz.underlying28]
    exact each_of (t := 26) (i := 0) rfl (by rw [List.getElem?_map, List.getElem?_eq_getElem (by omega)]; rfl) hk
  exact ⟨(C, s), _, _, rfl, a, _, cap, rfl, rfl, hA⟩
theorem open_lins {n : Nat} {c : Value} {x : DataW H × List MemPlace} (h : DataW.trod enc Tryz.prog W base sp held n 22 [c] = some x) (hz : ∀ m ∈ x.1.weights Tryz.prog 22, m ≤ reachBytes) : ∃ a cap, ∃ ls : List (List (ByteArray × ByteArray) × ByteArray), c = .slice a ls.length cap ∧ Row W.heap.size a ls.length cap 2 (LAt W W.heap.size ls) := by
  obtain ⟨a, len, cap, rfl, hl, hz2, hr⟩ := row_of (k := 2) (q := fun l _ => ∃ L : List (ByteArray × ByteArray) × ByteArray, ∃ u v, l = [u, v] ∧ IsL W W.heap.size (.agg #[u, v]) L.1 L.2) Tryz.underlying22 cells_lin (by omega) bytes_lin h hz fun m j l y _ hy hl1 hzz => open_lin hy hl1 hzz
  by_cases h0 : len = 0
  · subst h0
    exact ⟨a, cap, [], rfl, hl, by simp, fun h => absurd rfl h⟩
  · obtain ⟨b, off, rfl, hb, hj⟩ := hr h0
    obtain ⟨ls, hls, hp⟩ := pick_list (p := fun j (L : List (ByteArray × ByteArray) × ByteArray) => ∃ u v, W.rangeAt b (off + j * 2) [u, v] ∧ IsL W W.heap.size (.agg #[u, v]) L.1 L.2) ([], .empty) (len := len) fun j hjl => by
      obtain ⟨l, _, hra, L, u, v, rfl, hL⟩ := hj j hjl
      exact ⟨L, u, v, hra, hL⟩
    subst hls
    exact ⟨_, cap, ls, rfl, hl, hz2, fun _ => ⟨b, off, rfl, hb, fun j _ L hL => hp j L hL⟩⟩
end
end Go.Proofs.YtnkigifcilgmbaaGreatDoor

/- The walk of FarkasDigits. -/
namespace Go.Proofs.YtnkigifcilgmbaaGreatDoor
open Go Go.RowKit Go.Maps
open _root_.Go.Proofs.YtnkigifcilgmbaaGreatDoor.Nm (IsI pw)
/-- A place among n, of any number. -/
def plc (k n : Int) : Int := if Int.tmod k n < 0 then Int.tmod k n + n else Int.tmod k n
theorem tmod_lt {k n : Int} (hn : 0 < n) : -n < Int.tmod k n ∧ Int.tmod k n < n := by
  have h1 := Int.tmod_lt_of_pos k hn
  have h2 : Int.tmod (-k) n < n := Int.tmod_lt_of_pos (-k) hn
  rw [Int.neg_tmod] at h2
  omega
theorem plc_in (k : Int) {n : Int} (hn : 0 < n) : 0 ≤ plc k n ∧ plc k n < n := by
  have h := tmod_lt (k := k) hn
  unfold plc
  split <;> omega
set_option maxRecDepth 100000 in
set_option maxHeartbeats 4000000 in
theorem place_any (k n : Int) (w : World) (hn : 0 < n) (hn2 : n ≤ 1000000000) : Calls Tryz.prog 22 #[.int .i64 k, .int .i64 n] w fun e w' => e = .returned (.int .i64 (plc k n)) ∧ w' = w := by
  have hr := tmod_lt (k := k) hn
  have n0 : ¬ n = 0 := by omega
  have n1 : (n == 0) = false := by simpa using n0
  have e1 : IntKind.i64.wrap (Int.tmod k n) = Int.tmod k n := by rw [IntKind.wrap_i64]; omega
  by_cases h : Int.tmod k n < 0
  · have hp : Hid (plc k n = Int.tmod k n + n) := if_pos h
    have e2 : IntKind.i64.wrap (Int.tmod k n + n) = Int.tmod k n + n := by rw [IntKind.wrap_i64]; omega
    rw [unhide hp]
    go_enter Tryz.func22, Tryz.ntmps22
    go_wp2
    go_ret
    exact ⟨rfl, rfl⟩
  · have hp : Hid (plc k n = Int.tmod k n) := if_neg h
    have hd : decide (Int.tmod k n < 0) = false := by simp; omega
    rw [unhide hp]
    go_enter Tryz.func22, Tryz.ntmps22
    go_wp2
    go_ret
    exact ⟨rfl, rfl⟩

def fillL (n i : Nat) (d : UInt8) : List UInt8 := List.replicate i d ++ List.replicate (n - i) 0
def FY (V : World) (g n i : Nat) (d : UInt8) : Prop := V.heap[g]? = some (.cells (Lib.byteCells (fillL n i d)).toArray 5)
theorem bc_len (l : List UInt8) : (Lib.byteCells l).length = l.length := by simp [Lib.byteCells]
theorem fill_len {n i : Nat} (d : UInt8) (h : i ≤ n) : (fillL n i d).length = n := by simp [fillL]; omega
theorem fill_step {n i : Nat} (d : UInt8) (h : i < n) : (fillL n i d).set i d = fillL n (i + 1) d := by
  unfold fillL
  obtain ⟨k, hk⟩ : ∃ k, n - i = k + 1 := ⟨n - i - 1, by omega⟩
  rw [hk, show n - (i + 1) = k by omega, List.replicate_succ, List.set_append_right _ _ (by simp)]
  simp [List.replicate_succ', List.append_assoc]
theorem FY.put {V : World} {g n i : Nat} {d : UInt8} (h : FY V g n i d) (hi : i < n) : FY (V.setCell ⟨g, i, none⟩ (.int .u8 d.toNat)) g n (i + 1) d := by
  unfold FY at h ⊢
  rw [set_block h, ← fill_step d hi]
  congr 2
  simp [Lib.byteCells, List.map_set]
theorem FY.cell {V : World} {g n i : Nat} {d : UInt8} (h : FY V g n i d) (hi : i < n) : ∃ u, V.cell? ⟨g, i, none⟩ = some u ∧ V.frozen? ⟨g, i, none⟩ = false := by
  have hl : i < (Lib.byteCells (fillL n i d)).toArray.size := by
    simp only [List.size_toArray, bc_len]
    rw [fill_len d (by omega)]
    exact hi
  exact ⟨_, (blk h).2.1 i _ (Array.getElem?_eq_getElem hl), (blk h).2.2 i⟩
end Go.Proofs.YtnkigifcilgmbaaGreatDoor

namespace Go.Proofs.YtnkigifcilgmbaaGreatDoor
open Go Go.RowKit Go.Maps
open _root_.Go.Proofs.YtnkigifcilgmbaaGreatDoor.Nm (IsI pw)
theorem infStr : (Tryz.prog.info? 9).map (fun i => (i.zero, i.size, i.bytes)) = some (some (.string ⟨#[]⟩), 1, 16) := by kernel_rfl
theorem app_str {w : World} {S0 n : Nat} {v : Value} {xs : List Value} (ho : w.ownsRow S0 9 1 v n xs) (hS : S0 ≤ w.heap.size) (hn : n ≤ 1000000) (s : ByteArray) (ty : TypeId) : ∃ v' w', (Builtin.append_ #[23, 23] ty #[v, .slice (some ⟨w.heap.size, 0, none⟩) 1 1]).run Tryz.prog (w.alloc (.cells #[.string s] 9)) = .ok v' w' ∧ w'.ownsRow S0 9 1 v' (n + 1) (xs ++ [.string s]) ∧ Below S0 w w' ∧ (∀ k, k < w.heap.size → v.ownBlock ≠ some k → w'.heap[k]? = w.heap[k]?) ∧ (∀ g, v'.ownBlock = some g → v.ownBlock = some g ∨ w.heap.size ≤ g) ∧ w.heap.size ≤ w'.heap.size := by
  obtain ⟨A, eA, hbA, hsA, hcA, hhA⟩ := box_new w #[.string s] 9
  rw [eA]
  obtain ⟨i, hi, hz, h1, h2⟩ := inf_of infStr
  have hoA : A.ownsRow S0 9 1 v n xs := own_sameK ho fun g hg => hbA.block g (ho.lt g hg).2
  obtain ⟨v', w', hr, ho', hgr, _, hfr⟩ := run_append_own_at (P := Tryz.prog) A S0 23 ty 9 i _ 1 16 Tryz.underlying23 hi hz h1 h2 rfl (by omega) v n xs hoA ⟨w.heap.size, 0, none⟩ 1 1 [.string s] rfl (fun j u hu => by rw [Addr.add_lit, Nat.zero_add]; exact (blk hhA).2.1 j u (by simpa using hu)) (by simp [Value.oneCell']) (by unfold maxLen; omega) (by omega) (by omega)
  have hbel : Below S0 A w' := below_appK (Below.refl _ A) hgr hoA (by omega)
  refine ⟨v', w', hr, ho', (hbA.mono hS).trans hbel, fun k hk hne => (hgr.block k (by omega) (fun e => hne e.symm)).trans (hbA.block k hk), fun g hg => ?_, by have := hbel.size; omega⟩
  rcases hfr with hf | hf
  · exact .inl (by rw [← hf]; exact hg)
  · rw [hg] at hf
    have := Option.some.inj hf
    exact .inr (by omega)
/-- Three lists of texts, each in memory of its own. -/
structure S3 (S0 : Nat) (V : World) (i : Nat) (v1 v2 v3 : Value) (l1 l2 l3 : List ByteArray) : Prop where
  o1 : V.ownsRow S0 9 1 v1 i (l1.map Value.string)
  o2 : V.ownsRow S0 9 1 v2 i (l2.map Value.string)
  o3 : V.ownsRow S0 9 1 v3 i (l3.map Value.string)
  d12 : ∀ g, v1.ownBlock = some g → v2.ownBlock ≠ some g
  d13 : ∀ g, v1.ownBlock = some g → v3.ownBlock ≠ some g
  d23 : ∀ g, v2.ownBlock = some g → v3.ownBlock ≠ some g
theorem S3.below {S0 : Nat} {V V' : World} {i : Nat} {v1 v2 v3 : Value} {l1 l2 l3 : List ByteArray} (h : S3 S0 V i v1 v2 v3 l1 l2 l3) (hb : Below V.heap.size V V') : S3 S0 V' i v1 v2 v3 l1 l2 l3 :=
  ⟨own_sameK h.o1 fun g hg => hb.block g (h.o1.lt g hg).2, own_sameK h.o2 fun g hg => hb.block g (h.o2.lt g hg).2, own_sameK h.o3 fun g hg => hb.block g (h.o3.lt g hg).2, h.d12, h.d13, h.d23⟩
theorem S3.step {S0 : Nat} {V : World} {i : Nat} {v1 v2 v3 : Value} {l1 l2 l3 : List ByteArray} (h : S3 S0 V i v1 v2 v3 l1 l2 l3) (hS : S0 ≤ V.heap.size) (hi : i ≤ 1000000) (a b c : ByteArray) (ty : TypeId) : ∃ u1 w1 u2 w2 u3 w3,
    (Builtin.append_ #[23, 23] ty #[v1, .slice (some ⟨V.heap.size, 0, none⟩) 1 1]).run Tryz.prog (V.alloc (.cells #[.string a] 9)) = .ok u1 w1 ∧ (Builtin.append_ #[23, 23] ty #[v2, .slice (some ⟨w1.heap.size, 0, none⟩) 1 1]).run Tryz.prog (w1.alloc (.cells #[.string b] 9)) = .ok u2 w2 ∧
    (Builtin.append_ #[23, 23] ty #[v3, .slice (some ⟨w2.heap.size, 0, none⟩) 1 1]).run Tryz.prog (w2.alloc (.cells #[.string c] 9)) = .ok u3 w3 ∧ S3 S0 w3 (i + 1) u1 u2 u3 (l1 ++ [a]) (l2 ++ [b]) (l3 ++ [c]) ∧ Below S0 V w3 := by
  obtain ⟨u1, w1, r1, p1, b1, k1, q1, z1⟩ := app_str h.o1 hS hi a ty
  have p12 : w1.ownsRow S0 9 1 v2 i (l2.map Value.string) := own_sameK h.o2 fun g hg => k1 g (h.o2.lt g hg).2 fun e => h.d12 g e hg
  have p13 : w1.ownsRow S0 9 1 v3 i (l3.map Value.string) := own_sameK h.o3 fun g hg => k1 g (h.o3.lt g hg).2 fun e => h.d13 g e hg
  obtain ⟨u2, w2, r2, p2, b2, k2, q2, z2⟩ := app_str p12 (by omega) hi b ty
  have f21 : ∀ g, u1.ownBlock = some g → v2.ownBlock ≠ some g := fun g hg e => by
    rcases q1 g hg with h1 | h1
    · exact h.d12 g h1 e
    · have := (h.o2.lt g e).2; omega
  have f31 : ∀ g, u1.ownBlock = some g → v3.ownBlock ≠ some g := fun g hg e => by
    rcases q1 g hg with h1 | h1
    · exact h.d13 g h1 e
    · have := (h.o3.lt g e).2; omega
  have p21 : w2.ownsRow S0 9 1 u1 (i + 1) (l1.map Value.string ++ [.string a]) := own_sameK p1 fun g hg => k2 g (p1.lt g hg).2 fun e => f21 g hg e
  have p23 : w2.ownsRow S0 9 1 v3 i (l3.map Value.string) := own_sameK p13 fun g hg => k2 g (p13.lt g hg).2 fun e => h.d23 g e hg
  obtain ⟨u3, w3, r3, p3, b3, k3, q3, z3⟩ := app_str p23 (by omega) hi c ty
  have f32 : ∀ g, u2.ownBlock = some g → v3.ownBlock ≠ some g := fun g hg e => by
    rcases q2 g hg with h1 | h1
    · exact h.d23 g h1 e
    · have := (p13.lt g e).2; omega
  have m1 : ∀ (l : List ByteArray) (x : ByteArray), (l ++ [x]).map Value.string = l.map Value.string ++ [.string x] := fun l x => by simp
  refine ⟨u1, w1, u2, w2, u3, w3, r1, r2, r3, ⟨?_, ?_, ?_, ?_, ?_, ?_⟩, b1.trans (b2.trans b3)⟩
  · rw [m1]
    exact own_sameK p21 fun g hg => k3 g (p21.lt g hg).2 fun e => f31 g hg e
  · rw [m1]
    exact own_sameK p2 fun g hg => k3 g (p2.lt g hg).2 fun e => f32 g hg e
  · rw [m1]
    exact p3
  · intro g hg e
    rcases q2 g e with h1 | h1
    · exact f21 g hg h1
    · have := (p1.lt g hg).2; omega
  · intro g hg e
    rcases q3 g e with h1 | h1
    · exact f31 g hg h1
    · have := (p21.lt g hg).2; omega
  · intro g hg e
    rcases q3 g e with h1 | h1
    · exact f32 g hg h1
    · have := (p2.lt g hg).2; omega
/-- A list of texts of one's own, as Sum takes it. -/
theorem own_row {w : World} {S0 n : Nat} {v : Value} {l : List ByteArray} (h : w.ownsRow S0 9 1 v n (l.map Value.string)) (hn : n ≤ 1000000) : ∃ a c, v = .slice a n c ∧ n = l.length ∧ Row w.heap.size a n c 1 (BA w l) := by
  obtain ⟨a, c, rfl, hc, hx⟩ := own_cells h
  have hl : n = l.length := by have := h.1; simpa using this.symm
  refine ⟨a, c, rfl, hl, hc, by omega, fun h0 => ?_⟩
  obtain ⟨g, rfl, _, hg, hcell⟩ := hx h0
  refine ⟨g, 0, rfl, hg, fun j hj s hs => ?_⟩
  rw [Nat.zero_add, Nat.mul_one]
  exact hcell j _ (by rw [List.getElem?_map, hs]; rfl)
theorem own_nil (w : World) (S0 : Nat) : w.ownsRow S0 9 1 (.slice none 0 0) 0 (([] : List ByteArray).map Value.string) := World.ownsRow_nil w S0 9 1
/-- An append whose run is known, at the list of a plain region's operations. -/
theorem app_run {ops : Array Oper} {rest : List Oper} {o : Oper} {a : Act} {Q : Exit → Act → World → Prop} {w w' : World} {v u v' : Value} (s x : Operand) (t : TypeId) (ho : o.op = .call { callee := .builtin .append, args := #[s, x], argTypes := #[t, t] }) (hs : a.eval s = v) (hx : a.eval x = u) (hw : Region.wanted o (yielded ops a.tmps) = true) (hr : (Builtin.append_ #[t, t] o.type #[v, u]).run Tryz.prog w = .ok v' w') (h : wpList Tryz.prog ops Q rest (a.put o.dst v') w') : wpList Tryz.prog ops Q (o :: rest) a w := by
  unfold wpList
  rw [if_pos hw]
  left
  unfold Oper.wp execOp
  simp only [ho, resolve, invoke, builtin, Sem.run_bind, Sem.run_pure, Result.andThen_ok, List.map_toArray, List.map_cons, List.map_nil, hs, hx, hr]
  exact h
def UA (w : World) (ns : List Int) (b o j : Nat) : Prop := ∀ z, ns[j]? = some z → w.cell? ⟨b, o, none⟩ = some (.int .u8 z)
theorem cells_u8 : Tryz.prog.cellsOf 5 = 1 := by kernel_rfl
theorem bytes_u8 : 0 < Tryz.prog.bytesOf 5 := by
  have : Tryz.prog.bytesOf 5 = 1 := by kernel_rfl
  omega
section
open Go.ChangeShapes Go.WideShapes Go.ChangeAt
variable {H : Type} {enc : TypeId × Value → H} {W : World} {base : Nat} {sp : Nat → Bool} {held : Bool}
theorem trod_u8 {P : Program} {n : Nat} {t : TypeId} {c : Value} {x : DataW H × List MemPlace} (ht : P.underlying t = some (.int .u8)) (h : DataW.trod enc P W base sp held n t [c] = some x) : ∃ z, c = .int .u8 z ∧ 0 ≤ z ∧ z ≤ 255 := by
  cases n with
  | zero => simp [DataW.trod] at h
  | succ n =>
    unfold DataW.trod at h
    rw [ht] at h
    cases c <;> simp at h
    obtain ⟨⟨rfl, h2⟩, _⟩ := h
    refine ⟨_, rfl, ?_⟩
    simp only [Lit.wf, Bool.and_eq_true, decide_eq_true_eq] at h2
    have h3 : IntKind.u8.min = 0 := by kernel_rfl
    have h4 : IntKind.u8.max = 255 := by kernel_rfl
    omega
theorem open_u8s {n : Nat} {c : Value} {x : DataW H × List MemPlace} (h : DataW.trod enc Tryz.prog W base sp held n 54 [c] = some x) (hz : ∀ m ∈ x.1.weights Tryz.prog 54, m ≤ reachBytes) : ∃ a cap, ∃ ns : List Int, c = .slice a ns.length cap ∧ Row W.heap.size a ns.length cap 1 (UA W ns) ∧ ∀ z ∈ ns, 0 ≤ z ∧ z ≤ 255 := by
  obtain ⟨a, len, cap, rfl, hl, hz2, hr⟩ := row_of (k := 1) (q := fun l _ => ∃ z, l = [.int .u8 z] ∧ 0 ≤ z ∧ z ≤ 255) Tryz.underlying54 cells_u8 (by omega) bytes_u8 h hz fun m j l y _ hy hl1 _ => by
    obtain ⟨c0, rfl⟩ := len1 hl1
    obtain ⟨z, rfl, hz⟩ := trod_u8 Tryz.underlying5 hy
    exact ⟨z, rfl, hz⟩
  by_cases h0 : len = 0
  · subst h0
    exact ⟨a, cap, [], rfl, ⟨hl, by simp, fun h => absurd rfl h⟩, by simp⟩
  · obtain ⟨b, off, rfl, hb, hj⟩ := hr h0
    obtain ⟨xs, hxs, hp⟩ := pick_list (p := fun j (z : Int) => W.cell? ⟨b, off + j * 1, none⟩ = some (.int .u8 z) ∧ 0 ≤ z ∧ z ≤ 255) 0 (len := len) fun j hjl => by
      obtain ⟨l, _, hra, z, rfl, hz⟩ := hj j hjl
      exact ⟨z, hra 0 _ rfl, hz⟩
    subst hxs
    refine ⟨_, cap, xs, rfl, ⟨hl, hz2, fun _ => ⟨b, off, rfl, hb, fun j _ z hz => (hp j z hz).1⟩⟩, fun z hz => ?_⟩
    obtain ⟨i, hi⟩ := List.getElem?_of_mem hz
    exact (hp i z hi).2
end
end Go.Proofs.YtnkigifcilgmbaaGreatDoor
