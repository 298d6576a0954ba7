/- FarkasDigits' region 16. -/
import Derived.Test.YtnkigifcilgmbaaDoorZAL
import Derived.BigRegion
set_option linter.unusedVariables false
set_option linter.unusedSimpArgs false

/- Package farkas: a refutation that is a sum, checked. -/
namespace Go.Proofs.YtnkigifcilgmbaaDoor
open Go Go.RowKit Go.Maps
open _root_.Go.Proofs.YtnkigifcilgmbaaDoor.Nm (IsI pw)
/-- The rows, so many times each, say that 0 is below 0. -/
def Refuted (rs : List (List (ByteArray × Int) × Int)) (bs : List ByteArray) : Prop := ∃ q, sumO rs bs = some q ∧ (∀ s : ByteArray, s.size ≤ maxLen → q.1 s = 0) ∧ q.2 < 0
def FPost (p : Prop) (cb : Nat) (w : World) (e : Ending) (w' : World) : Prop := ∃ b : Bool, e = .returned (.bool b) ∧ (b = true ↔ p) ∧ But cb w w'
theorem But.trans {r : Nat} {a b c : World} (h : But r a b) (k : But r b c) : But r a c :=
  ⟨k.os.trans h.os, k.tape.trans h.tape, k.output.trans h.output, Nat.le_trans h.size k.size, fun j hj hr => (k.block j (Nat.lt_of_lt_of_le hj h.size) hr).trans (h.block j hj hr)⟩
set_option maxRecDepth 100000 in
set_option maxHeartbeats 4000000 in
theorem refutes_sum {w : World} {cb fb fo nR cR nB cB : Nat} {left depth : Int} {aR aB : Option Addr} {x2 x3 x4 : Value} {rs : List (List (ByteArray × Int) × Int)} {bs : List ByteArray} {ls : List (List (ByteArray × ByteArray) × ByteArray)}
    (hcb : w.heap[cb]? = some (.cells #[.int .i64 left] 47)) (hleft : 1 ≤ left ∧ left ≤ 33554432) (hdep : 1 ≤ depth ∧ depth ≤ 200) (hfb : fb < w.heap.size) (hfc : fb ≠ cb) (hF : w.rangeAt fb fo [.slice aB nB cB, .bool false, x2, x3, x4])
    (hR : Row w.heap.size aR nR cR 3 (RAt w w.heap.size rs)) (hnR : nR = rs.length) (hS : Row w.heap.size aB nB cB 1 (BA w bs)) (hnB : nB = bs.length) (hn : nR ≤ 1000) (hrl : readL ls = some rs) (hC : ∀ l ∈ ls, l.1.length ≤ 1000) :
    Calls Tryd.prog 12 #[.pointer (some ⟨cb, 0, none⟩), .slice aR nR cR, .pointer (some ⟨fb, fo, none⟩), .int .i64 depth] w (FPost (Refuted rs bs) cb w) := by
  have hcl : cb < w.heap.size := (Array.getElem?_eq_some_iff.1 hcb).1
  have x0 : w.cell? ⟨cb, 0, none⟩ = some (.int .i64 left) := (blk hcb).2.1 0 _ rfl
  have xf := (blk hcb).2.2 0
  obtain ⟨A, eA⟩ : ∃ A, w.setCell ⟨cb, 0, none⟩ (.int .i64 (left - 1)) = A := ⟨_, rfl⟩
  have hpt : PutAt cb w A := by rw [← eA]; exact (PutAt.refl cb w).set 0 _
  have hcA : A.heap[cb]? = some (.cells #[.int .i64 (left - 1)] 47) := by rw [← eA]; exact set_block hcb _
  have hNo : NoS #[.int .i64 left] := fun o u hu hs => by
    match o, hu with
    | 0, hu => simp at hu; subst hu; rcases hs with ⟨s, e⟩ | ⟨s, e⟩ <;> cases e
    | o + 1, hu => simp at hu
  have hk := noS_keep (B := w.heap.size) hpt hcb hNo
  have hk2 : ∀ b, b < w.heap.size → (∃ o u, w.cell? ⟨b, o, none⟩ = some u ∧ Str u) → A.heap[b]? = w.heap[b]? ∧ b < A.heap.size ∧ b < A.heap.size := fun b hb h => ⟨(hk b hb h).1, (hk b hb h).2.2, (hk b hb h).2.2⟩
  have hFA : ∀ (j : Nat) v, ([.slice aB nB cB, .bool false, x2, x3, x4] : List Value)[j]? = some v → A.cell? ⟨fb, fo + j, none⟩ = some v := fun j v hv => (World.cell?_of_block (w := w) (a := ⟨fb, fo + j, none⟩) (hpt.block fb hfc)).trans (hF j v hv)
  have hSA : Row A.heap.size aB nB cB 1 (BA A bs) := by
    refine ⟨hS.1, hS.2.1, fun h0 => ?_⟩
    obtain ⟨b, off, e, hb, hj⟩ := hS.2.2 h0
    have hkb := hk2 b hb ⟨off + 0 * 1, _, hj 0 (by omega) _ (List.getElem?_eq_getElem (by omega)), .inl ⟨_, rfl⟩⟩
    exact ⟨b, off, e, hkb.2.1, fun j hjn s hs => (World.cell?_of_block (w := w) (a := ⟨b, off + j * 1, none⟩) hkb.1).trans (hj j hjn s hs)⟩
  have hRA : Row A.heap.size aR nR cR 3 (RAt A A.heap.size rs) := by
    refine ⟨hR.1, hR.2.1, fun h0 => ?_⟩
    obtain ⟨b, off, e, hb, hj⟩ := hR.2.2 h0
    have hbc : b ≠ cb := by
      rintro rfl
      obtain ⟨x, y, z, hr, _⟩ := hj 0 (by omega) _ (List.getElem?_eq_getElem (by omega))
      have := hr 1 _ rfl
      rw [cell_arr hcb] at this
      have h2 := hr 2 _ rfl
      rw [cell_arr hcb] at h2
      simp at h2
    refine ⟨b, off, e, by rw [hpt.size]; exact hb, fun j hjn r hr => ?_⟩
    obtain ⟨x, y, z, h1, h2⟩ := hj j hjn r hr
    exact ⟨x, y, z, fun t u ht => (World.cell?_of_block (w := w) (a := ⟨b, off + j * 3 + t, none⟩) (hpt.block b hbc)).trans (h1 t u ht), h2.keep hk2⟩
  have HSum := hide (sumOf_any (X := XX) hRA hnR hSA hnB (Nat.le_refl _) hn (rows_ok hrl hC) (fun s z hz => Int.lt_of_lt_of_le (by have := numT_bound (by omega) hz; omega) (pow_pw (d := 1600) (k := 3000) (by omega))) big_X)
  have f0 : A.cell? ⟨fb, fo, none⟩ = some (.slice aB nB cB) := hFA 0 _ rfl
  have f1 : A.cell? ⟨fb, fo + 1, none⟩ = some (.bool false) := hFA 1 _ rfl
  have c0 : A.cell? ⟨cb, 0, none⟩ = some (.int .i64 (left - 1)) := (blk hcA).2.1 0 _ rfl
  have HE := hide eA
  have HP := hide (show But cb w A from ⟨hpt.os, hpt.tape, hpt.output, Nat.le_of_eq hpt.size.symm, fun k _ hk => hpt.block k hk⟩)
  have g1 : decide ((200 : Int) < depth) = false := by simp; omega
  have g2 : decide (left - 1 < (0 : Int)) = false := by simp; omega
  have g3 : IntKind.i64.wrap (left - 1) = left - 1 := by rw [IntKind.wrap_i64]; omega
  rw [← eA] at f0 f1 c0
  clear hcb hdep hfb hfc hF hR hnR hS hnB hn hrl hC hcl eA hpt hcA hNo hk hk2 hFA hSA hRA
  go_enter Tryd.func12, Tryd.ntmps12
  go_wp2_with fail
  rw [unhide HE]
  refine (unhide HSum).mono ?_
  rintro e w3 ⟨r, rfl, hb3, ⟨mx, si, sa, sl, sc, rfl⟩, hq⟩
  obtain ⟨w4, e4, hb4, hs4, hc4, hh4⟩ := box_new w3 #[.map mx, .int .i64 si, .slice sa sl sc] 55
  have hB4 : But cb w w4 := (unhide HP).trans ((But.of hb3 (Nat.le_refl _)).trans (But.of hb4 (Nat.le_refl _)))
  have s0 : w4.cell? ⟨w3.heap.size, 0, none⟩ = some (.map mx) := (blk hh4).2.1 0 _ rfl
  have s1 : w4.cell? ⟨w3.heap.size, 1, none⟩ = some (.int .i64 si) := (blk hh4).2.1 1 _ rfl
  have s2 : w4.cell? ⟨w3.heap.size, 2, none⟩ = some (.slice sa sl sc) := (blk hh4).2.1 2 _ rfl
  have HE4 := hide e4
  have H4 := hide (And.intro hB4 (And.intro hb4 hq))
  rw [← e4] at s0 s1 s2
  clear hb3 hq e4 hb4 hs4 hc4 hh4 hB4 HSum HE HP f0 f1 c0 x0 xf g1 g2 g3
  cases hso : sumO rs bs with
  | none =>
    clear s0 s1 s2
    go_wp2
    go_ret
    rw [unhide HE4]
    refine ⟨false, rfl, ⟨fun h => (by cases h), fun ⟨q, h, _⟩ => by rw [hso] at h; cases h⟩, (unhide H4).1⟩
  | some q =>
    obtain ⟨hB4, hb4, hq⟩ := unhide H4
    obtain ⟨⟨D, mb, nn, i', a', l', c', ev, hom, hnn, hmf, hI⟩, hfb, hkb⟩ := hq q hso
    obtain ⟨rfl, rfl, rfl, rfl, rfl⟩ : mx = some mb ∧ i' = si ∧ a' = sa ∧ l' = sl ∧ c' = sc := by simp at ev; exact ⟨ev.1, ev.2.1.symm, ev.2.2.1.symm, ev.2.2.2.1.symm, ev.2.2.2.2.symm⟩
    have hom4 : w4.ownsMap Tryd.prog 9 R0 mb nn D := by
      obtain ⟨es, cl, hm, F, hs, hD⟩ := hom
      exact ⟨es, cl, (hb4.block mb (Array.getElem?_eq_some_iff.1 hm).1).trans hm, F, hs, hD⟩
    have HF := hide (isFalse_any hom4 (hI.more hb4 hb4.size) (by omega))
    have hz := size_zero hom4 (hmf.more hb4)
    have hiff : (decide (Maps.size D = 0) && decide (q.2 < 0)) = true ↔ Refuted rs bs := by
      simp only [Bool.and_eq_true, decide_eq_true_eq]
      constructor
      · rintro ⟨h1, h2⟩
        exact ⟨q, hso, hz.1 h1, h2⟩
      · rintro ⟨q', h, h1, h2⟩
        rw [hso] at h
        injection h with h
        subst h
        exact ⟨hz.2 h1, h2⟩
    obtain ⟨bb, hbb⟩ : ∃ bb, (decide (Maps.size D = 0) && decide (q.2 < 0)) = bb := ⟨_, rfl⟩
    rw [hbb] at HF hiff
    have HI := hide hiff
    clear hB4 hb4 hq ev hom hnn hmf hI hfb hkb hom4 hz hiff hbb hso
    go_wp2_with fail
    rw [unhide HE4]
    refine (unhide HF).mono ?_
    rintro e w5 ⟨rfl, hb5⟩
    have HB5 := hide ((unhide H4).1.trans (But.of hb5 (Nat.le_refl _)))
    clear hb5 HF s0 s1 s2
    go_wp2
    go_ret
    exact ⟨bb, rfl, unhide HI, unhide HB5⟩
/-- What Check says of a refutation that is a sum. -/
def CPost (ls : List (List (ByteArray × ByteArray) × ByteArray)) (bs : List ByteArray) (w : World) (e : Ending) (w' : World) : Prop := ∃ z : Int, e = .returned (.int .i64 z) ∧ Below w.heap.size w w' ∧ (readL ls = none → z = 90) ∧ ∀ rs, readL ls = some rs → (Refuted rs bs → z = 0) ∧ (¬ Refuted rs bs → z = 100)
set_option maxRecDepth 100000 in
set_option maxHeartbeats 4000000 in
theorem Check_sum {w : World} {aL aB : Option Addr} {n cL nB cB nr cr nl cl : Nat} {ar al : Option Addr} {kr : ByteArray} {ls : List (List (ByteArray × ByteArray) × ByteArray)} {bs : List ByteArray} (hL : Row w.heap.size aL n cL 2 (LAt w w.heap.size ls)) (hnl : n = ls.length) (hS : Row w.heap.size aB nB cB 1 (BA w bs)) (hnB : nB = bs.length) (hn : n ≤ 1000) (hC : ∀ l ∈ ls, l.1.length ≤ 1000) : Calls Tryd.prog 8 #[.slice aL n cL, .agg #[.slice aB nB cB, .bool false, .slice ar nr cr, .string kr, .slice al nl cl]] w (CPost ls bs w) := by
  obtain ⟨A, eA, hbA, hsA, hcA, hhA⟩ := box_new w #[.slice aB nB cB, .bool false, .slice ar nr cr, .string kr, .slice al nl cl] 32
  have hLA : Row w.heap.size aL n cL 2 (LAt A w.heap.size ls) := hL.mono (Nat.le_refl _) fun b o j hb h l hl => by
    obtain ⟨x, y, h1, h2⟩ := h l hl
    exact ⟨x, y, rangeAt_below h1 hb hbA, h2.more hbA⟩
  have HR := hide (readRows_any hLA hnl hbA.size (by omega) (fun l hl => by have := hC l hl; omega))
  have HE := hide eA
  have HB := hide (And.intro hbA (And.intro hsA hhA))
  have HC := hide (And.intro hS (And.intro hnB (And.intro hn (And.intro hC hnl))))
  clear hL hnl hS hnB hn hC eA hbA hsA hcA hhA hLA
  go_enter Tryd.func8, Tryd.ntmps8
  go_wp2_with fail
  rw [unhide HE]
  refine (unhide HR).mono ?_
  rintro e w2 ⟨aR, nR, cR, rfl, hb2, hrs⟩
  obtain ⟨hbA, hsA, hhA⟩ := unhide HB
  have hh2 := (hb2.block w.heap.size (by omega)).trans hhA
  have hb02 : Below w.heap.size w w2 := hbA.trans (hb2.mono hbA.size)
  have H2 := hide (And.intro hh2 (And.intro hb02 hrs))
  clear hbA hsA hhA hh2 hb02 hb2 hrs HR HE HB
  cases hrl : readL ls with
  | none =>
    go_wp2
    go_ret
    exact ⟨90, rfl, (unhide H2).2.1, fun _ => rfl, fun rs h => by rw [hrl] at h; cases h⟩
  | some rs =>
    obtain ⟨hh2, hb02, hrs⟩ := unhide H2
    obtain ⟨hS, hnB, hn, hC, hnl⟩ := unhide HC
    obtain ⟨k1, k2, k3⟩ := hrs rs hrl
    have hlr := allO_len hrl
    obtain ⟨w4, e4, hb4, hs4, hc4, hh4⟩ := box_new w2 #[.int .i64 33554432] 47
    have hb04 : Below w.heap.size w w4 := hb02.trans (hb4.mono hb02.size)
    have hS4 : Row w4.heap.size aB nB cB 1 (BA w4 bs) := hS.mono hb04.size fun b o j hb h s hs => (hb04.cell (p := ⟨b, o, none⟩) hb).trans (h s hs)
    have hR4 : Row w4.heap.size aR nR cR 3 (RAt w4 w4.heap.size rs) := k3.mono hb4.size fun b o j hb h r hr => by
      obtain ⟨x, y, z, h1, h2⟩ := h r hr
      exact ⟨x, y, z, rangeAt_below h1 hb hb4, h2.more hb4 hb4.size (Nat.le_refl _)⟩
    have hw2 : w.heap.size < w2.heap.size := (Array.getElem?_eq_some_iff.1 hh2).1
    have hF4 := range_block ((hb4.block w.heap.size hw2).trans hh2 : w4.heap[w.heap.size]? = some (.cells ([.slice aB nB cB, .bool false, .slice ar nr cr, .string kr, .slice al nl cl] : List Value).toArray 32))
    have HRef := hide (refutes_sum (w := w4) (cb := w2.heap.size) (fb := w.heap.size) (fo := 0) (left := 33554432) (depth := 1) hh4 (by omega) (by omega) (by omega) (by omega) hF4 hR4 k1 hS4 hnB (by omega) hrl hC)
    have HE4 := hide e4
    have HB4 := hide (And.intro hb04 (And.intro hb02 hs4))
    have HRL := hide hrl
    clear hh2 hb02 hrs hS hnB hn hC hnl k1 k2 k3 hlr e4 hb4 hs4 hc4 hh4 hb04 hS4 hR4 hw2 hF4 hrl
    go_wp2_with fail
    rw [unhide HE4]
    refine (unhide HRef).mono ?_
    rintro e w5 ⟨b, rfl, hbi, hbut⟩
    have hb5 : Below w.heap.size w w5 := by
      obtain ⟨hb04, hb02, hs4⟩ := unhide HB4
      have h2 := hb02.size
      exact hb04.trans ⟨hbut.os, hbut.tape, hbut.output, hbut.size, fun k hk => hbut.block k (by omega) (by omega)⟩
    have H5 := hide (And.intro hb5 hbi)
    clear hb5 hbi hbut HRef
    cases b with
    | false =>
      go_wp2
      go_ret
      obtain ⟨hb5, hbi⟩ := unhide H5
      refine ⟨100, rfl, hb5, fun h => (by rw [unhide HRL] at h; cases h), fun rs' h => ?_⟩
      rw [unhide HRL] at h
      injection h with h
      subst h
      exact ⟨fun h => (by simp [h] at hbi), fun _ => rfl⟩
    | true =>
      go_wp2
      go_ret
      obtain ⟨hb5, hbi⟩ := unhide H5
      refine ⟨0, rfl, hb5, fun h => (by rw [unhide HRL] at h; cases h), fun rs' h => ?_⟩
      rw [unhide HRL] at h
      injection h with h
      subst h
      exact ⟨fun _ => rfl, fun h => absurd (by simpa using hbi) h⟩
set_option maxRecDepth 100000 in
theorem row_any (a : Option Addr) (n c : Nat) (k : ByteArray) (w : World) : Calls Tryd.prog 7 #[.string k, .slice a n c] w (VPost (.agg #[.slice a n c, .string k]) w) := by
  go_enter Tryd.func7, Tryd.ntmps7
  go_wp2
  obtain ⟨A, eA, hbA, hsA, hcA, hhA⟩ := box_new w #[.slice a n c, .string k] 26
  rw [eA]
  exact bodyPost_ret (res_row (cs := [.slice a n c, .string k]) rfl rfl (range_block hhA) rfl rfl rfl) rfl ⟨rfl, hbA⟩
end Go.Proofs.YtnkigifcilgmbaaDoor

/- avowlaw10: known() is true. -/
namespace Go.Proofs.YtnkigifcilgmbaaDoor
open Go Go.RowKit Go.Maps
open _root_.Go.Proofs.YtnkigifcilgmbaaDoor.Nm (IsI pw)
def bx : ByteArray := ⟨#[120]⟩
def b1 : ByteArray := ⟨#[49]⟩
def b2 : ByteArray := ⟨#[50]⟩
def bm1 : ByteArray := ⟨#[45, 49]⟩
def bm2 : ByteArray := ⟨#[45, 50]⟩
def ls0 : List (List (ByteArray × ByteArray) × ByteArray) := [([(bx, b1)], b1), ([(bx, bm1)], bm2)]
def rs0 : List (List (ByteArray × Int) × Int) := [([(bx, 1)], 1), ([(bx, -1)], -2)]
theorem n1 (d : Nat) (h : 1 ≤ d) : numT d b1 = some 1 := by
  have : decide (1 ≤ d) = true := by simpa using h
  simp [numT, rightB, b1, Lib.hasPrefix, Lib.trimPrefix, List.isPrefixOf, isDigB, Nm.dec, h]
theorem n2 (d : Nat) (h : 1 ≤ d) : numT d b2 = some 2 := by
  simp [numT, rightB, b2, Lib.hasPrefix, Lib.trimPrefix, List.isPrefixOf, isDigB, Nm.dec, h]
theorem nm1 (d : Nat) (h : 1 ≤ d) : numT d bm1 = some (-1) := by
  simp [numT, rightB, bm1, Lib.hasPrefix, Lib.trimPrefix, List.isPrefixOf, isDigB, Nm.dec, h]
theorem nm2 (d : Nat) (h : 1 ≤ d) : numT d bm2 = some (-2) := by
  simp [numT, rightB, bm2, Lib.hasPrefix, Lib.trimPrefix, List.isPrefixOf, isDigB, Nm.dec, h]
theorem rd0 : readL ls0 = some rs0 := by
  have h1 : readP (bx, b1) = some (bx, 1) := by
    unfold readP
    rw [if_neg (by show ¬ ((1 : Nat) = 0 ∨ 200 < 1); omega), n1 400 (by omega)]
    rfl
  have h2 : readP (bx, bm1) = some (bx, -1) := by
    unfold readP
    rw [if_neg (by show ¬ ((1 : Nat) = 0 ∨ 200 < 1); omega), nm1 400 (by omega)]
    rfl
  have h3 : readR [(bx, b1)] b1 = some ([(bx, 1)], 1) := by
    simp [readR, readC, h1, n1 400]
  have h4 : readR [(bx, bm1)] bm2 = some ([(bx, -1)], -2) := by
    simp [readR, readC, h2, nm2 400]
  simp [readL, allO, ls0, rs0, h3, h4]
theorem t1 : timesT b1 = some 1 := by simp [timesT, n1 1600]
theorem t2 : timesT b2 = some 2 := by simp [timesT, n2 1600]
theorem sum21 : sumAll ls0 [b2, b1] = some (fput (fput (fun _ => 0) bx 2) bx 1, 0) := by
  unfold sumAll
  rw [rd0]
  simp [sumO, allO, t1, t2, rs0, sumN, sumStep, fadd, fput]
theorem sum11 : sumO rs0 [b1, b1] = some (fput (fput (fun _ => 0) bx 1) bx 0, -1) := by
  simp [sumO, allO, t1, rs0, sumN, sumStep, fadd, fput]
theorem ref11 : Refuted rs0 [b1, b1] := ⟨_, sum11, fun s _ => by
  show (if s = bx then (0 : Int) else if s = bx then 1 else 0) = 0
  split
  · rfl
  · rfl, by show (-1 : Int) < 0; decide⟩
theorem sum1 : sumO rs0 [b1] = some (fput (fun _ => 0) bx 1, 1) := by
  simp [sumO, allO, t1, rs0, sumN, sumStep, fadd, fput]
theorem ref1 : ¬ Refuted rs0 [b1] := fun ⟨q, h, _, h2⟩ => by
  rw [sum1] at h
  injection h with h
  subst h
  exact absurd h2 (by show ¬ (1 : Int) < 0; decide)
theorem emptyT (d : Nat) : numT d ⟨#[]⟩ = none := by
  simp [numT, rightB, Lib.hasPrefix, Lib.trimPrefix, List.isPrefixOf]
theorem rdE : readL [([], ⟨#[]⟩)] = none := by
  simp [readL, allO, readR, emptyT]
/-- The names of known's sum: x alone. -/
theorem ss_x {ss : List (List UInt8)} (hn : ss.Nodup) (h : ∀ x, x ∈ ss ↔ x.length ≤ maxLen ∧ (fput (fput (fun _ => 0) bx 2) bx 1) (bytesOf x) ≠ 0) : ss = [[120]] := by
  have hx : ∀ x, x ∈ ss ↔ x = [120] := fun x => by
    rw [h x]
    have e : bytesOf x = bx ↔ x = [120] := by
      constructor
      · intro e
        have := congrArg (fun b : ByteArray => b.data.toList) e
        simpa [bytesOf, bx] using this
      · rintro rfl
        rfl
    unfold fput
    constructor
    · rintro ⟨_, h⟩
      by_cases hb : bytesOf x = bx
      · exact e.1 hb
      · simp [hb] at h
    · intro hx
      refine ⟨by rw [hx]; unfold maxLen; simp, ?_⟩
      rw [if_pos (e.2 hx)]
      decide
  cases ss with
  | nil => exact absurd ((hx [120]).2 rfl) (by simp)
  | cons a l =>
    have ha := (hx a).1 (by simp)
    subst ha
    cases l with
    | nil => rfl
    | cons b l =>
      have hb := (hx b).1 (by simp)
      subst hb
      simp at hn
theorem co_x : coefsOf (fput (fput (fun _ => 0) bx 2) bx 1) [[120]] = [(bx, b1)] := by
  have : (fput (fput (fun _ => 0) bx 2) bx 1) (bytesOf [120]) = 1 := by
    unfold fput
    rw [if_pos (show bytesOf [120] = bx from rfl)]
  have hi : Lib.itoa 1 = [49] := by kernel_rfl
  simp [coefsOf, coefOf, this, hi]
  exact ⟨rfl, rfl⟩
theorem k_0 : bytesOf (Lib.itoa 0) = ⟨#[48]⟩ := by
  have hi : Lib.itoa 0 = [48] := by kernel_rfl
  rw [hi]
  rfl
/-- The two rows of known lie there. -/
def KL (lb : Nat) (V : World) : Prop := lb < V.heap.size ∧ Row V.heap.size (some ⟨lb, 0, none⟩) 2 2 2 (LAt V V.heap.size ls0)
theorem KL.more {lb : Nat} {V V' : World} (h : KL lb V) (hb : Below V.heap.size V V') : KL lb V' := ⟨Nat.lt_of_lt_of_le h.1 hb.size, h.2.mono hb.size fun b o j hb' h l hl => by
  obtain ⟨x, y, h1, a, n, c, e, hn, hr⟩ := h l hl
  exact ⟨x, y, rangeAt_below h1 hb' hb, a, n, c, e, hn, hr.mono hb.size fun b o j hb2 h p hp => rangeAt_below (h p hp) hb2 hb⟩⟩
theorem KL.mk {V : World} {lb g1 g2 : Nat} (h1 : V.heap[g1]? = some (.cells #[.string bx, .string b1] 34)) (h2 : V.heap[g2]? = some (.cells #[.string bx, .string bm1] 34)) (hl : V.heap[lb]? = some (.cells #[.slice (some ⟨g1, 0, none⟩) 1 1, .string b1, .slice (some ⟨g2, 0, none⟩) 1 1, .string bm2] 26)) : KL lb V := by
  have hc : ∀ {g : Nat} {s t : ByteArray}, V.heap[g]? = some (.cells #[.string s, .string t] 34) → Row V.heap.size (some ⟨g, 0, none⟩) 1 1 2 (CA V [(s, t)]) := fun {g s t} h => ⟨Nat.le_refl _, by omega, fun _ => ⟨g, 0, rfl, (blk h).1, fun j hj c hc i u hu => by
    obtain rfl : j = 0 := by omega
    obtain rfl : (s, t) = c := by simpa using hc
    rw [show 0 + 0 * 2 + i = i by omega]
    exact (blk h).2.1 i u (by simpa using hu)⟩⟩
  refine ⟨(blk hl).1, Nat.le_refl _, by omega, fun _ => ⟨lb, 0, rfl, (blk hl).1, fun j hj l hlj => ?_⟩⟩
  rcases (by omega : j = 0 ∨ j = 1) with rfl | rfl
  · have : l = ([(bx, b1)], b1) := by simpa [ls0] using hlj.symm
    subst this
    exact ⟨.slice (some ⟨g1, 0, none⟩) 1 1, .string b1, fun t u hu => (blk hl).2.1 (0 + 0 * 2 + t) u (by
      match t, hu with
      | 0, hu => simpa using hu
      | 1, hu => simpa using hu
      | t + 2, hu => simp at hu), _, _, _, rfl, rfl, hc h1⟩
  · have : l = ([(bx, bm1)], bm2) := by simpa [ls0] using hlj.symm
    subst this
    exact ⟨.slice (some ⟨g2, 0, none⟩) 1 1, .string bm2, fun t u hu => (blk hl).2.1 (0 + 1 * 2 + t) u (by
      match t, hu with
      | 0, hu => simpa using hu
      | 1, hu => simpa using hu
      | t + 2, hu => simp at hu), _, _, _, rfl, rfl, hc h2⟩
theorem BA.mk {V : World} {g : Nat} {cs : Array Value} {bs : List ByteArray} (h : V.heap[g]? = some (.cells cs 9)) (hb : ∀ (j : Nat) s, bs[j]? = some s → cs[j]? = some (.string s)) (hn : bs.length ≤ 1000) : Row V.heap.size (some ⟨g, 0, none⟩) bs.length bs.length 1 (BA V bs) := ⟨Nat.le_refl _, by omega, fun _ => ⟨g, 0, rfl, (blk h).1, fun j hj s hs => by
  rw [show 0 + j * 1 = j by omega]
  exact (blk h).2.1 j _ (hb j s hs)⟩⟩
end Go.Proofs.YtnkigifcilgmbaaDoor

/- avowlaw10: known() is true. -/
namespace Go.Proofs.YtnkigifcilgmbaaDoor
open Go Go.RowKit Go.Maps
open _root_.Go.Proofs.YtnkigifcilgmbaaDoor.Nm (IsI pw)
theorem hC0 : ∀ l ∈ ls0, l.1.length ≤ 1000 := fun l hl => by
  simp [ls0] at hl
  rcases hl with rfl | rfl <;> simp
theorem len0 : ls0.length = 2 := rfl
set_option maxRecDepth 100000 in
set_option maxHeartbeats 8000000 in
theorem known_any {w : World} (hT : Nm.Tab w) : Calls Tryd.prog 5 #[] w (VPost (.bool true) w) := by
  obtain ⟨A1, eA1, hbA1, hsA1, hcA1, hhA1⟩ := box_new w #[.string ⟨#[120]⟩, .string ⟨#[49]⟩] 34
  have HRow1 := hide (row_any (some ⟨w.heap.size, 0, none⟩) 1 1 ⟨#[49]⟩ A1)
  have HE1 := hide eA1
  have H1 := hide (And.intro hbA1 (And.intro hsA1 hhA1))
  have HT := hide hT
  clear eA1 hbA1 hsA1 hcA1 hhA1 hT
  go_enter Tryd.func5, Tryd.ntmps5
  go_wp2_with fail
  rw [unhide HE1]
  refine (unhide HRow1).mono ?_
  rintro e w1 ⟨rfl, hb1⟩
  obtain ⟨A2, eA2, hbA2, hsA2, hcA2, hhA2⟩ := box_new w1 #[.string ⟨#[120]⟩, .string ⟨#[45, 49]⟩] 34
  have HRow2 := hide (row_any (some ⟨w1.heap.size, 0, none⟩) 1 1 ⟨#[45, 50]⟩ A2)
  have HE2 := hide eA2
  have H2 := hide (And.intro hb1 (And.intro hbA2 (And.intro hsA2 hhA2)))
  clear hb1 eA2 hbA2 hsA2 hcA2 hhA2 HRow1 HE1
  go_wp2_with fail
  rw [unhide HE2]
  refine (unhide HRow2).mono ?_
  rintro e w2 ⟨rfl, hb2⟩
  obtain ⟨hbA1, hsA1, hhA1⟩ := unhide H1
  obtain ⟨hb1, hbA2, hsA2, hhA2⟩ := unhide H2
  obtain ⟨A3, eA3, hbA3, hsA3, hcA3, hhA3⟩ := box_new w2 #[.slice (some ⟨w.heap.size, 0, none⟩) 1 1, .string ⟨#[49]⟩, .slice (some ⟨w1.heap.size, 0, none⟩) 1 1, .string ⟨#[45, 50]⟩] 26
  have q1 := hb1.size
  have q2 := hb2.size
  have hg1 : A3.heap[w.heap.size]? = some (.cells #[.string ⟨#[120]⟩, .string ⟨#[49]⟩] 34) := (hbA3.block _ (by omega)).trans ((hb2.block _ (by omega)).trans ((hbA2.block _ (by omega)).trans ((hb1.block _ (by omega)).trans hhA1)))
  have hg2 : A3.heap[w1.heap.size]? = some (.cells #[.string ⟨#[120]⟩, .string ⟨#[45, 49]⟩] 34) := (hbA3.block _ (by omega)).trans ((hb2.block _ (by omega)).trans hhA2)
  have hKL : KL w2.heap.size A3 := KL.mk hg1 hg2 hhA3
  have hb03 : Below w.heap.size w A3 := hbA1.trans ((hb1.mono (by omega)).trans ((hbA2.mono (by omega)).trans ((hb2.mono (by omega)).trans (hbA3.mono (by omega)))))
  obtain ⟨A4, eA4, hbA4, hsA4, hcA4, hhA4⟩ := box_new A3 #[.string ⟨#[50]⟩, .string ⟨#[49]⟩] 9
  have hKL4 := hKL.more hbA4
  have hb04 : Below w.heap.size w A4 := hb03.trans (hbA4.mono hb03.size)
  have hba4 : Row A4.heap.size (some ⟨A3.heap.size, 0, none⟩) 2 2 1 (BA A4 [b2, b1]) := BA.mk (bs := [b2, b1]) hhA4 (fun j s hs => by
    match j, hs with
    | 0, hs => simpa [b2] using hs
    | 1, hs => simpa [b1] using hs
    | j + 2, hs => simp at hs) (by simp)
  have HSum := hide (Sum_any (ls := ls0) (bs := [b2, b1]) hKL4.2 len0.symm hba4 rfl (Nat.le_refl _) (by omega) hC0 (Nm.Tab.below (unhide HT) hb04))
  obtain ⟨lb, hlb⟩ : ∃ lb, w2.heap.size = lb := ⟨_, rfl⟩
  have hszA3 : A3.heap.size = lb + 1 := by omega
  rw [hlb] at hKL4 HSum
  rw [hszA3] at HSum
  have HE3 := hide (And.intro eA3 eA4)
  have hlc : A4.cell? ⟨lb, 0, none⟩ = some (.slice (some ⟨w.heap.size, 0, none⟩) 1 1) ∧ A4.cell? ⟨lb, 1, none⟩ = some (.string ⟨#[49]⟩) := by
    have hl4 := (hbA4.block w2.heap.size (by omega)).trans hhA3
    rw [hlb] at hl4
    exact ⟨(blk hl4).2.1 0 _ rfl, (blk hl4).2.1 1 _ rfl⟩
  have hA4s : lb + 2 ≤ A4.heap.size := by omega
  have H4 := hide (And.intro hKL4 (And.intro hb04 (And.intro hlc hA4s)))
  clear hbA1 hsA1 hhA1 hb1 hbA2 hsA2 hhA2 eA3 hbA3 hsA3 hcA3 hhA3 q1 q2 hg1 hg2 hKL hb03 eA4 hbA4 hsA4 hcA4 hhA4 hKL4 hb04 hba4 hb2 HRow2 HE2 H1 H2
  go_wp2_with fail
  rw [(unhide HE3).1, (unhide HE3).2]
  refine (unhide HSum).mono ?_
  rintro e w5 ⟨r, rfl, hb5, -, hq⟩
  obtain ⟨ss, hnd, hss, hIL⟩ := hq _ sum21
  obtain rfl := ss_x hnd hss
  rw [co_x, k_0] at hIL
  obtain ⟨a, n, c, rfl, hn, hR⟩ := hIL
  obtain rfl : n = 1 := hn
  obtain ⟨g, o, rfl, hg, hgj⟩ := hR.2.2 (by omega)
  have hgc := hgj 0 (by omega) (bx, b1) rfl
  have hN1 : w5.cell? ⟨g, o + 1, none⟩ = some (.string ⟨#[49]⟩) := by
    have := hgc 1 _ rfl
    rw [show o + 0 * 2 + 1 = o + 1 by omega] at this
    exact this
  rw [sum21]
  obtain ⟨hKL4, hb04, hlc, hA4s⟩ := unhide H4
  obtain ⟨w6, e6, hb6, hs6, hc6, hh6⟩ := box_new w5 #[.slice (some ⟨g, o, none⟩) 1 c, .string ⟨#[48]⟩] 26
  have hb46 : Below A4.heap.size A4 w6 := hb5.trans (hb6.mono hb5.size)
  have hb06 : Below w.heap.size w w6 := hb04.trans (hb46.mono hb04.size)
  have HAll : Hid (∀ V, Below w6.heap.size w6 V → (V.cell? ⟨w5.heap.size, 0, none⟩ = some (.slice (some ⟨g, o, none⟩) 1 c) ∧ V.cell? ⟨w5.heap.size, 1, none⟩ = some (.string ⟨#[48]⟩) ∧ V.cell? ⟨g, o + 1, none⟩ = some (.string ⟨#[49]⟩) ∧ V.cell? ⟨lb, 0, none⟩ = some (.slice (some ⟨w.heap.size, 0, none⟩) 1 1) ∧ V.cell? ⟨lb, 1, none⟩ = some (.string ⟨#[49]⟩)) ∧ KL lb V ∧ Below w.heap.size w V) := fun V hV => by
    have hl : lb < w6.heap.size := Nat.lt_of_lt_of_le (by omega) hb46.size
    have h5 : w5.heap.size < w6.heap.size := by omega
    have hg6 : g < w6.heap.size := by omega
    exact ⟨⟨(hV.cell (p := ⟨w5.heap.size, 0, none⟩) h5).trans ((blk hh6).2.1 0 _ rfl), (hV.cell (p := ⟨w5.heap.size, 1, none⟩) h5).trans ((blk hh6).2.1 1 _ rfl), (hV.cell (p := ⟨g, o + 1, none⟩) hg6).trans ((hb6.cell (p := ⟨g, o + 1, none⟩) hg).trans hN1), (hV.cell (p := ⟨lb, 0, none⟩) hl).trans ((hb46.cell (p := ⟨lb, 0, none⟩) (show lb < A4.heap.size by omega)).trans hlc.1), (hV.cell (p := ⟨lb, 1, none⟩) hl).trans ((hb46.cell (p := ⟨lb, 1, none⟩) (show lb < A4.heap.size by omega)).trans hlc.2)⟩, (hKL4.more hb46).more hV, hb06.trans (hV.mono hb06.size)⟩
  obtain ⟨A7, eA7, hbA7, hsA7, hcA7, hhA7⟩ := box_new w6 #[.string ⟨#[49]⟩, .string ⟨#[49]⟩] 9
  have HCk1 := hide (Check_sum (w := A7) (ls := ls0) (bs := [b1, b1]) (aL := some ⟨lb, 0, none⟩) (n := 2) (cL := 2) (aB := some ⟨w6.heap.size, 0, none⟩) (nB := 2) (cB := 2) (ar := none) (nr := 0) (cr := 0) (kr := ⟨#[]⟩) (al := none) (nl := 0) (cl := 0) (unhide HAll A7 hbA7).2.1.2 rfl (BA.mk (bs := [b1, b1]) hhA7 (fun j s hs => by
    match j, hs with
    | 0, hs => simpa [b1] using hs
    | 1, hs => simpa [b1] using hs
    | j + 2, hs => simp at hs) (by simp)) rfl (by omega) hC0)
  have HE7 := hide (And.intro e6 eA7)
  have HB7 := hide hbA7
  have hs6' : w6.heap.size = w5.heap.size + 1 := hs6
  have HS6 := hide hs6
  clear hb5 hq hnd hss hR hg hgj hgc hN1 hKL4 hb04 hlc hA4s e6 hb6 hc6 hh6 hb46 hb06 eA7 hbA7 hsA7 hcA7 hhA7 HSum HE3 hs6 hszA3 hlb
  rw [unhide HS6] at HCk1
  go_wp2_with fail
  rw [(unhide HE7).1, (unhide HE7).2]
  refine (unhide HCk1).mono ?_
  rintro e w8 ⟨z, rfl, hb8, -, hz⟩
  obtain rfl : z = 0 := (hz rs0 rd0).1 ref11
  have hb68 : Below w6.heap.size w6 w8 := (unhide HB7).trans (hb8.mono (unhide HB7).size)
  obtain ⟨A9, eA9, hbA9, hsA9, hcA9, hhA9⟩ := box_new w8 #[.string ⟨#[49]⟩] 9
  have hb69 : Below w6.heap.size w6 A9 := hb68.trans (hbA9.mono hb68.size)
  have HCk2 := hide (Check_sum (w := A9) (ls := ls0) (bs := [b1]) (aL := some ⟨lb, 0, none⟩) (n := 2) (cL := 2) (aB := some ⟨w8.heap.size, 0, none⟩) (nB := 1) (cB := 1) (ar := none) (nr := 0) (cr := 0) (kr := ⟨#[]⟩) (al := none) (nl := 0) (cl := 0) (unhide HAll A9 hb69).2.1.2 rfl (BA.mk (bs := [b1]) hhA9 (fun j s hs => by
    match j, hs with
    | 0, hs => simpa [b1] using hs
    | j + 1, hs => simp at hs) (by simp)) rfl (by omega) hC0)
  have HE9 := hide eA9
  have HB9 := hide hb69
  clear hb8 hz hb68 eA9 hbA9 hsA9 hcA9 hhA9 hb69 HCk1 HE7 HB7 hs6'
  go_wp2_with fail
  rw [unhide HE9]
  refine (unhide HCk2).mono ?_
  rintro e w10 ⟨z, rfl, hb10, -, hz⟩
  obtain rfl : z = 100 := (hz rs0 rd0).2 ref1
  have hb610 : Below w6.heap.size w6 w10 := (unhide HB9).trans (hb10.mono (unhide HB9).size)
  obtain ⟨A11, eA11, hbA11, hsA11, hcA11, hhA11⟩ := box_new w10 #[.slice none 0 0, .string ⟨#[]⟩] 26
  have hb611 : Below w6.heap.size w6 A11 := hb610.trans (hbA11.mono hb610.size)
  have HCk3 := hide (Check_sum (w := A11) (ls := [([], ⟨#[]⟩)]) (bs := []) (aL := some ⟨w10.heap.size, 0, none⟩) (n := 1) (cL := 1) (aB := none) (nB := 0) (cB := 0) (ar := none) (nr := 0) (cr := 0) (kr := ⟨#[]⟩) (al := none) (nl := 0) (cl := 0) ⟨Nat.le_refl _, by omega, fun _ => ⟨w10.heap.size, 0, rfl, (blk hhA11).1, fun j hj l hl => by
    obtain rfl : j = 0 := by omega
    obtain rfl : ([], ⟨#[]⟩) = l := by simpa using hl
    exact ⟨.slice none 0 0, .string ⟨#[]⟩, fun t u hu => by
      rw [show 0 + 0 * 2 + t = t by omega]
      exact (blk hhA11).2.1 t u (by simpa using hu), none, 0, 0, rfl, rfl, Nat.le_refl _, by omega, fun h => absurd rfl h⟩⟩⟩ rfl ⟨Nat.le_refl _, by omega, fun h => absurd rfl h⟩ rfl (by omega) (fun l hl => by simp at hl; subst hl; simp))
  have HE11 := hide eA11
  have HB11 := hide hb611
  clear hb10 hz hb610 eA11 hbA11 hsA11 hcA11 hhA11 hb611 HCk2 HE9 HB9
  go_wp2_with fail
  rw [unhide HE11]
  refine (unhide HCk3).mono ?_
  rintro e w12 ⟨z, rfl, hb12, hz, -⟩
  obtain rfl : z = 90 := hz rdE
  have hb612 : Below w6.heap.size w6 w12 := (unhide HB11).trans (hb12.mono (unhide HB11).size)
  obtain ⟨⟨c0, c1, c2, c3, c4⟩, hKL12, hbw12⟩ := unhide HAll w12 hb612
  have HRow := hide (show ∀ V, Below w6.heap.size w6 V → Calls Tryd.prog 10 #[.agg #[.slice (some ⟨w.heap.size, 0, none⟩) 1 1, .string ⟨#[49]⟩]] V (VPost (.bool true) V) from fun V hV => by
    obtain ⟨⟨_, _, _, d3, d4⟩, hKLV, _⟩ := unhide HAll V hV
    obtain ⟨b, off, eb, hb, hj⟩ := hKLV.2.2.2 (by omega)
    obtain ⟨rfl, rfl⟩ : b = lb ∧ off = 0 := by simp at eb; exact ⟨eb.1.symm, eb.2.symm⟩
    obtain ⟨x, y, hr, hI⟩ := hj 0 (by omega) ([(bx, b1)], b1) rfl
    have hx := hr 0 _ rfl
    have hy := hr 1 _ rfl
    simp only [Nat.zero_mul, Nat.add_zero, Nat.zero_add] at hx hy
    rw [d3] at hx
    rw [d4] at hy
    injection hx with hx
    injection hy with hy
    subst hx hy
    have := Row_any hI (Nat.le_refl _) (by simp)
    have e : (readR [(bx, b1)] b1).isSome = true := by
      have h1 : readP (bx, b1) = some (bx, 1) := by
        unfold readP
        rw [if_neg (by show ¬ ((1 : Nat) = 0 ∨ 200 < 1); omega), n1 400 (by omega)]
        rfl
      simp [readR, readC, h1, n1 400]
    rw [e] at this
    exact this)
  have HRow2 := hide (show ∀ V, Calls Tryd.prog 10 #[.agg #[.slice none 0 0, .string ⟨#[]⟩]] V (VPost (.bool false) V) from fun V => by
    have := Row_any (w := V) (B := 0) (C := []) (K := ⟨#[]⟩) ⟨none, 0, 0, rfl, rfl, Nat.le_refl _, by omega, fun h => absurd rfl h⟩ (Nat.zero_le _) (by simp)
    have e : (readR [] ⟨#[]⟩).isSome = false := by simp [readR, emptyT]
    rw [e] at this
    exact this)
  have HB12 := hide hb612
  clear hb12 hz hb612 hKL12 hbw12 HCk3 HE11 HB11
  go_wp2_with fail
  refine (unhide HRow w12 (unhide HB12)).mono ?_
  rintro e w13 ⟨rfl, hb13⟩
  have HB13 := hide ((unhide HB12).trans (hb13.mono (unhide HB12).size))
  clear hb13 c0 c1 c2 c3 c4
  go_wp2_with fail
  refine (unhide HRow2 w13).mono ?_
  rintro e w14 ⟨rfl, hb14⟩
  have HB14 := hide ((unhide HB13).trans (hb14.mono (unhide HB13).size))
  clear hb14
  go_wp2
  go_ret
  exact ⟨rfl, (unhide HAll w14 (unhide HB14)).2.2⟩
end Go.Proofs.YtnkigifcilgmbaaDoor

/- The walk of FarkasDigits. -/
namespace Go.Proofs.YtnkigifcilgmbaaDoor
open Go Go.RowKit Go.Maps
open _root_.Go.Proofs.YtnkigifcilgmbaaDoor.Nm (IsI pw)
theorem dig_num {D : List UInt8} {d : UInt8} {n : Nat} {neg : Bool} (hD : D = List.replicate n d) (hn : 0 < n) (hd : 49 ≤ d.toNat ∧ d.toNat ≤ 57) (m : Nat) (hm : m ≤ 1900) (s : ByteArray) (hs : s.data.toList = if neg then 45 :: D else D) : (numT m s).isSome = decide (n ≤ m) := by
  have hh : Lib.hasPrefix s.data.toList [45] = neg ∧ Lib.trimPrefix s.data.toList [45] = D := by
    rw [hs]
    cases neg with
    | true => simp [Lib.hasPrefix, Lib.trimPrefix]
    | false =>
      cases n with
      | zero => omega
      | succ n =>
        rw [hD, List.replicate_succ]
        have e : d ≠ 45 := fun e => by subst e; simp at hd
        have e2 : ([45] : List UInt8).isPrefixOf (d :: List.replicate n d) = false := by simp [List.isPrefixOf, Ne.symm e]
        simp [Lib.hasPrefix, Lib.trimPrefix, e2]
  have hdg : ∀ b ∈ D, 48 ≤ b.toNat ∧ b.toNat ≤ 57 := fun b hb => by
    rw [hD] at hb
    have := List.eq_of_mem_replicate hb
    subst this
    omega
  have hne : D ≠ [] := by rw [hD]; cases n with
    | zero => omega
    | succ n => simp [List.replicate_succ]
  have hhd : D.head? ≠ some 48 := by
    rw [hD]
    cases n with
    | zero => omega
    | succ n =>
      rw [List.replicate_succ]
      simp
      intro e
      subst e
      simp at hd
  have hlen : D.length = n := by rw [hD]; simp
  unfold numT
  rw [hh.1, hh.2]
  by_cases h : n ≤ m
  · have : rightB neg D m = true := by
      unfold rightB
      simp only [Bool.and_eq_true, Bool.or_eq_true, Bool.not_eq_true', decide_eq_true_eq, List.all_eq_true, beq_iff_eq]
      refine ⟨fun b hb => by simpa [isDigB] using hdg b hb, by cases D <;> simp_all, .inl (by simpa using hhd), by omega⟩
    rw [if_pos this]
    simp [h]
  · have : ¬ rightB neg D m = true := by
      unfold rightB
      simp only [Bool.and_eq_true, decide_eq_true_eq]
      omega
    rw [if_neg this]
    simp [h]
end Go.Proofs.YtnkigifcilgmbaaDoor

/- The walk of FarkasDigits. -/
namespace Go.Proofs.YtnkigifcilgmbaaDoor
open Go Go.RowKit Go.Maps
open _root_.Go.Proofs.YtnkigifcilgmbaaDoor.Nm (IsI pw)
/-- A place among n, of any number. -/
def plc (k n : Int) : Int := if Int.tmod k n < 0 then Int.tmod k n + n else Int.tmod k n
theorem tmod_lt {k n : Int} (hn : 0 < n) : -n < Int.tmod k n ∧ Int.tmod k n < n := by
  have h1 := Int.tmod_lt_of_pos k hn
  have h2 : Int.tmod (-k) n < n := Int.tmod_lt_of_pos (-k) hn
  rw [Int.neg_tmod] at h2
  omega
theorem plc_in (k : Int) {n : Int} (hn : 0 < n) : 0 ≤ plc k n ∧ plc k n < n := by
  have h := tmod_lt (k := k) hn
  unfold plc
  split <;> omega
set_option maxRecDepth 100000 in
set_option maxHeartbeats 4000000 in
theorem place_any (k n : Int) (w : World) (hn : 0 < n) (hn2 : n ≤ 1000000000) : Calls Tryd.prog 6 #[.int .i64 k, .int .i64 n] w fun e w' => e = .returned (.int .i64 (plc k n)) ∧ w' = w := by
  have hr := tmod_lt (k := k) hn
  have n0 : ¬ n = 0 := by omega
  have n1 : (n == 0) = false := by simpa using n0
  have e1 : IntKind.i64.wrap (Int.tmod k n) = Int.tmod k n := by rw [IntKind.wrap_i64]; omega
  by_cases h : Int.tmod k n < 0
  · have hp : Hid (plc k n = Int.tmod k n + n) := if_pos h
    have e2 : IntKind.i64.wrap (Int.tmod k n + n) = Int.tmod k n + n := by rw [IntKind.wrap_i64]; omega
    rw [unhide hp]
    go_enter Tryd.func6, Tryd.ntmps6
    go_wp2
    go_ret
    exact ⟨rfl, rfl⟩
  · have hp : Hid (plc k n = Int.tmod k n) := if_neg h
    have hd : decide (Int.tmod k n < 0) = false := by simp; omega
    rw [unhide hp]
    go_enter Tryd.func6, Tryd.ntmps6
    go_wp2
    go_ret
    exact ⟨rfl, rfl⟩

def fillL (n i : Nat) (d : UInt8) : List UInt8 := List.replicate i d ++ List.replicate (n - i) 0
def FY (V : World) (g n i : Nat) (d : UInt8) : Prop := V.heap[g]? = some (.cells (Lib.byteCells (fillL n i d)).toArray 5)
theorem bc_len (l : List UInt8) : (Lib.byteCells l).length = l.length := by simp [Lib.byteCells]
theorem fill_len {n i : Nat} (d : UInt8) (h : i ≤ n) : (fillL n i d).length = n := by simp [fillL]; omega
theorem fill_step {n i : Nat} (d : UInt8) (h : i < n) : (fillL n i d).set i d = fillL n (i + 1) d := by
  unfold fillL
  obtain ⟨k, hk⟩ : ∃ k, n - i = k + 1 := ⟨n - i - 1, by omega⟩
  rw [hk, show n - (i + 1) = k by omega, List.replicate_succ, List.set_append_right _ _ (by simp)]
  simp [List.replicate_succ', List.append_assoc]
theorem FY.put {V : World} {g n i : Nat} {d : UInt8} (h : FY V g n i d) (hi : i < n) : FY (V.setCell ⟨g, i, none⟩ (.int .u8 d.toNat)) g n (i + 1) d := by
  unfold FY at h ⊢
  rw [set_block h, ← fill_step d hi]
  congr 2
  simp [Lib.byteCells, List.map_set]
theorem FY.cell {V : World} {g n i : Nat} {d : UInt8} (h : FY V g n i d) (hi : i < n) : ∃ u, V.cell? ⟨g, i, none⟩ = some u ∧ V.frozen? ⟨g, i, none⟩ = false := by
  have hl : i < (Lib.byteCells (fillL n i d)).toArray.size := by
    simp only [List.size_toArray, bc_len]
    rw [fill_len d (by omega)]
    exact hi
  exact ⟨_, (blk h).2.1 i _ (Array.getElem?_eq_getElem hl), (blk h).2.2 i⟩
theorem FY.conv {V : World} {g n : Nat} {d : UInt8} (h : FY V g n n d) (hn : 0 < n) (hm : n ≤ 1000000) : (convert 38 9 (.slice (some ⟨g, 0, none⟩) n n)).run Tryd.prog V = .ok (.string ⟨(List.replicate n d).toArray⟩) V := by
  have e : fillL n n d = List.replicate n d := by simp [fillL]
  unfold FY at h
  rw [e] at h
  obtain ⟨g', c, ev, hr⟩ := Nm.conv_row (W := V) (Bc := 0) (v := .slice (some ⟨g, 0, none⟩) n n) (l := List.replicate n d) (n := n) (by simp) hn ⟨by simp [bc_len], .inr ⟨g, n, _, rfl, Nat.zero_le _, h, Nat.le_refl _, by unfold maxLen; omega, by simp [bc_len], by simp [List.take_of_length_le, bc_len]⟩⟩
  exact hr
theorem infB : (Tryd.prog.info? 5).map (fun i => (i.zero, i.size, i.bytes)) = some (some (.int .u8 0), 1, 1) := by kernel_rfl
theorem mkB (n : Nat) (w : World) (hn : n ≤ 1000000) : (Instr.makeSlice 38 (.int .i64 (n : Int)) (.int .i64 (n : Int))).run Tryd.prog w = .ok (.slice (some ⟨w.heap.size, 0, none⟩) n n) (w.alloc (.cells (Lib.byteCells (List.replicate n 0)).toArray 5)) := by
  obtain ⟨i0, hi, hz0, hz1, hz2⟩ := inf_of infB
  have hr := run_make (P := Tryd.prog) w 38 5 i0 _ Tryd.underlying38 hi hz0 .i64 .i64 n n (by omega) (Int.le_refl _) (by rw [hz2]; omega) (by omega)
  rw [hz1] at hr
  simp only [Int.toNat_natCast, Nat.mul_one] at hr
  rw [hr]
  have ea : madeCells (Value.int .u8 0).cells n = (Lib.byteCells (List.replicate n 0)).toArray := by
    apply Array.toList_inj.1
    have ec : (Value.int .u8 0).cells = #[.int .u8 0] := rfl
    rw [ec, toList_madeCells_one]
    simp [Lib.byteCells]
  rw [ea]
end Go.Proofs.YtnkigifcilgmbaaDoor

namespace Go.Proofs.YtnkigifcilgmbaaDoor
open Go Go.RowKit Go.Maps
open _root_.Go.Proofs.YtnkigifcilgmbaaDoor.Nm (IsI pw)
section
variable {X : Exit → Act → World → Prop} {K : Act → World → Prop} {a : Act} {w : World} {dst : Option Tmp} {ty : TypeId} {pos : String} {af : Array Edge} {gd : Option (Nat × Bool)} {k : Nat}
theorem op_conv {s t : TypeId} {x : Operand} {vx v : Value} (hx : a.eval x = vx) (hr : (convert s t vx).run Tryd.prog w = .ok v w) (h : K (a.put dst v) w) : Oper.wp Tryd.prog ⟨dst, .convert s t x, ty, pos, af, gd⟩ a w K X := by
  unfold Oper.wp
  simp [execOp, hx, hr, Oper.upon, h]
set_option maxRecDepth 100000 in
set_option maxHeartbeats 4000000 in
theorem op_bsL {v : Value} {s : ByteArray} {b : Option Addr} {n c : Nat} (hv : a.tmps.getD k undef = .agg #[.slice b n c, .string s]) (h : K (a.put dst (.slice (some ⟨w.heap.size, 0, none⟩) 1 1)) (w.alloc (.cells #[.slice b n c, .string s] 26))) : Oper.wp Tryd.prog ⟨dst, .buildSlice 28 1 #[(0, .tmp k)], ty, pos, af, gd⟩ a w K X := by
  have he : a.eval (.tmp k) = .agg #[.slice b n c, .string s] := hv
  unfold Oper.wp
  simp only [execOp, List.map_toArray, List.map_cons, List.map_nil, he]
  go_simp
  exact h
set_option maxRecDepth 100000 in
set_option maxHeartbeats 4000000 in
theorem op_bsS {s : ByteArray} (hv : a.tmps.getD k undef = .string s) (h : K (a.put dst (.slice (some ⟨w.heap.size, 0, none⟩) 1 1)) (w.alloc (.cells #[.string s] 9))) : Oper.wp Tryd.prog ⟨dst, .buildSlice 29 1 #[(0, .tmp k)], ty, pos, af, gd⟩ a w K X := by
  have he : a.eval (.tmp k) = .string s := hv
  unfold Oper.wp
  simp only [execOp, List.map_toArray, List.map_cons, List.map_nil, he]
  go_simp
  exact h
set_option maxRecDepth 100000 in
set_option maxHeartbeats 4000000 in
theorem op_alL (h : K (a.put dst (.pointer (some ⟨w.heap.size, 0, none⟩))) (w.alloc (.cells #[.slice none 0 0, .string ⟨#[]⟩] 26))) : Oper.wp Tryd.prog ⟨dst, .alloc 26, ty, pos, af, gd⟩ a w K X := by
  unfold Oper.wp
  simp only [execOp]
  go_simp
  exact h
end
theorem enter_row : Enters Tryd.prog 7 := ⟨fun xs w => by go_simp⟩
theorem enter_Sum : Enters Tryd.prog 9 := ⟨fun xs w => by go_simp⟩
def kept16 : List Nat := (List.range 68).filter fun i => !(decide (i = 12) || decide (i = 13) || (decide (47 ≤ i) && decide (i ≤ 55)))
def sp16 (B : Nat) (bv : Value) (bs : ByteArray) (r : Bool) : Nat → World → Value → Prop
  | 0, _, v => v = .agg #[.slice none 0 0, .string ⟨#[48]⟩]
  | 1, w, v => ∃ g, v = .slice (some ⟨g, 0, none⟩) 1 1 ∧ w.heap[g]? = some (.cells #[.slice none 0 0, .string ⟨#[48]⟩] 26)
  | 2, _, v => v = bv
  | 3, _, v => v = .string bs
  | 4, w, v => ∃ g, v = .slice (some ⟨g, 0, none⟩) 1 1 ∧ w.heap[g]? = some (.cells #[.string bs] 9)
  | 5, _, v => ∃ a n c s, v = .tuple #[.agg #[.slice a n c, .string s], .bool r]
  | 6, _, v => ∃ a n c s, v = .tuple #[.agg #[.slice a n c, .string s], .bool r]
  | 7, _, v => ∃ a n c s, v = .agg #[.slice a n c, .string s]
  | 9, w, v => ∃ g x y, v = .pointer (some ⟨g, 0, none⟩) ∧ B ≤ g ∧ w.heap[g]? = some (.cells #[x, y] 26)
  | _, _, _ => True
def pu16 (r : Bool) : Nat → Value → Prop
  | 6, v => ∃ p, v = .tuple #[p, .bool r]
  | 5, v => ∃ p, v = .tuple #[p, .bool r]
  | 8, v => v = .bool r
  | 11, v => v = .bool r
  | _, _ => True
set_option maxRecDepth 100000 in
set_option maxHeartbeats 4000000 in
theorem dig_r16 {Q : Exit → Act → World → Prop} {a0 : Act} {w0 : World} {bv : Value} {bs : ByteArray} (hN : a0.tmps.size = 68) (h8 : a0.tmps[8]? = some bv)
    (hcv : ∀ w, Below w0.heap.size w0 w → (convert 38 9 bv).run Tryd.prog w = .ok (.string bs) w) (hT : Nm.Tab w0)
    (hend : ∀ (a : Act) (w : World), a.defers = a0.defers → a.tmps.size = 68 → (∀ k, k ∈ kept16 → a.tmps[k]? = a0.tmps[k]?) → a.tmps.getD 13 undef = .bool (sumAll [([], ⟨#[48]⟩)] [bs]).isSome → Below w0.heap.size w0 w → Q .normal a w) :
    (Code.region 16 (Nm.regionOf Tryd.f4 16).toArray true).wp Tryd.prog Q a0 w0 := by
  have hD : Below w0.heap.size w0 w0.drew := (Below.refl _ w0).drew
  have hl : (Nm.regionOf Tryd.f4 16).length = 12 := by kernel_rfl
  refine wp_region_any (by kernel_rfl) ?_
  refine one_store2 (l := (Nm.regionOf Tryd.f4 16)) (w0 := w0.drew) 68 w0.heap.size 10 7 kept16 [0, 1, 2, 3, 4, 5, 6, 7, 9] (sp16 w0.heap.size bv bs (sumAll [([], ⟨#[48]⟩)] [bs]).isSome) (pu16 (sumAll [([], ⟨#[48]⟩)] [bs]).isSome) (fun w _ => Below w0.heap.size w0 w) (by kernel_rfl) hN (Nat.le_refl _) (by rw [hl]; omega) (by kernel_rfl) (by kernel_rfl) (by kernel_rfl) (by kernel_rfl) (by decide) (by decide) (by kernel_rfl) ?_ (fun _ => trivial) ?_ ?_ ?_ ?_
  · intro j w w' v h hb
    match j, h with
    | 0, h => exact h
    | 1, ⟨g, e, hg⟩ => exact ⟨g, e, (hb.block g (blk hg).1).trans hg⟩
    | 2, h => exact h
    | 3, h => exact h
    | 4, ⟨g, e, hg⟩ => exact ⟨g, e, (hb.block g (blk hg).1).trans hg⟩
    | 5, h => exact h
    | 6, h => exact h
    | 7, h => exact h
    | 8, h => trivial
    | 9, ⟨g, x, y, e, hB, hg⟩ => exact ⟨g, x, y, e, hB, (hb.block g (blk hg).1).trans hg⟩
    | j + 10, h => trivial
  · intro j hj a w hb hn hk hp
    have hb0 : Below w0.heap.size w0 w := hD.trans hb
    have k8 : a.eval (.tmp 8) = bv := getD_of ((hk 8 (by decide)).trans h8)
    have hi' : j = 0 ∨ j = 1 ∨ j = 2 ∨ j = 3 ∨ j = 4 ∨ j = 5 ∨ j = 6 ∨ j = 7 ∨ j = 9 := by simpa using hj
    rcases hi' with rfl | rfl | rfl | rfl | rfl | rfl | rfl | rfl | rfl
    · refine st_want (wnone rfl) (op_call enter_row ?_)
      have hargs : (#[Operand.const (.string ⟨#[48]⟩), .const (.slice none 0 0)]).map a.eval = #[.string ⟨#[48]⟩, .slice none 0 0] := by
        simp only [List.map_toArray, List.map_cons, List.map_nil, Act.eval]
      rw [hargs]
      refine (row_any none 0 0 ⟨#[48]⟩ w).mono ?_
      rintro e w' ⟨rfl, hb'⟩
      exact ⟨_, rfl, _, rfl, hb', rfl, trivial⟩
    · have e : a.tmps.getD 48 undef = .agg #[.slice none 0 0, .string ⟨#[48]⟩] := hp 0 rfl (by decide)
      exact st_want (wnone rfl) (op_bsL (v := undef) e ⟨_, rfl, (Below.refl _ w).alloc (Nat.le_refl _) _, ⟨w.heap.size, rfl, (MapKept.heap_alloc w _).1⟩, trivial⟩)
    · exact st_want (wnone rfl) (op_move ⟨_, rfl, Below.refl _ _, k8, trivial⟩)
    · have e : a.eval (.tmp 50) = bv := hp 2 rfl (by decide)
      exact st_want (wnone rfl) (op_conv e (hcv w hb0) ⟨_, rfl, Below.refl _ _, rfl, trivial⟩)
    · have e : a.tmps.getD 51 undef = .string bs := hp 3 rfl (by decide)
      exact st_want (wnone rfl) (op_bsS e ⟨_, rfl, (Below.refl _ w).alloc (Nat.le_refl _) _, ⟨w.heap.size, rfl, (MapKept.heap_alloc w _).1⟩, trivial⟩)
    · obtain ⟨g, e1, hg⟩ := hp 1 rfl (by decide)
      obtain ⟨h, e2, hh⟩ := hp 4 rfl (by decide)
      have e1' : a.tmps.getD 49 undef = .slice (some ⟨g, 0, none⟩) 1 1 := e1
      have e2' : a.tmps.getD 52 undef = .slice (some ⟨h, 0, none⟩) 1 1 := e2
      refine st_want (wnone rfl) (op_call enter_Sum ?_)
      have hargs : (#[Operand.tmp 49, .tmp 52]).map a.eval = #[.slice (some ⟨g, 0, none⟩) 1 1, .slice (some ⟨h, 0, none⟩) 1 1] := by
        simp only [List.map_toArray, List.map_cons, List.map_nil, Act.eval]
        rw [e1', e2']
      rw [hargs]
      refine (Sum_any (w := w) (B := w.heap.size) (n := 1) (cL := 1) (nB := 1) (cB := 1) (ls := [([], ⟨#[48]⟩)]) (bs := [bs]) ⟨Nat.le_refl _, by omega, fun _ => ⟨g, 0, rfl, (blk hg).1, fun j hj l hl => by
        obtain rfl : j = 0 := by omega
        obtain rfl : ([], ⟨#[48]⟩) = l := by simpa using hl
        exact ⟨.slice none 0 0, .string ⟨#[48]⟩, fun t u hu => by
          rw [show 0 + 0 * 2 + t = t by omega]
          exact (blk hg).2.1 t u (by simpa using hu), none, 0, 0, rfl, rfl, Nat.le_refl _, by omega, fun h => absurd rfl h⟩⟩⟩ rfl (BA.mk (bs := [bs]) hh (fun j s hs => by
          obtain rfl : j = 0 := by
            cases j with
            | zero => rfl
            | succ j => simp at hs
          obtain rfl : bs = s := by simpa using hs
          rfl) (by simp)) rfl (Nat.le_refl _) (by omega) (fun l hl => by simp at hl; subst hl; simp) (Nm.Tab.below hT hb0)).mono ?_
      rintro e w' ⟨r, rfl, hb', ⟨ra, rn, rc, rs, rfl⟩, -⟩
      exact ⟨_, rfl, _, rfl, hb', ⟨ra, rn, rc, rs, rfl⟩, ⟨_, rfl⟩⟩
    · obtain ⟨ra, rn, rc, rs, e⟩ := hp 5 rfl (by decide)
      have e' : a.eval (.tmp 53) = _ := e
      exact st_want (wnone rfl) (op_move ⟨_, rfl, Below.refl _ _, ⟨ra, rn, rc, rs, e'⟩, ⟨_, e'⟩⟩)
    · obtain ⟨ra, rn, rc, rs, e⟩ := hp 6 rfl (by decide)
      exact st_want (wnone rfl) (op_extractA e rfl ⟨_, rfl, Below.refl _ _, ⟨ra, rn, rc, rs, rfl⟩, trivial⟩)
    · exact st_want (wnone rfl) (op_alL ⟨_, rfl, (Below.refl _ w).alloc (Nat.le_refl _) _, ⟨w.heap.size, _, _, rfl, hb0.size, (MapKept.heap_alloc w _).1⟩, trivial⟩)
  · intro j hj hj1 hj2 a w hn hk hp
    rw [hl] at hj
    have hj1' : ¬ (j = 0 ∨ j = 1 ∨ j = 2 ∨ j = 3 ∨ j = 4 ∨ j = 5 ∨ j = 6 ∨ j = 7 ∨ j = 9) := by simpa using hj1
    have hi' : j = 8 ∨ j = 11 := by omega
    rcases hi' with rfl | rfl
    · obtain ⟨p, e⟩ := hp 6 rfl
      exact st_want (wnone rfl) (op_extractA e rfl ⟨_, rfl, rfl, rfl⟩)
    · have e : a.eval (.tmp 55) = .bool _ := hp 8 rfl
      exact st_want (wnone rfl) (op_assign ⟨_, rfl, rfl, e⟩)
  · intro a w hb hn hk hp
    have hb0 : Below w0.heap.size w0 w := hD.trans hb
    obtain ⟨ra, rn, rc, rs, e7⟩ := hp 7 (by decide)
    obtain ⟨g, x, y, e9, hB, hg⟩ := hp 9 (by decide)
    have e3 : a.eval (.tmp 54) = .agg #[.slice ra rn rc, .string rs] := e7
    have e4 : a.eval (.tmp 12) = .pointer (some ⟨g, 0, none⟩) := e9
    have r1 : w.cell? ⟨g, 0, none⟩ = some x := (blk hg).2.1 0 _ rfl
    have r2 : w.cell? ⟨g, 1, none⟩ = some y := (blk hg).2.1 1 _ rfl
    have f1 := (blk hg).2.2 0
    have f2 := (blk hg).2.2 1
    show Oper.wp Tryd.prog ⟨none, .store 26 (.tmp 12) (.tmp 54), _, _, _, _⟩ a w _ _
    unfold Oper.wp
    simp only [execOp, e3, e4]
    simp [go_sem, r1, r2, f1, f2]
    exact (hb0.setCell hB _).setCell hB _
  · intro a w hd hn hk hpu hJ
    exact hend a w hd hn hk (hpu 11 (by rw [hl]; omega)) hJ
end Go.Proofs.YtnkigifcilgmbaaDoor
