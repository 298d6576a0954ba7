/- avowlaw10: known() is true. -/
import Derived.Test.YthgdmppmjnmiiaaGreatDoorZAN
import Derived.Maps.AppendAt
import Derived.Deep.QuietTactic
import Derived.BigQuiet
set_option linter.unusedVariables false
set_option linter.unusedSimpArgs false

/- Package farkas: a refutation that is a sum, checked. -/
namespace Go.Proofs.YthgdmppmjnmiiaaGreatDoor
open Go Go.RowKit Go.Maps
open _root_.Go.Proofs.YthgdmppmjnmiiaaGreatDoor.Nm (IsI pw)
/-- The rows, so many times each, say that 0 is below 0. -/
def Refuted (rs : List (List (ByteArray × Int) × Int)) (bs : List ByteArray) : Prop := ∃ q, sumO rs bs = some q ∧ (∀ s : ByteArray, s.size ≤ maxLen → q.1 s = 0) ∧ q.2 < 0
def FPost (p : Prop) (cb : Nat) (w : World) (e : Ending) (w' : World) : Prop := ∃ b : Bool, e = .returned (.bool b) ∧ (b = true ↔ p) ∧ But cb w w'
theorem But.trans {r : Nat} {a b c : World} (h : But r a b) (k : But r b c) : But r a c :=
  ⟨k.os.trans h.os, k.tape.trans h.tape, k.output.trans h.output, Nat.le_trans h.size k.size, fun j hj hr => (k.block j (Nat.lt_of_lt_of_le hj h.size) hr).trans (h.block j hj hr)⟩
set_option maxRecDepth 100000 in
set_option maxHeartbeats 4000000 in
theorem refutes_sum {w : World} {cb fb fo nR cR nB cB : Nat} {left depth : Int} {aR aB : Option Addr} {x2 x3 x4 : Value} {rs : List (List (ByteArray × Int) × Int)} {bs : List ByteArray} {ls : List (List (ByteArray × ByteArray) × ByteArray)}
    (hcb : w.heap[cb]? = some (.cells #[.int .i64 left] 72)) (hleft : 1 ≤ left ∧ left ≤ 33554432) (hdep : 1 ≤ depth ∧ depth ≤ 200) (hfb : fb < w.heap.size) (hfc : fb ≠ cb) (hF : w.rangeAt fb fo [.slice aB nB cB, .bool false, x2, x3, x4])
    (hR : Row w.heap.size aR nR cR 3 (RAt w w.heap.size rs)) (hnR : nR = rs.length) (hS : Row w.heap.size aB nB cB 1 (BA w bs)) (hnB : nB = bs.length) (hn : nR ≤ 1000) (hrl : readL ls = some rs) (hC : ∀ l ∈ ls, l.1.length ≤ 1000) :
    Calls Tryz.prog 26 #[.pointer (some ⟨cb, 0, none⟩), .slice aR nR cR, .pointer (some ⟨fb, fo, none⟩), .int .i64 depth] w (FPost (Refuted rs bs) cb w) := by
  have hcl : cb < w.heap.size := (Array.getElem?_eq_some_iff.1 hcb).1
  have x0 : w.cell? ⟨cb, 0, none⟩ = some (.int .i64 left) := (blk hcb).2.1 0 _ rfl
  have xf := (blk hcb).2.2 0
  obtain ⟨A, eA⟩ : ∃ A, w.setCell ⟨cb, 0, none⟩ (.int .i64 (left - 1)) = A := ⟨_, rfl⟩
  have hpt : PutAt cb w A := by rw [← eA]; exact (PutAt.refl cb w).set 0 _
  have hcA : A.heap[cb]? = some (.cells #[.int .i64 (left - 1)] 72) := by rw [← eA]; exact set_block hcb _
  have hNo : NoS #[.int .i64 left] := fun o u hu hs => by
    match o, hu with
    | 0, hu => simp at hu; subst hu; rcases hs with ⟨s, e⟩ | ⟨s, e⟩ <;> cases e
    | o + 1, hu => simp at hu
  have hk := noS_keep (B := w.heap.size) hpt hcb hNo
  have hk2 : ∀ b, b < w.heap.size → (∃ o u, w.cell? ⟨b, o, none⟩ = some u ∧ Str u) → A.heap[b]? = w.heap[b]? ∧ b < A.heap.size ∧ b < A.heap.size := fun b hb h => ⟨(hk b hb h).1, (hk b hb h).2.2, (hk b hb h).2.2⟩
  have hFA : ∀ (j : Nat) v, ([.slice aB nB cB, .bool false, x2, x3, x4] : List Value)[j]? = some v → A.cell? ⟨fb, fo + j, none⟩ = some v := fun j v hv => (World.cell?_of_block (w := w) (a := ⟨fb, fo + j, none⟩) (hpt.block fb hfc)).trans (hF j v hv)
  have hSA : Row A.heap.size aB nB cB 1 (BA A bs) := by
    refine ⟨hS.1, hS.2.1, fun h0 => ?_⟩
    obtain ⟨b, off, e, hb, hj⟩ := hS.2.2 h0
    have hkb := hk2 b hb ⟨off + 0 * 1, _, hj 0 (by omega) _ (List.getElem?_eq_getElem (by omega)), .inl ⟨_, rfl⟩⟩
    exact ⟨b, off, e, hkb.2.1, fun j hjn s hs => (World.cell?_of_block (w := w) (a := ⟨b, off + j * 1, none⟩) hkb.1).trans (hj j hjn s hs)⟩
  have hRA : Row A.heap.size aR nR cR 3 (RAt A A.heap.size rs) := by
    refine ⟨hR.1, hR.2.1, fun h0 => ?_⟩
    obtain ⟨b, off, e, hb, hj⟩ := hR.2.2 h0
    have hbc : b ≠ cb := by
      rintro rfl
      obtain ⟨x, y, z, hr, _⟩ := hj 0 (by omega) _ (List.getElem?_eq_getElem (by omega))
      have := hr 1 _ rfl
      rw [cell_arr hcb] at this
      have h2 := hr 2 _ rfl
      rw [cell_arr hcb] at h2
      simp at h2
    refine ⟨b, off, e, by rw [hpt.size]; exact hb, fun j hjn r hr => ?_⟩
    obtain ⟨x, y, z, h1, h2⟩ := hj j hjn r hr
    exact ⟨x, y, z, fun t u ht => (World.cell?_of_block (w := w) (a := ⟨b, off + j * 3 + t, none⟩) (hpt.block b hbc)).trans (h1 t u ht), h2.keep hk2⟩
  have HSum := hide (sumOf_any (X := XX) hRA hnR hSA hnB (Nat.le_refl _) hn (rows_ok hrl hC) (fun s z hz => Int.lt_of_lt_of_le (by have := numT_bound (by omega) hz; omega) (pow_pw (d := 1600) (k := 3000) (by omega))) big_X)
  have f0 : A.cell? ⟨fb, fo, none⟩ = some (.slice aB nB cB) := hFA 0 _ rfl
  have f1 : A.cell? ⟨fb, fo + 1, none⟩ = some (.bool false) := hFA 1 _ rfl
  have c0 : A.cell? ⟨cb, 0, none⟩ = some (.int .i64 (left - 1)) := (blk hcA).2.1 0 _ rfl
  have HE := hide eA
  have HP := hide (show But cb w A from ⟨hpt.os, hpt.tape, hpt.output, Nat.le_of_eq hpt.size.symm, fun k _ hk => hpt.block k hk⟩)
  have g1 : decide ((200 : Int) < depth) = false := by simp; omega
  have g2 : decide (left - 1 < (0 : Int)) = false := by simp; omega
  have g3 : IntKind.i64.wrap (left - 1) = left - 1 := by rw [IntKind.wrap_i64]; omega
  rw [← eA] at f0 f1 c0
  clear hcb hdep hfb hfc hF hR hnR hS hnB hn hrl hC hcl eA hpt hcA hNo hk hk2 hFA hSA hRA
  go_enter Tryz.func26, Tryz.ntmps26
  go_wp2_with fail
  rw [unhide HE]
  refine (unhide HSum).mono ?_
  rintro e w3 ⟨r, rfl, hb3, ⟨mx, si, sa, sl, sc, rfl⟩, hq⟩
  obtain ⟨w4, e4, hb4, hs4, hc4, hh4⟩ := box_new w3 #[.map mx, .int .i64 si, .slice sa sl sc] 51
  have hB4 : But cb w w4 := (unhide HP).trans ((But.of hb3 (Nat.le_refl _)).trans (But.of hb4 (Nat.le_refl _)))
  have s0 : w4.cell? ⟨w3.heap.size, 0, none⟩ = some (.map mx) := (blk hh4).2.1 0 _ rfl
  have s1 : w4.cell? ⟨w3.heap.size, 1, none⟩ = some (.int .i64 si) := (blk hh4).2.1 1 _ rfl
  have s2 : w4.cell? ⟨w3.heap.size, 2, none⟩ = some (.slice sa sl sc) := (blk hh4).2.1 2 _ rfl
  have HE4 := hide e4
  have H4 := hide (And.intro hB4 (And.intro hb4 hq))
  rw [← e4] at s0 s1 s2
  clear hb3 hq e4 hb4 hs4 hc4 hh4 hB4 HSum HE HP f0 f1 c0 x0 xf g1 g2 g3
  cases hso : sumO rs bs with
  | none =>
    clear s0 s1 s2
    go_wp2
    go_ret
    rw [unhide HE4]
    refine ⟨false, rfl, ⟨fun h => (by cases h), fun ⟨q, h, _⟩ => by rw [hso] at h; cases h⟩, (unhide H4).1⟩
  | some q =>
    obtain ⟨hB4, hb4, hq⟩ := unhide H4
    obtain ⟨⟨D, mb, nn, i', a', l', c', ev, hom, hnn, hmf, hI⟩, hfb, hkb⟩ := hq q hso
    obtain ⟨rfl, rfl, rfl, rfl, rfl⟩ : mx = some mb ∧ i' = si ∧ a' = sa ∧ l' = sl ∧ c' = sc := by simp at ev; exact ⟨ev.1, ev.2.1.symm, ev.2.2.1.symm, ev.2.2.2.1.symm, ev.2.2.2.2.symm⟩
    have hom4 : w4.ownsMap Tryz.prog 9 R0 mb nn D := by
      obtain ⟨es, cl, hm, F, hs, hD⟩ := hom
      exact ⟨es, cl, (hb4.block mb (Array.getElem?_eq_some_iff.1 hm).1).trans hm, F, hs, hD⟩
    have HF := hide (isFalse_any hom4 (hI.more hb4 hb4.size) (by omega))
    have hz := size_zero hom4 (hmf.more hb4)
    have hiff : (decide (Maps.size D = 0) && decide (q.2 < 0)) = true ↔ Refuted rs bs := by
      simp only [Bool.and_eq_true, decide_eq_true_eq]
      constructor
      · rintro ⟨h1, h2⟩
        exact ⟨q, hso, hz.1 h1, h2⟩
      · rintro ⟨q', h, h1, h2⟩
        rw [hso] at h
        injection h with h
        subst h
        exact ⟨hz.2 h1, h2⟩
    obtain ⟨bb, hbb⟩ : ∃ bb, (decide (Maps.size D = 0) && decide (q.2 < 0)) = bb := ⟨_, rfl⟩
    rw [hbb] at HF hiff
    have HI := hide hiff
    clear hB4 hb4 hq ev hom hnn hmf hI hfb hkb hom4 hz hiff hbb hso
    go_wp2_with fail
    rw [unhide HE4]
    refine (unhide HF).mono ?_
    rintro e w5 ⟨rfl, hb5⟩
    have HB5 := hide ((unhide H4).1.trans (But.of hb5 (Nat.le_refl _)))
    clear hb5 HF s0 s1 s2
    go_wp2
    go_ret
    exact ⟨bb, rfl, unhide HI, unhide HB5⟩
/-- What Check says of a refutation that is a sum. -/
def CPost (ls : List (List (ByteArray × ByteArray) × ByteArray)) (bs : List ByteArray) (w : World) (e : Ending) (w' : World) : Prop := ∃ z : Int, e = .returned (.int .i64 z) ∧ Below w.heap.size w w' ∧ (readL ls = none → z = 90) ∧ ∀ rs, readL ls = some rs → (Refuted rs bs → z = 0) ∧ (¬ Refuted rs bs → z = 100)
set_option maxRecDepth 100000 in
set_option maxHeartbeats 4000000 in
theorem Check_sum {w : World} {aL aB : Option Addr} {n cL nB cB nr cr nl cl : Nat} {ar al : Option Addr} {kr : ByteArray} {ls : List (List (ByteArray × ByteArray) × ByteArray)} {bs : List ByteArray} (hL : Row w.heap.size aL n cL 2 (LAt w w.heap.size ls)) (hnl : n = ls.length) (hS : Row w.heap.size aB nB cB 1 (BA w bs)) (hnB : nB = bs.length) (hn : n ≤ 1000) (hC : ∀ l ∈ ls, l.1.length ≤ 1000) : Calls Tryz.prog 12 #[.slice aL n cL, .agg #[.slice aB nB cB, .bool false, .slice ar nr cr, .string kr, .slice al nl cl]] w (CPost ls bs w) := by
  obtain ⟨A, eA, hbA, hsA, hcA, hhA⟩ := box_new w #[.slice aB nB cB, .bool false, .slice ar nr cr, .string kr, .slice al nl cl] 31
  have hLA : Row w.heap.size aL n cL 2 (LAt A w.heap.size ls) := hL.mono (Nat.le_refl _) fun b o j hb h l hl => by
    obtain ⟨x, y, h1, h2⟩ := h l hl
    exact ⟨x, y, rangeAt_below h1 hb hbA, h2.more hbA⟩
  have HR := hide (readRows_any hLA hnl hbA.size (by omega) (fun l hl => by have := hC l hl; omega))
  have HE := hide eA
  have HB := hide (And.intro hbA (And.intro hsA hhA))
  have HC := hide (And.intro hS (And.intro hnB (And.intro hn (And.intro hC hnl))))
  clear hL hnl hS hnB hn hC eA hbA hsA hcA hhA hLA
  go_enter Tryz.func12, Tryz.ntmps12
  go_wp2_with fail
  rw [unhide HE]
  refine (unhide HR).mono ?_
  rintro e w2 ⟨aR, nR, cR, rfl, hb2, hrs⟩
  obtain ⟨hbA, hsA, hhA⟩ := unhide HB
  have hh2 := (hb2.block w.heap.size (by omega)).trans hhA
  have hb02 : Below w.heap.size w w2 := hbA.trans (hb2.mono hbA.size)
  have H2 := hide (And.intro hh2 (And.intro hb02 hrs))
  clear hbA hsA hhA hh2 hb02 hb2 hrs HR HE HB
  cases hrl : readL ls with
  | none =>
    go_wp2
    go_ret
    exact ⟨90, rfl, (unhide H2).2.1, fun _ => rfl, fun rs h => by rw [hrl] at h; cases h⟩
  | some rs =>
    obtain ⟨hh2, hb02, hrs⟩ := unhide H2
    obtain ⟨hS, hnB, hn, hC, hnl⟩ := unhide HC
    obtain ⟨k1, k2, k3⟩ := hrs rs hrl
    have hlr := allO_len hrl
    obtain ⟨w4, e4, hb4, hs4, hc4, hh4⟩ := box_new w2 #[.int .i64 33554432] 72
    have hb04 : Below w.heap.size w w4 := hb02.trans (hb4.mono hb02.size)
    have hS4 : Row w4.heap.size aB nB cB 1 (BA w4 bs) := hS.mono hb04.size fun b o j hb h s hs => (hb04.cell (p := ⟨b, o, none⟩) hb).trans (h s hs)
    have hR4 : Row w4.heap.size aR nR cR 3 (RAt w4 w4.heap.size rs) := k3.mono hb4.size fun b o j hb h r hr => by
      obtain ⟨x, y, z, h1, h2⟩ := h r hr
      exact ⟨x, y, z, rangeAt_below h1 hb hb4, h2.more hb4 hb4.size (Nat.le_refl _)⟩
    have hw2 : w.heap.size < w2.heap.size := (Array.getElem?_eq_some_iff.1 hh2).1
    have hF4 := range_block ((hb4.block w.heap.size hw2).trans hh2 : w4.heap[w.heap.size]? = some (.cells ([.slice aB nB cB, .bool false, .slice ar nr cr, .string kr, .slice al nl cl] : List Value).toArray 31))
    have HRef := hide (refutes_sum (w := w4) (cb := w2.heap.size) (fb := w.heap.size) (fo := 0) (left := 33554432) (depth := 1) hh4 (by omega) (by omega) (by omega) (by omega) hF4 hR4 k1 hS4 hnB (by omega) hrl hC)
    have HE4 := hide e4
    have HB4 := hide (And.intro hb04 (And.intro hb02 hs4))
    have HRL := hide hrl
    clear hh2 hb02 hrs hS hnB hn hC hnl k1 k2 k3 hlr e4 hb4 hs4 hc4 hh4 hb04 hS4 hR4 hw2 hF4 hrl
    go_wp2_with fail
    rw [unhide HE4]
    refine (unhide HRef).mono ?_
    rintro e w5 ⟨b, rfl, hbi, hbut⟩
    have hb5 : Below w.heap.size w w5 := by
      obtain ⟨hb04, hb02, hs4⟩ := unhide HB4
      have h2 := hb02.size
      exact hb04.trans ⟨hbut.os, hbut.tape, hbut.output, hbut.size, fun k hk => hbut.block k (by omega) (by omega)⟩
    have H5 := hide (And.intro hb5 hbi)
    clear hb5 hbi hbut HRef
    cases b with
    | false =>
      go_wp2
      go_ret
      obtain ⟨hb5, hbi⟩ := unhide H5
      refine ⟨100, rfl, hb5, fun h => (by rw [unhide HRL] at h; cases h), fun rs' h => ?_⟩
      rw [unhide HRL] at h
      injection h with h
      subst h
      exact ⟨fun h => (by simp [h] at hbi), fun _ => rfl⟩
    | true =>
      go_wp2
      go_ret
      obtain ⟨hb5, hbi⟩ := unhide H5
      refine ⟨0, rfl, hb5, fun h => (by rw [unhide HRL] at h; cases h), fun rs' h => ?_⟩
      rw [unhide HRL] at h
      injection h with h
      subst h
      exact ⟨fun _ => rfl, fun h => absurd (by simpa using hbi) h⟩
set_option maxRecDepth 100000 in
theorem row_any (a : Option Addr) (n c : Nat) (k : ByteArray) (w : World) : Calls Tryz.prog 11 #[.string k, .slice a n c] w (VPost (.agg #[.slice a n c, .string k]) w) := by
  go_enter Tryz.func11, Tryz.ntmps11
  go_wp2
  obtain ⟨A, eA, hbA, hsA, hcA, hhA⟩ := box_new w #[.slice a n c, .string k] 28
  rw [eA]
  exact bodyPost_ret (res_row (cs := [.slice a n c, .string k]) rfl rfl (range_block hhA) rfl rfl rfl) rfl ⟨rfl, hbA⟩
end Go.Proofs.YthgdmppmjnmiiaaGreatDoor

/- Package farkas: refutations as trees; rows to which one is appended. -/
namespace Go.Proofs.YthgdmppmjnmiiaaGreatDoor
open Go Go.RowKit Go.Maps
open _root_.Go.Proofs.YthgdmppmjnmiiaaGreatDoor.Nm (IsI pw)
/-- A refutation, as a tree. -/
structure Fk where
  sum : List ByteArray
  split : Bool
  C : List (ByteArray × ByteArray)
  K : ByteArray
  l : List Fk
/-- A row's opposite. -/
def opp (r : List (ByteArray × Int) × Int) : List (ByteArray × Int) × Int := (r.1.map fun p => (p.1, -p.2), -r.2 - 1)
/-- Its number's text is short. -/
def shortI (z : Int) : Bool := decide ((Lib.trimPrefix (Lib.itoa z) [45]).length ≤ 400)
/-- A refutation lies in memory below B, no deeper than so. -/
def FkAt (w : World) (B : Nat) : Nat → Nat → Nat → Fk → Prop
  | 0, _, _, _ => False
  | d + 1, b, o, f => b < B ∧ f.C.length ≤ 1000 ∧ ∃ aS nS cS aC nC cC aL nL cL, w.rangeAt b o [.slice aS nS cS, .bool f.split, .slice aC nC cC, .string f.K, .slice aL nL cL] ∧ nS = f.sum.length ∧ Row B aS nS cS 1 (BA w f.sum) ∧ nC = f.C.length ∧ Row B aC nC cC 2 (CA w f.C) ∧ nL = f.l.length ∧ Row B aL nL cL 5 (fun b o j => ∀ g, f.l[j]? = some g → FkAt w B d b o g)
theorem BA.more {w w' : World} {B : Nat} {bs : List ByteArray} {b o j : Nat} (hb : b < B) (hw : Below B w w') (h : BA w bs b o j) : BA w' bs b o j := fun s hs => (hw.cell (p := ⟨b, o, none⟩) hb).trans (h s hs)
theorem CA.more {w w' : World} {B : Nat} {C : List (ByteArray × ByteArray)} {b o j : Nat} (hb : b < B) (hw : Below B w w') (h : CA w C b o j) : CA w' C b o j := fun c hc => rangeAt_below (h c hc) hb hw
theorem FkAt.more {w w' : World} {B : Nat} (hw : Below B w w') : ∀ (d b o : Nat) (f : Fk), FkAt w B d b o f → FkAt w' B d b o f
  | 0, _, _, _, h => h
  | d + 1, b, o, f, ⟨hb, hC, aS, nS, cS, aC, nC, cC, aL, nL, cL, h1, h2, h3, h4, h5, h6, h7⟩ => by
    refine ⟨hb, hC, aS, nS, cS, aC, nC, cC, aL, nL, cL, rangeAt_below h1 hb hw, h2, h3.mono (Nat.le_refl _) fun b o j hb h => h.more hb hw, h4, h5.mono (Nat.le_refl _) fun b o j hb h => h.more hb hw, h6, h7.mono (Nat.le_refl _) fun b o j hb h g hg => FkAt.more hw d b o g (h g hg)⟩
/-- Numbers and names of a row are as they may be. -/
def RowOk (r : List (ByteArray × Int) × Int) : Prop := r.1.length ≤ 1000 ∧ r.2.natAbs < tenTo 400 ∧ ∀ p ∈ r.1, p.2.natAbs < tenTo 400 ∧ p.1.size ≤ 200 ∧ p.1.size ≠ 0
theorem RowOk.of {C : List (ByteArray × ByteArray)} {K : ByteArray} {r : List (ByteArray × Int) × Int} (h : readR C K = some r) (hC : C.length ≤ 1000) : RowOk r := by
  obtain ⟨k1, k2, k3⟩ := readR_mem h
  exact ⟨by omega, k2, k3⟩
theorem RowOk.all {ls : List (List (ByteArray × ByteArray) × ByteArray)} {rs : List (List (ByteArray × Int) × Int)} (h : readL ls = some rs) (hC : ∀ l ∈ ls, l.1.length ≤ 1000) : ∀ r ∈ rs, RowOk r := fun r hr => by
  obtain ⟨l, hl, e⟩ := allO_mem h r hr
  exact RowOk.of e (hC l hl)
/-- Rows in memory of their own. -/
def RowsM (w : World) (B g c : Nat) (rs : List (List (ByteArray × Int) × Int)) : Prop := ∃ cs, B ≤ g ∧ w.heap[g]? = some (.cells cs 68) ∧ rs.length ≤ c ∧ cs.size = c * 3 ∧ NoS cs ∧ ∀ j, RAt w w.heap.size rs g (j * 3) j
theorem RowsM.row {w : World} {B g c : Nat} {rs : List (List (ByteArray × Int) × Int)} (h : RowsM w B g c rs) (hn : rs.length ≤ 1000) : Row w.heap.size (some ⟨g, 0, none⟩) rs.length c 3 (RAt w w.heap.size rs) := by
  obtain ⟨cs, h1, h2, h3, h4, h5, h6⟩ := h
  refine ⟨h3, by omega, fun _ => ⟨g, 0, rfl, (Array.getElem?_eq_some_iff.1 h2).1, fun j _ => ?_⟩⟩
  rw [Nat.zero_add]
  exact h6 j
/-- What bears strings or digits stands. -/
def KeepS (w w' : World) : Prop := ∀ b, b < w.heap.size → (∃ o u, w.cell? ⟨b, o, none⟩ = some u ∧ Str u) → w'.heap[b]? = w.heap[b]? ∧ b < w'.heap.size ∧ b < w'.heap.size
theorem KeepS.of {w w' : World} (h : Below w.heap.size w w') : KeepS w w' := fun b hb _ => ⟨h.block b hb, Nat.lt_of_lt_of_le hb h.size, Nat.lt_of_lt_of_le hb h.size⟩
theorem KeepS.fr {w w' : World} {q g : Nat} {cs ds : Array Value} {t u : TypeId} (h : Fr q g w w') (hq : w.heap[q]? = some (.cells cs t)) (hc : NoS cs) (hg : w.heap[g]? = some (.cells ds u)) (hd : NoS ds) : KeepS w w' := fun b hb ⟨o, x, hx, hs⟩ => by
  have h1 : b ≠ q := by
    rintro rfl
    rw [cell_arr hq] at hx
    exact hc o x hx hs
  have h2 : b ≠ g := by
    rintro rfl
    rw [cell_arr hg] at hx
    exact hd o x hx hs
  exact ⟨h.block b hb h1 h2, Nat.lt_of_lt_of_le hb h.size, Nat.lt_of_lt_of_le hb h.size⟩
theorem RowsM.keep {w w' : World} {B g c : Nat} {rs : List (List (ByteArray × Int) × Int)} (h : RowsM w B g c rs) (hg : w'.heap[g]? = w.heap[g]?) (hk : KeepS w w') : RowsM w' B g c rs := by
  obtain ⟨cs, h1, h2, h3, h4, h5, h6⟩ := h
  refine ⟨cs, h1, hg.trans h2, h3, h4, h5, fun j r hr => ?_⟩
  obtain ⟨x, y, z, k1, k2⟩ := h6 j r hr
  exact ⟨x, y, z, fun t u hu => (World.cell?_of_block (w := w) (a := ⟨g, j * 3 + t, none⟩) hg).trans (k1 t u hu), k2.keep hk⟩
theorem RowsM.more {w w' : World} {B g c : Nat} {rs : List (List (ByteArray × Int) × Int)} (h : RowsM w B g c rs) (hb : Below w.heap.size w w') : RowsM w' B g c rs := h.keep (hb.block g (Array.getElem?_eq_some_iff.1 h.choose_spec.2.1).1) (.of hb)
theorem RowsM.front {w : World} {B g c : Nat} {rs : List (List (ByteArray × Int) × Int)} {r : List (ByteArray × Int) × Int} (h : RowsM w B g c (rs ++ [r])) : RowsM w B g c rs := by
  obtain ⟨cs, h1, h2, h3, h4, h5, h6⟩ := h
  refine ⟨cs, h1, h2, by simp at h3; omega, h4, h5, fun j x hx => h6 j x ?_⟩
  rw [List.getElem?_append_left (List.getElem?_eq_some_iff.1 hx).1]
  exact hx
theorem NoS.mem {cs : Array Value} : NoS cs ↔ ∀ u ∈ cs.toList, ¬ Str u := by
  constructor
  · intro h u hu
    obtain ⟨i, hi⟩ := List.getElem?_of_mem hu
    exact h i u (by simpa using hi)
  · intro h o u hu
    exact h u (List.mem_of_getElem? (by simpa using hu))
end Go.Proofs.YthgdmppmjnmiiaaGreatDoor

/- Package farkas: opposite, its regions. -/
namespace Go.Proofs.YthgdmppmjnmiiaaGreatDoor
open Go Go.RowKit Go.Maps
open _root_.Go.Proofs.YthgdmppmjnmiiaaGreatDoor.Nm (IsI pw)
set_option maxRecDepth 100000 in
theorem ld_S {r o : Nat} {v : Value} {w : World} (h : w.cell? ⟨r, o, none⟩ = some v) : (Instr.loadAt 9 (.pointer (some ⟨r, o, none⟩))).run Tryz.prog w = .ok v w := by
  go_simp
section
variable {X : Exit → Act → World → Prop} {K : Act → World → Prop} {a : Act} {w : World} {dst : Option Tmp} {ty : TypeId} {pos : String} {af : Array Edge} {gd : Option (Nat × Bool)} {k : Nat}
theorem op_idx {t : TypeId} {x ix : Operand} {u i v : Value} (h1 : a.eval x = u) (h2 : a.eval ix = i) (hr : (Instr.indexAt t u i).run Tryz.prog w = .ok v w) (h : K (a.put dst v) w) : Oper.wp Tryz.prog ⟨dst, .indexAddr t x ix, ty, pos, af, gd⟩ a w K X := by
  unfold Oper.wp
  simp [execOp, h1, h2, hr, Oper.upon, h]
end
end Go.Proofs.YthgdmppmjnmiiaaGreatDoor

/- Package farkas: a drawn region whose world-changing operations come one behind the other, some of them under guards. -/
namespace Go.Proofs.YthgdmppmjnmiiaaGreatDoor
open Go Go.RowKit Go.Maps
open _root_.Go.Proofs.YthgdmppmjnmiiaaGreatDoor.Nm (IsI pw)
section
variable {P : Program} {X : Exit → Act → World → Prop}
theorem seqG {l : List Oper} {a0 : Act} {w0 : World} (N : Nat) (kept : List Nat) (Φ : Nat → Value → Prop) (chn : Nat → Bool) (Q : (Nat → Bool) → (Nat → Value) → World → Prop)
    (hg : fitF N 0 kept l = true) (hN : a0.tmps.size = N)
    (hno : ((List.range l.length).all fun i => match l[i]? with | some o => o.dst.isSome | none => false) = true)
    (hlt : ∀ i, chn i = true → i < l.length)
    (h0 : Q (fun _ => false) (slotOf l.toArray a0) w0)
    (hloc : ∀ (L L' : Nat → Bool) (s s' : Nat → Value) (w : World), (∀ i, chn i = true → L i = L' i ∧ s i = s' i) → Q L s w → Q L' s' w)
    (hpure : ∀ i, i < l.length → chn i = false → ∀ (a : Act) (w : World) (L : Nat → Bool), a.tmps.size = N → (∀ k, k ∈ kept → a.tmps[k]? = a0.tmps[k]?) → (∀ j, (preds (l.getD i default)).contains j = true → Φ j (slotOf l.toArray a j)) → Q L (slotOf l.toArray a) w →
      if Region.wanted (l.getD i default) (yielded l.toArray a.tmps) then (l.getD i default).wp P a w (fun a' w' => ∃ v, a' = a.put (l.getD i default).dst v ∧ w' = w ∧ Φ i v) X else Φ i undef)
    (hch : ∀ i, chn i = true → ∀ (a : Act) (w : World) (L : Nat → Bool), a.tmps.size = N → (∀ k, k ∈ kept → a.tmps[k]? = a0.tmps[k]?) → (∀ j, (preds (l.getD i default)).contains j = true → L j = true ∧ Φ j (slotOf l.toArray a j)) → L i = false → (∀ j, j < l.length → L j = true → ∀ k, (preds (l.getD j default)).contains k = true → L k = true) → Q L (slotOf l.toArray a) w →
      if Region.wanted (l.getD i default) (yielded l.toArray a.tmps) then (l.getD i default).wp P a w (fun a' w' => ∃ v, a' = a.put (l.getD i default).dst v ∧ Φ i v ∧ Q (upL L i) (upS (slotOf l.toArray a) i v) w') X else Φ i undef ∧ Q (upL L i) (upS (slotOf l.toArray a) i undef) w)
    (hend : ∀ (a : Act) (w : World), a.defers = a0.defers → a.tmps.size = N → (∀ k, k ∈ kept → a.tmps[k]? = a0.tmps[k]?) → (∀ i, i < l.length → Φ i (slotOf l.toArray a i)) → Q (fun _ => true) (slotOf l.toArray a) w → X .normal a w) :
    wpAny P .any l.toArray X l.toArray.size (Array.replicate l.toArray.size false) a0 w0 := by
  have hgd : ∀ (i : Nat) (o : Oper), l[i]? = some o → l.getD i default = o := fun i o ho => by simp [List.getD_eq_getElem?_getD, ho]
  have hspec := fitF_spec l 0 kept hg
  have hdst : ∀ (i : Nat) (o : Oper), l[i]? = some o → ∃ d, o.dst = some d := fun i o ho => by
    have hi := (List.getElem?_eq_some_iff.1 ho).1
    have h := List.all_eq_true.1 hno i (List.mem_range.2 hi)
    simp only [ho] at h
    exact Option.isSome_iff_exists.1 h
  have hslot : ∀ (i : Nat) (o : Oper) (k : Nat) (ok : Oper) (a : Act) (v : Value), l[i]? = some o → l[k]? = some ok → k ≠ i → slotOf l.toArray (a.put o.dst v) k = slotOf l.toArray a k := fun i o k ok a v ho hk hne => by
    obtain ⟨dk, hdk⟩ := hdst k ok hk
    have hk' : l.toArray[k]? = some ok := by simpa using hk
    obtain ⟨d, hd⟩ := hdst i o ho
    rw [hd]
    refine slot_put_other hk' hdk fun e => ?_
    subst e
    rcases Nat.lt_or_gt_of_ne hne with h | h
    · exact ((hspec i o ho).2 d hd).2.2 k ok h hk hdk
    · exact ((hspec k ok hk).2 d hdk).2.2 i o h ho hd
  have hself : ∀ (i : Nat) (o : Oper) (a : Act) (v : Value), l[i]? = some o → a.tmps.size = N → slotOf l.toArray (a.put o.dst v) i = v := fun i o a v ho hn => by
    obtain ⟨d, hd⟩ := hdst i o ho
    have ho' : l.toArray[i]? = some o := by simpa using ho
    exact slot_put_same (a := a) (v := v) ho' hd (by have := ((hspec i o ho).2 d hd).2.1; omega)
  have hget : ∀ (listed : Array Bool) (i j : Nat), i ≠ j → (listed.setIfInBounds i true).getD j false = listed.getD j false := fun listed i j e => getD_set_ne false e
  refine stepsF N kept Φ (fun listed a w => Q (fun j => listed.getD j false) (slotOf l.toArray a) w) hg hN ?_ ?_ ?_ ?_
  · have hrep : ∀ i, (Array.replicate l.length false).getD i false = false := fun i => by
      simp only [Array.getD_eq_getD_getElem?, Array.getElem?_replicate]
      split <;> rfl
    exact hloc _ _ _ _ w0 (fun i _ => ⟨(hrep i).symm, rfl⟩) h0
  · intro i o ho listed a w hsz hun hdown hdf hn hk hpr hQ
    have hi := (List.getElem?_eq_some_iff.1 ho).1
    have hun' : listed.getD i false = false := by
      have h1 : i < listed.size := by omega
      simpa [h1] using hun
    have hset : (listed.setIfInBounds i true).getD i false = true := by
      have h1 : i < listed.size := by omega
      simp [h1]
    have ed := hgd i o ho
    cases hc : chn i with
    | false =>
      have hkeep : ∀ v, Q (fun j => (listed.setIfInBounds i true).getD j false) (slotOf l.toArray (a.put o.dst v)) w := fun v => hloc _ _ _ _ w (fun j hj => by
        have hne : i ≠ j := fun e => by rw [← e, hc] at hj; cases hj
        exact ⟨(hget listed i j hne).symm, (hslot i o j _ a v ho (List.getElem?_eq_getElem (hlt j hj)) (Ne.symm hne)).symm⟩) hQ
      have h := hpure i hi hc a w (fun j => listed.getD j false) hn hk (fun j hj => (hpr j (by rw [ed] at hj; exact hj)).2) hQ
      rw [ed] at h
      split at h
      · rename_i hw
        rw [if_pos hw]
        refine Oper.wp_mono ?_ h
        rintro a' w' ⟨v, rfl, rfl, hv⟩
        exact ⟨v, rfl, fun _ => hv, hkeep v⟩
      · rename_i hw
        rw [if_neg hw]
        exact ⟨fun _ => h, hkeep undef⟩
    | true =>
      have hkeep : ∀ v w', Q (upL (fun j => listed.getD j false) i) (upS (slotOf l.toArray a) i v) w' → Q (fun j => (listed.setIfInBounds i true).getD j false) (slotOf l.toArray (a.put o.dst v)) w' := fun v w' hQ' => hloc _ _ _ _ w' (fun j hj => by
        by_cases ej : j = i
        · subst ej
          rw [upL_same, upS_same]
          exact ⟨hset.symm, (hself j o a v ho hn).symm⟩
        · rw [upL_other ej, upS_other ej]
          exact ⟨(hget listed i j (Ne.symm ej)).symm, (hslot i o j _ a v ho (List.getElem?_eq_getElem (hlt j hj)) ej).symm⟩) hQ'
      have h := hch i hc a w (fun j => listed.getD j false) hn hk (fun j hj => hpr j (by rw [ed] at hj; exact hj)) hun' (fun j hj h2 k h3 => hdown j _ (List.getElem?_eq_getElem hj) h2 k (by rw [hgd j _ (List.getElem?_eq_getElem hj)] at h3; exact h3)) hQ
      rw [ed] at h
      split at h
      · rename_i hw
        rw [if_pos hw]
        refine Oper.wp_mono ?_ h
        rintro a' w' ⟨v, rfl, hv, hQ'⟩
        exact ⟨v, rfl, fun _ => hv, hkeep v w' hQ'⟩
      · rename_i hw
        rw [if_neg hw]
        exact ⟨fun _ => h.1, hkeep undef w h.2⟩
  · intro i o ho hd v
    obtain ⟨d, hd'⟩ := hdst i o ho
    rw [hd] at hd'
    cases hd'
  · intro listed a w hsz hall hdf hn hk hΦ hJ
    exact hend a w hdf hn hk hΦ (hloc _ _ _ _ w (fun i hi => ⟨hall i (hlt i hi), rfl⟩) hJ)
end
end Go.Proofs.YthgdmppmjnmiiaaGreatDoor

/- Package farkas: splits, its region of two sides. -/
namespace Go.Proofs.YthgdmppmjnmiiaaGreatDoor
open Go Go.RowKit Go.Maps
open _root_.Go.Proofs.YthgdmppmjnmiiaaGreatDoor.Nm (IsI pw)
/-- The checker's block. -/
def chk (left : Int) : Obj := .cells #[.int .i64 left] 72
theorem chk_noS (left : Int) : NoS #[.int .i64 left] := fun o u hu hs => by
  match o, hu with
  | 0, hu => simp at hu; subst hu; rcases hs with ⟨s, e⟩ | ⟨s, e⟩ <;> cases e
  | o + 1, hu => simp at hu
theorem KeepS.trans {a b c : World} (h : KeepS a b) (k : KeepS b c) : KeepS a c := fun q hq ⟨o, u, hu, hs⟩ => by
  obtain ⟨h1, h2, _⟩ := h q hq ⟨o, u, hu, hs⟩
  obtain ⟨k1, k2, _⟩ := k q h2 ⟨o, u, (World.cell?_of_block (w := a) (a := ⟨q, o, none⟩) h1).trans hu, hs⟩
  exact ⟨k1.trans h1, k2, k2⟩
theorem RowsM.ne {w : World} {B g c cb : Nat} {left : Int} {rs : List (List (ByteArray × Int) × Int)} (h : RowsM w B g c rs) (hc : w.heap[cb]? = some (chk left)) : g ≠ cb := by
  rintro rfl
  obtain ⟨cs, _, h2, _⟩ := h
  rw [h2] at hc
  simp [chk] at hc
theorem RowsM.lt {w : World} {B g c : Nat} {rs : List (List (ByteArray × Int) × Int)} (h : RowsM w B g c rs) : g < w.heap.size := (Array.getElem?_eq_some_iff.1 h.choose_spec.2.1).1
/-- What stands all the while. -/
structure StA (cb g : Nat) (w0 w : World) : Prop where
  fr : Fr cb g w0 w
  keep : KeepS w0 w
/-- Between the operations: rows, and what is left to the checker. -/
def StR (B cb g c : Nat) (left : Int) (rs : List (List (ByteArray × Int) × Int)) (m : Int) (w : World) : Prop := RowsM w B g c rs ∧ ∃ left', w.heap[cb]? = some (chk left') ∧ left - m ≤ left' ∧ left' ≤ left
def StB (w0 : World) (B cb g c g1 c1 : Nat) (left : Int) (rs : List (List (ByteArray × Int) × Int)) (r : List (ByteArray × Int) × Int) (m : Int) (w : World) : Prop := StR B cb g c left rs m w ∧ RowsM w B g1 c1 (rs ++ [r]) ∧ ((g1 = g ∧ c1 = c) ∨ w0.heap.size ≤ g1)
section
variable {w0 w w' : World} {B cb g c g1 c1 h m : Nat} {left mm : Int} {rs : List (List (ByteArray × Int) × Int)} {r : List (ByteArray × Int) × Int}
theorem StA.grow (hA : StA cb g w0 w) (hb : Below w.heap.size w w') : StA cb g w0 w' := ⟨hA.fr.trans (Fr.of hb (Nat.le_refl _)), hA.keep.trans (.of hb)⟩
theorem StR.grow (hS : StR B cb g c left rs mm w) (hb : Below w.heap.size w w') : StR B cb g c left rs mm w' := by
  obtain ⟨h1, l, h2, h3⟩ := hS
  exact ⟨h1.more hb, l, (hb.block cb (Array.getElem?_eq_some_iff.1 h2).1).trans h2, h3⟩
/-- A side was looked at. -/
theorem StB.called {lc : Int} {mc : Nat} (hA : StA cb g w0 w) (hS : StB w0 B cb g c g1 c1 left rs r mm w) (hc : w.heap[cb]? = some (chk lc)) (hl : left - mm ≤ lc ∧ lc ≤ left) (hf : Fr cb g1 w w') (hR : RowsM w' B g1 c1 (rs ++ [r])) (hx : ∃ l', w'.heap[cb]? = some (chk l') ∧ lc - (mc : Int) ≤ l' ∧ l' ≤ lc) : StA cb g w0 w' ∧ StR B cb g c left rs (mm + mc) w' := by
  obtain ⟨⟨hO, _⟩, h1, h2⟩ := hS
  obtain ⟨l', k1, k2, k3⟩ := hx
  obtain ⟨cs1, _, q2, _, _, q5, _⟩ := id h1
  have hk : KeepS w w' := .fr hf hc (chk_noS lc) q2 q5
  have hg := hO.ne hc
  have hR' : RowsM w' B g c rs := by
    rcases h2 with ⟨rfl, rfl⟩ | h2
    · exact hR.front
    · by_cases e : g1 = g
      · subst e
        obtain ⟨cs, p1, p2, p3, p4, p5, p6⟩ := hO
        rw [q2] at p2
        injection p2 with p2
        injection p2 with p2 _ _
        subst p2
        obtain ⟨ds, u1, u2, u3, u4, u5, u6⟩ := hR.front
        refine ⟨ds, u1, u2, p3, ?_, u5, u6⟩
        obtain ⟨cs2, t1, t2, t3, t4, t5, t6⟩ := id h1
        rw [q2] at t2
        injection t2 with t2
        injection t2 with t2 _ _
        subst t2
        omega
      · exact hO.keep (hf.block g hO.lt hg (Ne.symm e)) hk
  refine ⟨⟨?_, hA.keep.trans hk⟩, hR', l', k1, by omega, by omega⟩
  have hs := hA.fr.size
  refine ⟨hf.os.trans hA.fr.os, hf.tape.trans hA.fr.tape, hf.output.trans hA.fr.output, Nat.le_trans hs hf.size, fun j hj h3 h4 => ?_⟩
  have hne : j ≠ g1 := by
    rcases h2 with ⟨rfl, rfl⟩ | h2
    · exact h4
    · omega
  exact (hf.block j (by omega) h3 hne).trans (hA.fr.block j hj h3 h4)
end
end Go.Proofs.YthgdmppmjnmiiaaGreatDoor

/- Package farkas: opposite. -/
namespace Go.Proofs.YthgdmppmjnmiiaaGreatDoor
open Go Go.RowKit Go.Maps
open _root_.Go.Proofs.YthgdmppmjnmiiaaGreatDoor.Nm (IsI pw)
/-- Parts in a block of their own. -/
def PInv (V : World) (pb n : Nat) (qs : List (ByteArray × Int)) : Prop := ∃ cs, V.heap[pb]? = some (.cells cs 92) ∧ cs.size = n * 3 ∧ (∀ (o : Nat) y, cs[o]? ≠ some (.int .u32 y)) ∧ ∀ (j : Nat) p, qs[j]? = some p → ∃ x y, V.rangeAt pb (j * 3) [.string p.1, x, y] ∧ IsB V V.heap.size (.agg #[x, y]) p.2
theorem PInv.grow {V V' : World} {pb n : Nat} {qs : List (ByteArray × Int)} (h : PInv V pb n qs) (hb : Below V.heap.size V V') : PInv V' pb n qs := by
  obtain ⟨cs, h1, h2, h3, h4⟩ := h
  have hlt := (Array.getElem?_eq_some_iff.1 h1).1
  refine ⟨cs, (hb.block pb hlt).trans h1, h2, h3, fun j p hp => ?_⟩
  obtain ⟨x, y, k1, k2⟩ := h4 j p hp
  exact ⟨x, y, rangeAt_below k1 hlt hb, k2.more hb hb.size⟩
theorem PInv.put {V : World} {pb n i : Nat} {qs : List (ByteArray × Int)} {nm : ByteArray} {z z0 : Int} {za : Option Addr} {zl zc : Nat} (h : PInv V pb n qs) (hi : qs.length = i) (hn : i < n) (hz : IsB V V.heap.size (.agg #[.int .i64 z0, .slice za zl zc]) z) : PInv (((V.setCell ⟨pb, i * 3, none⟩ (.string nm)).setCell ⟨pb, i * 3 + 1, none⟩ (.int .i64 z0)).setCell ⟨pb, i * 3 + 2, none⟩ (.slice za zl zc)) pb n (qs ++ [(nm, z)]) ∧
    PutAt pb V (((V.setCell ⟨pb, i * 3, none⟩ (.string nm)).setCell ⟨pb, i * 3 + 1, none⟩ (.int .i64 z0)).setCell ⟨pb, i * 3 + 2, none⟩ (.slice za zl zc)) ∧ ∀ {v : Value} {u : Int}, IsB V V.heap.size v u → IsB (((V.setCell ⟨pb, i * 3, none⟩ (.string nm)).setCell ⟨pb, i * 3 + 1, none⟩ (.int .i64 z0)).setCell ⟨pb, i * 3 + 2, none⟩ (.slice za zl zc)) V.heap.size v u := by
  obtain ⟨cs, h7, h8, h9, h12⟩ := h
  obtain ⟨cs', k1, k2, k3, k4, k5, k6, k7⟩ := three_put (o := i * 3) (x := .string nm) (y := .int .i64 z0) (z := .slice za zl zc) h7 (by omega)
  have hn' : ∀ (o : Nat) y, cs'[o]? ≠ some (.int .u32 y) := fun o y => by
    rcases (by omega : o < i * 3 ∨ i * 3 + 2 < o ∨ o = i * 3 ∨ o = i * 3 + 1 ∨ o = i * 3 + 2) with e | e | rfl | rfl | rfl
    · rw [k7 o (.inl e)]; exact h9 o y
    · rw [k7 o (.inr e)]; exact h9 o y
    · rw [k4]; simp
    · rw [k5]; simp
    · rw [k6]; simp
  have hI : ∀ {v : Value} {u : Int}, IsB V V.heap.size v u → IsB (((V.setCell ⟨pb, i * 3, none⟩ (.string nm)).setCell ⟨pb, i * 3 + 1, none⟩ (.int .i64 z0)).setCell ⟨pb, i * 3 + 2, none⟩ (.slice za zl zc)) V.heap.size v u := fun {v u} hv => hv.put k2 h7 h9
  refine ⟨⟨cs', k1, by omega, hn', fun j p hj => ?_⟩, k2, hI⟩
  rw [k2.size]
  rcases Nat.lt_or_ge j i with e | e
  · rw [List.getElem?_append_left (by omega)] at hj
    obtain ⟨x, y, hr, hv⟩ := h12 j p hj
    refine ⟨x, y, fun t v ht => ?_, hI hv⟩
    have ht3 : t < 3 := by
      have := (List.getElem?_eq_some_iff.1 ht).1
      simpa using this
    rw [cell_arr k1, k7 (j * 3 + t) (by omega), ← cell_arr h7]
    exact hr t v ht
  · rw [List.getElem?_append_right (by omega), hi] at hj
    obtain rfl : j = i := by
      have := (List.getElem?_eq_some_iff.1 hj).1
      simp at this
      omega
    have : p = (nm, z) := by simpa using hj.symm
    subst this
    refine ⟨.int .i64 z0, .slice za zl zc, fun t v ht => ?_, hI hz⟩
    rw [cell_arr k1]
    match t with
    | 0 => rw [show j * 3 + 0 = j * 3 by omega, k4]; simpa using ht
    | 1 => rw [k5]; simpa using ht
    | 2 => rw [k6]; simpa using ht
    | t + 3 => simp at ht
/-- While an opposite is made. -/
def OInv (w : World) (r : List (ByteArray × Int) × Int) (xb : Array Value) (n ob pb : Nat) (m0 : Int) (ma : Option Addr) (ml mc i : Nat) (V : World) : Prop :=
  Below w.heap.size w V ∧ V.heap[w.heap.size]? = some (.cells xb 68) ∧ V.heap[w.heap.size + 1]? = some (.cells #[.slice none 0 0, .int .i64 0, .slice none 0 0] 68) ∧ V.heap[ob]? = some (.cells #[.slice (some ⟨pb, 0, none⟩) n n, .int .i64 m0, .slice ma ml mc] 68) ∧ IsB V V.heap.size (.agg #[.int .i64 m0, .slice ma ml mc]) (-r.2 - 1) ∧ PInv V pb n ((opp r).1.take i)
theorem OInv.grow {w V V' : World} {r : List (ByteArray × Int) × Int} {xb : Array Value} {n ob pb : Nat} {m0 : Int} {ma : Option Addr} {ml mc i : Nat} (h : OInv w r xb n ob pb m0 ma ml mc i V) (hb : Below V.heap.size V V') : OInv w r xb n ob pb m0 ma ml mc i V' := by
  obtain ⟨h1, h2, h3, h4, h5, h6⟩ := h
  have q : ∀ {b : Nat} {o : Obj}, V.heap[b]? = some o → V'.heap[b]? = some o := fun {b o} h => (hb.block b (Array.getElem?_eq_some_iff.1 h).1).trans h
  exact ⟨h1.trans (hb.mono h1.size), q h2, q h3, q h4, h5.more hb hb.size, h6.grow hb⟩
end Go.Proofs.YthgdmppmjnmiiaaGreatDoor

/- Package farkas: splits. -/
namespace Go.Proofs.YthgdmppmjnmiiaaGreatDoor
open Go Go.RowKit Go.Maps
open _root_.Go.Proofs.YthgdmppmjnmiiaaGreatDoor.Nm (IsI pw)
theorem dd_lt (u : Nat) : u < 10 ^ (Lib.decDigits u).length ∧ ∀ c ∈ Lib.decDigits u, c ≠ 45 := by
  induction u using Nat.strongRecOn with
  | _ u ih =>
    have hd : ∀ m, m < 10 → UInt8.ofNat (48 + m) ≠ 45 := fun m hm => by
      match m, hm with
      | 0, _ => decide
      | 1, _ => decide
      | 2, _ => decide
      | 3, _ => decide
      | 4, _ => decide
      | 5, _ => decide
      | 6, _ => decide
      | 7, _ => decide
      | 8, _ => decide
      | 9, _ => decide
    rw [Lib.decDigits]
    split
    · rename_i h
      exact ⟨by simpa using h, fun c hc => by rw [List.mem_singleton.1 hc]; exact hd u h⟩
    · rename_i h
      obtain ⟨h1, h2⟩ := ih (u / 10) (by omega)
      refine ⟨?_, fun c hc => ?_⟩
      · rw [List.length_append, List.length_singleton, Nat.pow_succ]
        omega
      · rcases List.mem_append.1 hc with h3 | h3
        · exact h2 c h3
        · rw [List.mem_singleton.1 h3]
          exact hd _ (Nat.mod_lt _ (by omega))
theorem itoa_trim (z : Int) : Lib.trimPrefix (Lib.itoa z) [45] = Lib.decDigits z.natAbs := by
  unfold Lib.itoa
  split
  · simp [Lib.trimPrefix, Lib.hasPrefix]
  · rename_i h
    have e : z.toNat = z.natAbs := by omega
    rw [e]
    have h2 := (dd_lt z.natAbs).2
    unfold Lib.trimPrefix Lib.hasPrefix
    cases hD : Lib.decDigits z.natAbs with
    | nil => rfl
    | cons c t =>
      have hc : c ≠ 45 := h2 c (by rw [hD]; simp)
      have : (45 == c) = false := by
        simp
        exact fun e => hc e.symm
      simp [List.isPrefixOf, this]
theorem tenTo_mono {a b : Nat} (h : a ≤ b) : tenTo a ≤ tenTo b := Nat.pow_le_pow_right (by omega) h
theorem short_lt {z : Int} (h : shortI z = true) : z.natAbs < tenTo 400 := by
  unfold shortI at h
  rw [itoa_trim] at h
  have hl := of_decide_eq_true h
  exact Nat.lt_of_lt_of_le (dd_lt z.natAbs).1 (tenTo_mono hl)
theorem RowOk.opp {r : List (ByteArray × Int) × Int} (h : RowOk r) (hs : shortI (opp r).2 = true) : RowOk (opp r) := by
  obtain ⟨h1, h2, h3⟩ := h
  refine ⟨by simpa [Go.Proofs.YthgdmppmjnmiiaaGreatDoor.opp] using h1, short_lt hs, fun p hp => ?_⟩
  obtain ⟨q, hq, rfl⟩ := List.mem_map.1 hp
  obtain ⟨k1, k2, k3⟩ := h3 q hq
  exact ⟨by simpa using k1, k2, k3⟩
end Go.Proofs.YthgdmppmjnmiiaaGreatDoor

/- Package farkas: sums of rows are linear; what is told of a sum, read again. -/
namespace Go.Proofs.YthgdmppmjnmiiaaGreatDoor
open Go Go.RowKit Go.Maps
open _root_.Go.Proofs.YthgdmppmjnmiiaaGreatDoor.Nm (IsI pw)
/-- How many times a name is there. -/
def cf (ps : List (ByteArray × Int)) (s : ByteArray) : Int := (ps.map fun p => if p.1 = s then p.2 else 0).sum
theorem cf_nil (s : ByteArray) : cf [] s = 0 := rfl
theorem cf_cons (p : ByteArray × Int) (ps : List (ByteArray × Int)) (s : ByteArray) : cf (p :: ps) s = (if p.1 = s then p.2 else 0) + cf ps s := by simp [cf]
theorem fadd_cf (ps : List (ByteArray × Int)) (t : Int) : ∀ (f : ByteArray → Int) (s : ByteArray), fadd f ps t s = f s + cf ps s * t := by
  induction ps with
  | nil => intro f s; simp [fadd, cf_nil]
  | cons p ps ih =>
    intro f s
    have : fadd f (p :: ps) t = fadd (fput f p.1 (f p.1 + p.2 * t)) ps t := rfl
    rw [this, ih, cf_cons]
    unfold fput
    by_cases e : s = p.1
    · subst e
      simp only [if_true]
      rw [Int.add_mul]
      omega
    · rw [if_neg e, if_neg (Ne.symm e)]
      simp
/-- What rows, so many times each, come to. -/
def sumC (rs : List (List (ByteArray × Int) × Int)) (ns : List Int) (s : ByteArray) : Int := ((rs.zip ns).map fun q => cf q.1.1 s * q.2).sum
def sumK (rs : List (List (ByteArray × Int) × Int)) (ns : List Int) : Int := ((rs.zip ns).map fun q => q.1.2 * q.2).sum
theorem fold_sum (l : List ((List (ByteArray × Int) × Int) × Int)) : ∀ (f : ByteArray → Int) (k : Int), (∀ s, (l.foldl sumStep (f, k)).1 s = f s + (l.map fun q => cf q.1.1 s * q.2).sum) ∧ (l.foldl sumStep (f, k)).2 = k + (l.map fun q => q.1.2 * q.2).sum := by
  induction l with
  | nil => intro f k; simp
  | cons q l ih =>
    intro f k
    obtain ⟨h1, h2⟩ := ih (fadd f q.1.1 q.2) (k + q.1.2 * q.2)
    refine ⟨fun s => ?_, ?_⟩
    · rw [List.foldl_cons]
      show (l.foldl sumStep (fadd f q.1.1 q.2, k + q.1.2 * q.2)).1 s = _
      rw [h1 s, fadd_cf, List.map_cons, List.sum_cons]
      omega
    · rw [List.foldl_cons]
      show (l.foldl sumStep (fadd f q.1.1 q.2, k + q.1.2 * q.2)).2 = _
      rw [h2, List.map_cons, List.sum_cons]
      omega
theorem sumN_C (rs : List (List (ByteArray × Int) × Int)) (ns : List Int) (s : ByteArray) : (sumN rs ns).1 s = sumC rs ns s := by
  have := (fold_sum (rs.zip ns) (fun _ => 0) 0).1 s
  unfold sumN sumC
  rw [this]
  simp
theorem sumN_K (rs : List (List (ByteArray × Int) × Int)) (ns : List Int) : (sumN rs ns).2 = sumK rs ns := by
  have := (fold_sum (rs.zip ns) (fun _ => 0) 0).2
  unfold sumN sumK
  rw [this]
  simp
/-- The keys that a told sum has. -/
def Keys (F : ByteArray → Int) (ss : List (List UInt8)) : Prop := ss.Nodup ∧ ∀ x, x ∈ ss ↔ x.length ≤ maxLen ∧ F (bytesOf x) ≠ 0
theorem bytesOf_self (s : ByteArray) : bytesOf s.data.toList = s := by
  obtain ⟨d⟩ := s
  simp [bytesOf]
theorem size_data (s : ByteArray) : s.data.toList.length = s.size := by simp
def srt (ss : List (List UInt8)) : List (List UInt8) := ss.mergeSort (fun x y => decide (x ≤ y))
theorem srt_perm (ss : List (List UInt8)) : (srt ss).Perm ss := List.mergeSort_perm _ _
end Go.Proofs.YthgdmppmjnmiiaaGreatDoor

/- FarkasMixes: light of rows alone, rows held against one another. -/
namespace Go.Proofs.YthgdmppmjnmiiaaGreatDoor
open Go Go.RowKit Go.Maps
open _root_.Go.Proofs.YthgdmppmjnmiiaaGreatDoor.Nm (IsI pw)
theorem wrap_ok {x : Int} (h1 : -9223372036854775808 ≤ x) (h2 : x ≤ 9223372036854775807) : IntKind.i64.wrap x = x := by rw [IntKind.wrap_i64]; omega
theorem wrap64_ok {x : Int} (h1 : -9223372036854775808 ≤ x) (h2 : x ≤ 9223372036854775807) : wrap64 x = x := by unfold wrap64; omega
/-- What light weighs. -/
def lwt (ls : List (List (ByteArray × ByteArray) × ByteArray)) : Nat := (ls.map fun l => 1 + l.1.length).sum
theorem lwt_take {ls : List (List (ByteArray × ByteArray) × ByteArray)} {i : Nat} {l : List (ByteArray × ByteArray) × ByteArray} (h : ls[i]? = some l) : lwt (ls.take (i + 1)) = lwt (ls.take i) + (1 + l.1.length) := by
  unfold lwt
  rw [List.take_add_one, h]
  simp
theorem lwt_len : ∀ (ls : List (List (ByteArray × ByteArray) × ByteArray)), ls.length ≤ lwt ls ∧ ∀ l ∈ ls, l.1.length ≤ lwt ls
  | [] => by simp [lwt]
  | l :: ls => by
    obtain ⟨h1, h2⟩ := lwt_len ls
    have e : lwt (l :: ls) = 1 + l.1.length + lwt ls := by simp [lwt]
    refine ⟨by simp; omega, fun x hx => ?_⟩
    rcases List.mem_cons.1 hx with rfl | hx
    · omega
    · have := h2 x hx
      omega
def LtPost (ls : List (List (ByteArray × ByteArray) × ByteArray)) (w : World) (e : Ending) (w' : World) : Prop := ∃ b : Bool, e = .returned (.bool b) ∧ Below w.heap.size w w' ∧ (b = true → lwt ls ≤ 100)
set_option maxRecDepth 100000 in
set_option maxHeartbeats 4000000 in
theorem lin_same {w : World} {a b : Option Addr} {n m c d : Nat} {K : ByteArray} {C : List (ByteArray × ByteArray)} (h1 : Row w.heap.size a n c 2 (CA w C)) (hn : n = C.length) (h2 : Row w.heap.size b m d 2 (CA w C)) (hm : m = C.length) : Calls Tryz.prog 10 #[.agg #[.slice a n c, .string K], .agg #[.slice b m d, .string K]] w (VPost (.bool true) w) := by
  obtain rfl : n = m := by omega
  obtain ⟨A, eA, hbA, hsA, hcA, hhA⟩ := box_new w #[.slice a n c, .string K] 28
  obtain ⟨A2, eA2, hbA2, hsA2, hcA2, hhA2⟩ := box_new A #[.slice b n d, .string K] 28
  have hh1 := (hbA2.block w.heap.size (by omega)).trans hhA
  rw [hsA] at hhA2
  have x0 : A2.cell? ⟨w.heap.size, 0, none⟩ = some (.slice a n c) := (blk hh1).2.1 0 _ rfl
  have x1 : A2.cell? ⟨w.heap.size, 1, none⟩ = some (.string K) := (blk hh1).2.1 1 _ rfl
  have y0 : A2.cell? ⟨w.heap.size + 1, 0, none⟩ = some (.slice b n d) := (blk hhA2).2.1 0 _ rfl
  have y1 : A2.cell? ⟨w.heap.size + 1, 1, none⟩ = some (.string K) := (blk hhA2).2.1 1 _ rfl
  have hB : Below w.heap.size w A2 := hbA.trans (hbA2.mono (by omega))
  have HE := hide (And.intro eA eA2)
  have HB := hide hB
  have HR := hide (And.intro h1 (And.intro h2 hn))
  have hmx := h1.2.1
  rw [← eA2, ← eA] at x0 x1 y0 y1
  clear eA hbA hsA hcA hhA eA2 hbA2 hsA2 hcA2 hhA2 hh1 hB h1 h2 hn hm
  go_enter Tryz.func10, Tryz.ntmps10
  go_wp2_with fail
  obtain ⟨e1, e2⟩ := unhide HE
  rw [e1, e2] at x0 x1 y0 y1
  rw [e1, e2]
  clear e1 e2
  go_loopw [5] (fun iv wr => ∃ i : Nat, i ≤ n ∧ iv = .int .i64 i ∧ Below A2.heap.size A2 wr) (fun iv _ => n - (intOf iv).toNat)
  case atStart => exact ⟨0, Nat.zero_le _, rfl, Below.refl _ _⟩
  case round =>
    obtain ⟨i, hi0, rfl, hW⟩ := hrel
    have hsA : w.heap.size + 1 < A2.heap.size := by
      rcases Nat.lt_or_ge (w.heap.size + 1) A2.heap.size with h | h
      · exact h
      · simp [World.cell?, Array.getElem?_eq_none h] at y0
    have p0 : wr.cell? ⟨w.heap.size, 0, none⟩ = some (.slice a n c) := (hW.cell (p := ⟨w.heap.size, 0, none⟩) (by show w.heap.size < _; omega)).trans x0
    have r0 : wr.cell? ⟨w.heap.size + 1, 0, none⟩ = some (.slice b n d) := (hW.cell (p := ⟨w.heap.size + 1, 0, none⟩) hsA).trans y0
    by_cases hi : i < n
    · obtain ⟨h1, h2, hn⟩ := unhide HR
      obtain ⟨ba, oa, rfl, hba, hja⟩ := h1.2.2 (by omega)
      obtain ⟨bb, ob, rfl, hbb, hjb⟩ := h2.2.2 (by omega)
      obtain ⟨cc, hcc⟩ : ∃ cc, C[i]? = some cc := ⟨_, List.getElem?_eq_getElem (by omega)⟩
      have ra := hja i hi cc hcc
      have rb := hjb i hi cc hcc
      have hbw : Below w.heap.size w wr := (unhide HB).trans (hW.mono (unhide HB).size)
      have u0 : wr.cell? ⟨ba, oa + i * 2, none⟩ = some (.string cc.1) := (hbw.cell (p := ⟨ba, oa + i * 2, none⟩) hba).trans (ra 0 _ rfl)
      have u1 : wr.cell? ⟨ba, oa + i * 2 + 1, none⟩ = some (.string cc.2) := (hbw.cell (p := ⟨ba, oa + i * 2 + 1, none⟩) hba).trans (ra 1 _ rfl)
      have v0 : wr.cell? ⟨bb, ob + i * 2, none⟩ = some (.string cc.1) := (hbw.cell (p := ⟨bb, ob + i * 2, none⟩) hbb).trans (rb 0 _ rfl)
      have v1 : wr.cell? ⟨bb, ob + i * 2 + 1, none⟩ = some (.string cc.2) := (hbw.cell (p := ⟨bb, ob + i * 2 + 1, none⟩) hbb).trans (rb 1 _ rfl)
      have g1 : (i : Int) < (n : Int) := by omega
      have g0 : (0 : Int) ≤ (i : Int) := by omega
      have g2 : (n : Int) ≤ 281474976710656 := by omega
      have HW := hide hW
      clear h1 h2 hn hba hja hbb hjb hcc ra rb hbw hW x0 x1 y0 y1 hsA
      go_wp2_with fail
      go_quiet (fail)
      go_wp2
      refine ⟨⟨i + 1, by omega, by simp, ?_⟩, ?_⟩
      · have h := unhide HW
        exact ⟨h.os, h.tape, h.output, h.size, h.block⟩
      · simp [intOf]
        omega
    · have gi : decide ((i : Int) < (n : Int)) = false := by simp; omega
      have g1 : ¬ ((i : Int) < (n : Int)) := by omega
      obtain rfl : i = n := by omega
      have HW := hide ((unhide HB).trans (hW.mono (unhide HB).size))
      clear hW hi hi0 x0 x1 y0 y1 hsA
      go_wp2
      go_ret
      exact ⟨rfl, unhide HW⟩
end Go.Proofs.YthgdmppmjnmiiaaGreatDoor

/- Package farkas: Check, whatever it is handed. -/
namespace Go.Proofs.YthgdmppmjnmiiaaGreatDoor
open Go Go.RowKit Go.Maps
open _root_.Go.Proofs.YthgdmppmjnmiiaaGreatDoor.Nm (IsI pw)
/-- A refutation as a value. -/
def IsFk (w : World) (B d : Nat) (cs : List Value) (f : Fk) : Prop := f.C.length ≤ 1000 ∧ ∃ aS nS cS aC nC cC aL nL cL, cs = [.slice aS nS cS, .bool f.split, .slice aC nC cC, .string f.K, .slice aL nL cL] ∧ nS = f.sum.length ∧ Row B aS nS cS 1 (BA w f.sum) ∧ nC = f.C.length ∧ Row B aC nC cC 2 (CA w f.C) ∧ nL = f.l.length ∧ Row B aL nL cL 5 (fun b o j => ∀ g, f.l[j]? = some g → FkAt w B d b o g)
theorem FkAt.up {w : World} {B B' : Nat} (hB : B ≤ B') : ∀ (d b o : Nat) (f : Fk), FkAt w B d b o f → FkAt w B' d b o f
  | 0, _, _, _, h => h
  | d + 1, b, o, f, ⟨hb, hC, aS, nS, cS, aC, nC, cC, aL, nL, cL, h1, h2, h3, h4, h5, h6, h7⟩ => ⟨Nat.lt_of_lt_of_le hb hB, hC, aS, nS, cS, aC, nC, cC, aL, nL, cL, h1, h2, h3.mono hB fun _ _ _ _ h => h, h4, h5.mono hB fun _ _ _ _ h => h, h6, h7.mono hB fun b o _ _ h g hg => FkAt.up hB d b o g (h g hg)⟩
theorem IsFk.more {w w' : World} {B B' d : Nat} {cs : List Value} {f : Fk} (h : IsFk w B d cs f) (hw : Below B w w') (hB : B ≤ B') : IsFk w' B' d cs f := by
  obtain ⟨h0, aS, nS, cS, aC, nC, cC, aL, nL, cL, h1, h2, h3, h4, h5, h6, h7⟩ := h
  exact ⟨h0, aS, nS, cS, aC, nC, cC, aL, nL, cL, h1, h2, h3.mono hB fun b o j hb h => h.more hb hw, h4, h5.mono hB fun b o j hb h => h.more hb hw, h6, h7.mono hB fun b o j hb h g hg => FkAt.up hB d b o g (FkAt.more hw d b o g (h g hg))⟩
/-- Where its five cells lie. -/
theorem IsFk.at {w : World} {B d b o : Nat} {cs : List Value} {f : Fk} (h : IsFk w B d cs f) (hb : b < B) (hr : w.rangeAt b o cs) : FkAt w B (d + 1) b o f := by
  obtain ⟨h0, aS, nS, cS, aC, nC, cC, aL, nL, cL, rfl, h2, h3, h4, h5, h6, h7⟩ := h
  exact ⟨hb, h0, aS, nS, cS, aC, nC, cC, aL, nL, cL, hr, h2, h3, h4, h5, h6, h7⟩
end Go.Proofs.YthgdmppmjnmiiaaGreatDoor

namespace Go.Proofs.YthgdmppmjnmiiaaGreatDoor
open Go Go.RowKit Go.Maps
open _root_.Go.Proofs.YthgdmppmjnmiiaaGreatDoor.Nm (IsI pw)
def bx : ByteArray := ⟨#[120]⟩
def b1 : ByteArray := ⟨#[49]⟩
def b2 : ByteArray := ⟨#[50]⟩
def bm1 : ByteArray := ⟨#[45, 49]⟩
def bm2 : ByteArray := ⟨#[45, 50]⟩
def ls0 : List (List (ByteArray × ByteArray) × ByteArray) := [([(bx, b1)], b1), ([(bx, bm1)], bm2)]
def rs0 : List (List (ByteArray × Int) × Int) := [([(bx, 1)], 1), ([(bx, -1)], -2)]
theorem n1 (d : Nat) (h : 1 ≤ d) : numT d b1 = some 1 := by
  have : decide (1 ≤ d) = true := by simpa using h
  simp [numT, rightB, b1, Lib.hasPrefix, Lib.trimPrefix, List.isPrefixOf, isDigB, Nm.dec, h]
theorem n2 (d : Nat) (h : 1 ≤ d) : numT d b2 = some 2 := by
  simp [numT, rightB, b2, Lib.hasPrefix, Lib.trimPrefix, List.isPrefixOf, isDigB, Nm.dec, h]
theorem nm1 (d : Nat) (h : 1 ≤ d) : numT d bm1 = some (-1) := by
  simp [numT, rightB, bm1, Lib.hasPrefix, Lib.trimPrefix, List.isPrefixOf, isDigB, Nm.dec, h]
theorem nm2 (d : Nat) (h : 1 ≤ d) : numT d bm2 = some (-2) := by
  simp [numT, rightB, bm2, Lib.hasPrefix, Lib.trimPrefix, List.isPrefixOf, isDigB, Nm.dec, h]
theorem rd0 : readL ls0 = some rs0 := by
  have h1 : readP (bx, b1) = some (bx, 1) := by
    unfold readP
    rw [if_neg (by show ¬ ((1 : Nat) = 0 ∨ 200 < 1); omega), n1 400 (by omega)]
    rfl
  have h2 : readP (bx, bm1) = some (bx, -1) := by
    unfold readP
    rw [if_neg (by show ¬ ((1 : Nat) = 0 ∨ 200 < 1); omega), nm1 400 (by omega)]
    rfl
  have h3 : readR [(bx, b1)] b1 = some ([(bx, 1)], 1) := by
    simp [readR, readC, h1, n1 400]
  have h4 : readR [(bx, bm1)] bm2 = some ([(bx, -1)], -2) := by
    simp [readR, readC, h2, nm2 400]
  simp [readL, allO, ls0, rs0, h3, h4]
theorem t1 : timesT b1 = some 1 := by simp [timesT, n1 1600]
theorem t2 : timesT b2 = some 2 := by simp [timesT, n2 1600]
theorem sum21 : sumAll ls0 [b2, b1] = some (fput (fput (fun _ => 0) bx 2) bx 1, 0) := by
  unfold sumAll
  rw [rd0]
  simp [sumO, allO, t1, t2, rs0, sumN, sumStep, fadd, fput]
theorem sum11 : sumO rs0 [b1, b1] = some (fput (fput (fun _ => 0) bx 1) bx 0, -1) := by
  simp [sumO, allO, t1, rs0, sumN, sumStep, fadd, fput]
theorem ref11 : Refuted rs0 [b1, b1] := ⟨_, sum11, fun s _ => by
  show (if s = bx then (0 : Int) else if s = bx then 1 else 0) = 0
  split
  · rfl
  · rfl, by show (-1 : Int) < 0; decide⟩
theorem sum1 : sumO rs0 [b1] = some (fput (fun _ => 0) bx 1, 1) := by
  simp [sumO, allO, t1, rs0, sumN, sumStep, fadd, fput]
theorem ref1 : ¬ Refuted rs0 [b1] := fun ⟨q, h, _, h2⟩ => by
  rw [sum1] at h
  injection h with h
  subst h
  exact absurd h2 (by show ¬ (1 : Int) < 0; decide)
theorem emptyT (d : Nat) : numT d ⟨#[]⟩ = none := by
  simp [numT, rightB, Lib.hasPrefix, Lib.trimPrefix, List.isPrefixOf]
theorem rdE : readL [([], ⟨#[]⟩)] = none := by
  simp [readL, allO, readR, emptyT]
/-- The names of known's sum: x alone. -/
theorem ss_x {ss : List (List UInt8)} (hn : ss.Nodup) (h : ∀ x, x ∈ ss ↔ x.length ≤ maxLen ∧ (fput (fput (fun _ => 0) bx 2) bx 1) (bytesOf x) ≠ 0) : ss = [[120]] := by
  have hx : ∀ x, x ∈ ss ↔ x = [120] := fun x => by
    rw [h x]
    have e : bytesOf x = bx ↔ x = [120] := by
      constructor
      · intro e
        have := congrArg (fun b : ByteArray => b.data.toList) e
        simpa [bytesOf, bx] using this
      · rintro rfl
        rfl
    unfold fput
    constructor
    · rintro ⟨_, h⟩
      by_cases hb : bytesOf x = bx
      · exact e.1 hb
      · simp [hb] at h
    · intro hx
      refine ⟨by rw [hx]; unfold maxLen; simp, ?_⟩
      rw [if_pos (e.2 hx)]
      decide
  cases ss with
  | nil => exact absurd ((hx [120]).2 rfl) (by simp)
  | cons a l =>
    have ha := (hx a).1 (by simp)
    subst ha
    cases l with
    | nil => rfl
    | cons b l =>
      have hb := (hx b).1 (by simp)
      subst hb
      simp at hn
theorem co_x : coefsOf (fput (fput (fun _ => 0) bx 2) bx 1) [[120]] = [(bx, b1)] := by
  have : (fput (fput (fun _ => 0) bx 2) bx 1) (bytesOf [120]) = 1 := by
    unfold fput
    rw [if_pos (show bytesOf [120] = bx from rfl)]
  have hi : Lib.itoa 1 = [49] := by kernel_rfl
  simp [coefsOf, coefOf, this, hi]
  exact ⟨rfl, rfl⟩
theorem k_0 : bytesOf (Lib.itoa 0) = ⟨#[48]⟩ := by
  have hi : Lib.itoa 0 = [48] := by kernel_rfl
  rw [hi]
  rfl
/-- The two rows of known lie there. -/
def KL (lb : Nat) (V : World) : Prop := lb < V.heap.size ∧ Row V.heap.size (some ⟨lb, 0, none⟩) 2 2 2 (LAt V V.heap.size ls0)
theorem KL.more {lb : Nat} {V V' : World} (h : KL lb V) (hb : Below V.heap.size V V') : KL lb V' := ⟨Nat.lt_of_lt_of_le h.1 hb.size, h.2.mono hb.size fun b o j hb' h l hl => by
  obtain ⟨x, y, h1, a, n, c, e, hn, hr⟩ := h l hl
  exact ⟨x, y, rangeAt_below h1 hb' hb, a, n, c, e, hn, hr.mono hb.size fun b o j hb2 h p hp => rangeAt_below (h p hp) hb2 hb⟩⟩
theorem KL.mk {V : World} {lb g1 g2 : Nat} (h1 : V.heap[g1]? = some (.cells #[.string bx, .string b1] 39)) (h2 : V.heap[g2]? = some (.cells #[.string bx, .string bm1] 39)) (hl : V.heap[lb]? = some (.cells #[.slice (some ⟨g1, 0, none⟩) 1 1, .string b1, .slice (some ⟨g2, 0, none⟩) 1 1, .string bm2] 28)) : KL lb V := by
  have hc : ∀ {g : Nat} {s t : ByteArray}, V.heap[g]? = some (.cells #[.string s, .string t] 39) → Row V.heap.size (some ⟨g, 0, none⟩) 1 1 2 (CA V [(s, t)]) := fun {g s t} h => ⟨Nat.le_refl _, by omega, fun _ => ⟨g, 0, rfl, (blk h).1, fun j hj c hc i u hu => by
    obtain rfl : j = 0 := by omega
    obtain rfl : (s, t) = c := by simpa using hc
    rw [show 0 + 0 * 2 + i = i by omega]
    exact (blk h).2.1 i u (by simpa using hu)⟩⟩
  refine ⟨(blk hl).1, Nat.le_refl _, by omega, fun _ => ⟨lb, 0, rfl, (blk hl).1, fun j hj l hlj => ?_⟩⟩
  rcases (by omega : j = 0 ∨ j = 1) with rfl | rfl
  · have : l = ([(bx, b1)], b1) := by simpa [ls0] using hlj.symm
    subst this
    exact ⟨.slice (some ⟨g1, 0, none⟩) 1 1, .string b1, fun t u hu => (blk hl).2.1 (0 + 0 * 2 + t) u (by
      match t, hu with
      | 0, hu => simpa using hu
      | 1, hu => simpa using hu
      | t + 2, hu => simp at hu), _, _, _, rfl, rfl, hc h1⟩
  · have : l = ([(bx, bm1)], bm2) := by simpa [ls0] using hlj.symm
    subst this
    exact ⟨.slice (some ⟨g2, 0, none⟩) 1 1, .string bm2, fun t u hu => (blk hl).2.1 (0 + 1 * 2 + t) u (by
      match t, hu with
      | 0, hu => simpa using hu
      | 1, hu => simpa using hu
      | t + 2, hu => simp at hu), _, _, _, rfl, rfl, hc h2⟩
theorem BA.mk {V : World} {g : Nat} {cs : Array Value} {bs : List ByteArray} (h : V.heap[g]? = some (.cells cs 9)) (hb : ∀ (j : Nat) s, bs[j]? = some s → cs[j]? = some (.string s)) (hn : bs.length ≤ 1000) : Row V.heap.size (some ⟨g, 0, none⟩) bs.length bs.length 1 (BA V bs) := ⟨Nat.le_refl _, by omega, fun _ => ⟨g, 0, rfl, (blk h).1, fun j hj s hs => by
  rw [show 0 + j * 1 = j by omega]
  exact (blk h).2.1 j _ (hb j s hs)⟩⟩
end Go.Proofs.YthgdmppmjnmiiaaGreatDoor
