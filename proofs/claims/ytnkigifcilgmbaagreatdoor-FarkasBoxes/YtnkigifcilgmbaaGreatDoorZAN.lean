/- Package farkas: opposite, its first region. -/
import Derived.Test.YtnkigifcilgmbaaGreatDoorZAM
import Derived.Maps.AppendAt
set_option linter.unusedVariables false
set_option linter.unusedSimpArgs false

/- Package farkas: a refutation that is a sum, checked. -/
namespace Go.Proofs.YtnkigifcilgmbaaGreatDoor
open Go Go.RowKit Go.Maps
open _root_.Go.Proofs.YtnkigifcilgmbaaGreatDoor.Nm (IsI pw)
/-- The rows, so many times each, say that 0 is below 0. -/
def Refuted (rs : List (List (ByteArray × Int) × Int)) (bs : List ByteArray) : Prop := ∃ q, sumO rs bs = some q ∧ (∀ s : ByteArray, s.size ≤ maxLen → q.1 s = 0) ∧ q.2 < 0
def FPost (p : Prop) (cb : Nat) (w : World) (e : Ending) (w' : World) : Prop := ∃ b : Bool, e = .returned (.bool b) ∧ (b = true ↔ p) ∧ But cb w w'
theorem But.trans {r : Nat} {a b c : World} (h : But r a b) (k : But r b c) : But r a c :=
  ⟨k.os.trans h.os, k.tape.trans h.tape, k.output.trans h.output, Nat.le_trans h.size k.size, fun j hj hr => (k.block j (Nat.lt_of_lt_of_le hj h.size) hr).trans (h.block j hj hr)⟩
set_option maxRecDepth 100000 in
set_option maxHeartbeats 4000000 in
theorem refutes_sum {w : World} {cb fb fo nR cR nB cB : Nat} {left depth : Int} {aR aB : Option Addr} {x2 x3 x4 : Value} {rs : List (List (ByteArray × Int) × Int)} {bs : List ByteArray} {ls : List (List (ByteArray × ByteArray) × ByteArray)}
    (hcb : w.heap[cb]? = some (.cells #[.int .i64 left] 81)) (hleft : 1 ≤ left ∧ left ≤ 33554432) (hdep : 1 ≤ depth ∧ depth ≤ 200) (hfb : fb < w.heap.size) (hfc : fb ≠ cb) (hF : w.rangeAt fb fo [.slice aB nB cB, .bool false, x2, x3, x4])
    (hR : Row w.heap.size aR nR cR 3 (RAt w w.heap.size rs)) (hnR : nR = rs.length) (hS : Row w.heap.size aB nB cB 1 (BA w bs)) (hnB : nB = bs.length) (hn : nR ≤ 1000) (hrl : readL ls = some rs) (hC : ∀ l ∈ ls, l.1.length ≤ 1000) :
    Calls Tryz.prog 33 #[.pointer (some ⟨cb, 0, none⟩), .slice aR nR cR, .pointer (some ⟨fb, fo, none⟩), .int .i64 depth] w (FPost (Refuted rs bs) cb w) := by
  have hcl : cb < w.heap.size := (Array.getElem?_eq_some_iff.1 hcb).1
  have x0 : w.cell? ⟨cb, 0, none⟩ = some (.int .i64 left) := (blk hcb).2.1 0 _ rfl
  have xf := (blk hcb).2.2 0
  obtain ⟨A, eA⟩ : ∃ A, w.setCell ⟨cb, 0, none⟩ (.int .i64 (left - 1)) = A := ⟨_, rfl⟩
  have hpt : PutAt cb w A := by rw [← eA]; exact (PutAt.refl cb w).set 0 _
  have hcA : A.heap[cb]? = some (.cells #[.int .i64 (left - 1)] 81) := by rw [← eA]; exact set_block hcb _
  have hNo : NoS #[.int .i64 left] := fun o u hu hs => by
    match o, hu with
    | 0, hu => simp at hu; subst hu; rcases hs with ⟨s, e⟩ | ⟨s, e⟩ <;> cases e
    | o + 1, hu => simp at hu
  have hk := noS_keep (B := w.heap.size) hpt hcb hNo
  have hk2 : ∀ b, b < w.heap.size → (∃ o u, w.cell? ⟨b, o, none⟩ = some u ∧ Str u) → A.heap[b]? = w.heap[b]? ∧ b < A.heap.size ∧ b < A.heap.size := fun b hb h => ⟨(hk b hb h).1, (hk b hb h).2.2, (hk b hb h).2.2⟩
  have hFA : ∀ (j : Nat) v, ([.slice aB nB cB, .bool false, x2, x3, x4] : List Value)[j]? = some v → A.cell? ⟨fb, fo + j, none⟩ = some v := fun j v hv => (World.cell?_of_block (w := w) (a := ⟨fb, fo + j, none⟩) (hpt.block fb hfc)).trans (hF j v hv)
  have hSA : Row A.heap.size aB nB cB 1 (BA A bs) := by
    refine ⟨hS.1, hS.2.1, fun h0 => ?_⟩
    obtain ⟨b, off, e, hb, hj⟩ := hS.2.2 h0
    have hkb := hk2 b hb ⟨off + 0 * 1, _, hj 0 (by omega) _ (List.getElem?_eq_getElem (by omega)), .inl ⟨_, rfl⟩⟩
    exact ⟨b, off, e, hkb.2.1, fun j hjn s hs => (World.cell?_of_block (w := w) (a := ⟨b, off + j * 1, none⟩) hkb.1).trans (hj j hjn s hs)⟩
  have hRA : Row A.heap.size aR nR cR 3 (RAt A A.heap.size rs) := by
    refine ⟨hR.1, hR.2.1, fun h0 => ?_⟩
    obtain ⟨b, off, e, hb, hj⟩ := hR.2.2 h0
    have hbc : b ≠ cb := by
      rintro rfl
      obtain ⟨x, y, z, hr, _⟩ := hj 0 (by omega) _ (List.getElem?_eq_getElem (by omega))
      have := hr 1 _ rfl
      rw [cell_arr hcb] at this
      have h2 := hr 2 _ rfl
      rw [cell_arr hcb] at h2
      simp at h2
    refine ⟨b, off, e, by rw [hpt.size]; exact hb, fun j hjn r hr => ?_⟩
    obtain ⟨x, y, z, h1, h2⟩ := hj j hjn r hr
    exact ⟨x, y, z, fun t u ht => (World.cell?_of_block (w := w) (a := ⟨b, off + j * 3 + t, none⟩) (hpt.block b hbc)).trans (h1 t u ht), h2.keep hk2⟩
  have HSum := hide (sumOf_any (X := XX) hRA hnR hSA hnB (Nat.le_refl _) hn (rows_ok hrl hC) (fun s z hz => Int.lt_of_lt_of_le (by have := numT_bound (by omega) hz; omega) (pow_pw (d := 1600) (k := 3000) (by omega))) big_X)
  have f0 : A.cell? ⟨fb, fo, none⟩ = some (.slice aB nB cB) := hFA 0 _ rfl
  have f1 : A.cell? ⟨fb, fo + 1, none⟩ = some (.bool false) := hFA 1 _ rfl
  have c0 : A.cell? ⟨cb, 0, none⟩ = some (.int .i64 (left - 1)) := (blk hcA).2.1 0 _ rfl
  have HE := hide eA
  have HP := hide (show But cb w A from ⟨hpt.os, hpt.tape, hpt.output, Nat.le_of_eq hpt.size.symm, fun k _ hk => hpt.block k hk⟩)
  have g1 : decide ((200 : Int) < depth) = false := by simp; omega
  have g2 : decide (left - 1 < (0 : Int)) = false := by simp; omega
  have g3 : IntKind.i64.wrap (left - 1) = left - 1 := by rw [IntKind.wrap_i64]; omega
  rw [← eA] at f0 f1 c0
  clear hcb hdep hfb hfc hF hR hnR hS hnB hn hrl hC hcl eA hpt hcA hNo hk hk2 hFA hSA hRA
  go_enter Tryz.func33, Tryz.ntmps33
  go_wp2_with fail
  rw [unhide HE]
  refine (unhide HSum).mono ?_
  rintro e w3 ⟨r, rfl, hb3, ⟨mx, si, sa, sl, sc, rfl⟩, hq⟩
  obtain ⟨w4, e4, hb4, hs4, hc4, hh4⟩ := box_new w3 #[.map mx, .int .i64 si, .slice sa sl sc] 66
  have hB4 : But cb w w4 := (unhide HP).trans ((But.of hb3 (Nat.le_refl _)).trans (But.of hb4 (Nat.le_refl _)))
  have s0 : w4.cell? ⟨w3.heap.size, 0, none⟩ = some (.map mx) := (blk hh4).2.1 0 _ rfl
  have s1 : w4.cell? ⟨w3.heap.size, 1, none⟩ = some (.int .i64 si) := (blk hh4).2.1 1 _ rfl
  have s2 : w4.cell? ⟨w3.heap.size, 2, none⟩ = some (.slice sa sl sc) := (blk hh4).2.1 2 _ rfl
  have HE4 := hide e4
  have H4 := hide (And.intro hB4 (And.intro hb4 hq))
  rw [← e4] at s0 s1 s2
  clear hb3 hq e4 hb4 hs4 hc4 hh4 hB4 HSum HE HP f0 f1 c0 x0 xf g1 g2 g3
  cases hso : sumO rs bs with
  | none =>
    clear s0 s1 s2
    go_wp2
    go_ret
    rw [unhide HE4]
    refine ⟨false, rfl, ⟨fun h => (by cases h), fun ⟨q, h, _⟩ => by rw [hso] at h; cases h⟩, (unhide H4).1⟩
  | some q =>
    obtain ⟨hB4, hb4, hq⟩ := unhide H4
    obtain ⟨⟨D, mb, nn, i', a', l', c', ev, hom, hnn, hmf, hI⟩, hfb, hkb⟩ := hq q hso
    obtain ⟨rfl, rfl, rfl, rfl, rfl⟩ : mx = some mb ∧ i' = si ∧ a' = sa ∧ l' = sl ∧ c' = sc := by simp at ev; exact ⟨ev.1, ev.2.1.symm, ev.2.2.1.symm, ev.2.2.2.1.symm, ev.2.2.2.2.symm⟩
    have hom4 : w4.ownsMap Tryz.prog 9 R0 mb nn D := by
      obtain ⟨es, cl, hm, F, hs, hD⟩ := hom
      exact ⟨es, cl, (hb4.block mb (Array.getElem?_eq_some_iff.1 hm).1).trans hm, F, hs, hD⟩
    have HF := hide (isFalse_any hom4 (hI.more hb4 hb4.size) (by omega))
    have hz := size_zero hom4 (hmf.more hb4)
    have hiff : (decide (Maps.size D = 0) && decide (q.2 < 0)) = true ↔ Refuted rs bs := by
      simp only [Bool.and_eq_true, decide_eq_true_eq]
      constructor
      · rintro ⟨h1, h2⟩
        exact ⟨q, hso, hz.1 h1, h2⟩
      · rintro ⟨q', h, h1, h2⟩
        rw [hso] at h
        injection h with h
        subst h
        exact ⟨hz.2 h1, h2⟩
    obtain ⟨bb, hbb⟩ : ∃ bb, (decide (Maps.size D = 0) && decide (q.2 < 0)) = bb := ⟨_, rfl⟩
    rw [hbb] at HF hiff
    have HI := hide hiff
    clear hB4 hb4 hq ev hom hnn hmf hI hfb hkb hom4 hz hiff hbb hso
    go_wp2_with fail
    rw [unhide HE4]
    refine (unhide HF).mono ?_
    rintro e w5 ⟨rfl, hb5⟩
    have HB5 := hide ((unhide H4).1.trans (But.of hb5 (Nat.le_refl _)))
    clear hb5 HF s0 s1 s2
    go_wp2
    go_ret
    exact ⟨bb, rfl, unhide HI, unhide HB5⟩
/-- What Check says of a refutation that is a sum. -/
def CPost (ls : List (List (ByteArray × ByteArray) × ByteArray)) (bs : List ByteArray) (w : World) (e : Ending) (w' : World) : Prop := ∃ z : Int, e = .returned (.int .i64 z) ∧ Below w.heap.size w w' ∧ (readL ls = none → z = 90) ∧ ∀ rs, readL ls = some rs → (Refuted rs bs → z = 0) ∧ (¬ Refuted rs bs → z = 100)
set_option maxRecDepth 100000 in
set_option maxHeartbeats 4000000 in
theorem Check_sum {w : World} {aL aB : Option Addr} {n cL nB cB nr cr nl cl : Nat} {ar al : Option Addr} {kr : ByteArray} {ls : List (List (ByteArray × ByteArray) × ByteArray)} {bs : List ByteArray} (hL : Row w.heap.size aL n cL 2 (LAt w w.heap.size ls)) (hnl : n = ls.length) (hS : Row w.heap.size aB nB cB 1 (BA w bs)) (hnB : nB = bs.length) (hn : n ≤ 1000) (hC : ∀ l ∈ ls, l.1.length ≤ 1000) : Calls Tryz.prog 15 #[.slice aL n cL, .agg #[.slice aB nB cB, .bool false, .slice ar nr cr, .string kr, .slice al nl cl]] w (CPost ls bs w) := by
  obtain ⟨A, eA, hbA, hsA, hcA, hhA⟩ := box_new w #[.slice aB nB cB, .bool false, .slice ar nr cr, .string kr, .slice al nl cl] 31
  have hLA : Row w.heap.size aL n cL 2 (LAt A w.heap.size ls) := hL.mono (Nat.le_refl _) fun b o j hb h l hl => by
    obtain ⟨x, y, h1, h2⟩ := h l hl
    exact ⟨x, y, rangeAt_below h1 hb hbA, h2.more hbA⟩
  have HR := hide (readRows_any hLA hnl hbA.size (by omega) (fun l hl => by have := hC l hl; omega))
  have HE := hide eA
  have HB := hide (And.intro hbA (And.intro hsA hhA))
  have HC := hide (And.intro hS (And.intro hnB (And.intro hn (And.intro hC hnl))))
  clear hL hnl hS hnB hn hC eA hbA hsA hcA hhA hLA
  go_enter Tryz.func15, Tryz.ntmps15
  go_wp2_with fail
  rw [unhide HE]
  refine (unhide HR).mono ?_
  rintro e w2 ⟨aR, nR, cR, rfl, hb2, hrs⟩
  obtain ⟨hbA, hsA, hhA⟩ := unhide HB
  have hh2 := (hb2.block w.heap.size (by omega)).trans hhA
  have hb02 : Below w.heap.size w w2 := hbA.trans (hb2.mono hbA.size)
  have H2 := hide (And.intro hh2 (And.intro hb02 hrs))
  clear hbA hsA hhA hh2 hb02 hb2 hrs HR HE HB
  cases hrl : readL ls with
  | none =>
    go_wp2
    go_ret
    exact ⟨90, rfl, (unhide H2).2.1, fun _ => rfl, fun rs h => by rw [hrl] at h; cases h⟩
  | some rs =>
    obtain ⟨hh2, hb02, hrs⟩ := unhide H2
    obtain ⟨hS, hnB, hn, hC, hnl⟩ := unhide HC
    obtain ⟨k1, k2, k3⟩ := hrs rs hrl
    have hlr := allO_len hrl
    obtain ⟨w4, e4, hb4, hs4, hc4, hh4⟩ := box_new w2 #[.int .i64 33554432] 81
    have hb04 : Below w.heap.size w w4 := hb02.trans (hb4.mono hb02.size)
    have hS4 : Row w4.heap.size aB nB cB 1 (BA w4 bs) := hS.mono hb04.size fun b o j hb h s hs => (hb04.cell (p := ⟨b, o, none⟩) hb).trans (h s hs)
    have hR4 : Row w4.heap.size aR nR cR 3 (RAt w4 w4.heap.size rs) := k3.mono hb4.size fun b o j hb h r hr => by
      obtain ⟨x, y, z, h1, h2⟩ := h r hr
      exact ⟨x, y, z, rangeAt_below h1 hb hb4, h2.more hb4 hb4.size (Nat.le_refl _)⟩
    have hw2 : w.heap.size < w2.heap.size := (Array.getElem?_eq_some_iff.1 hh2).1
    have hF4 := range_block ((hb4.block w.heap.size hw2).trans hh2 : w4.heap[w.heap.size]? = some (.cells ([.slice aB nB cB, .bool false, .slice ar nr cr, .string kr, .slice al nl cl] : List Value).toArray 31))
    have HRef := hide (refutes_sum (w := w4) (cb := w2.heap.size) (fb := w.heap.size) (fo := 0) (left := 33554432) (depth := 1) hh4 (by omega) (by omega) (by omega) (by omega) hF4 hR4 k1 hS4 hnB (by omega) hrl hC)
    have HE4 := hide e4
    have HB4 := hide (And.intro hb04 (And.intro hb02 hs4))
    have HRL := hide hrl
    clear hh2 hb02 hrs hS hnB hn hC hnl k1 k2 k3 hlr e4 hb4 hs4 hc4 hh4 hb04 hS4 hR4 hw2 hF4 hrl
    go_wp2_with fail
    rw [unhide HE4]
    refine (unhide HRef).mono ?_
    rintro e w5 ⟨b, rfl, hbi, hbut⟩
    have hb5 : Below w.heap.size w w5 := by
      obtain ⟨hb04, hb02, hs4⟩ := unhide HB4
      have h2 := hb02.size
      exact hb04.trans ⟨hbut.os, hbut.tape, hbut.output, hbut.size, fun k hk => hbut.block k (by omega) (by omega)⟩
    have H5 := hide (And.intro hb5 hbi)
    clear hb5 hbi hbut HRef
    cases b with
    | false =>
      go_wp2
      go_ret
      obtain ⟨hb5, hbi⟩ := unhide H5
      refine ⟨100, rfl, hb5, fun h => (by rw [unhide HRL] at h; cases h), fun rs' h => ?_⟩
      rw [unhide HRL] at h
      injection h with h
      subst h
      exact ⟨fun h => (by simp [h] at hbi), fun _ => rfl⟩
    | true =>
      go_wp2
      go_ret
      obtain ⟨hb5, hbi⟩ := unhide H5
      refine ⟨0, rfl, hb5, fun h => (by rw [unhide HRL] at h; cases h), fun rs' h => ?_⟩
      rw [unhide HRL] at h
      injection h with h
      subst h
      exact ⟨fun _ => rfl, fun h => absurd (by simpa using hbi) h⟩
set_option maxRecDepth 100000 in
theorem row_any (a : Option Addr) (n c : Nat) (k : ByteArray) (w : World) : Calls Tryz.prog 21 #[.string k, .slice a n c] w (VPost (.agg #[.slice a n c, .string k]) w) := by
  go_enter Tryz.func21, Tryz.ntmps21
  go_wp2
  obtain ⟨A, eA, hbA, hsA, hcA, hhA⟩ := box_new w #[.slice a n c, .string k] 28
  rw [eA]
  exact bodyPost_ret (res_row (cs := [.slice a n c, .string k]) rfl rfl (range_block hhA) rfl rfl rfl) rfl ⟨rfl, hbA⟩
end Go.Proofs.YtnkigifcilgmbaaGreatDoor

/- Package farkas: refutations as trees; rows to which one is appended. -/
namespace Go.Proofs.YtnkigifcilgmbaaGreatDoor
open Go Go.RowKit Go.Maps
open _root_.Go.Proofs.YtnkigifcilgmbaaGreatDoor.Nm (IsI pw)
/-- A refutation, as a tree. -/
structure Fk where
  sum : List ByteArray
  split : Bool
  C : List (ByteArray × ByteArray)
  K : ByteArray
  l : List Fk
/-- A row's opposite. -/
def opp (r : List (ByteArray × Int) × Int) : List (ByteArray × Int) × Int := (r.1.map fun p => (p.1, -p.2), -r.2 - 1)
/-- Its number's text is short. -/
def shortI (z : Int) : Bool := decide ((Lib.trimPrefix (Lib.itoa z) [45]).length ≤ 400)
/-- So many levels are left: the rows are refuted. -/
def refP : Nat → List (List (ByteArray × Int) × Int) → Fk → Prop
  | 0, _, _ => False
  | k + 1, rs, f => (f.split = false ∧ Refuted rs f.sum) ∨ (f.split = true ∧ ∃ a b r, f.l = [a, b] ∧ readR f.C f.K = some r ∧ shortI (opp r).2 = true ∧ refP k (rs ++ [r]) a ∧ refP k (rs ++ [opp r]) b)
/-- So many parts. -/
def Fk.cnt : Fk → Nat
  | ⟨_, _, _, _, l⟩ => 1 + (l.map fun u => u.cnt).sum
theorem Fk.cnt_two {f a b : Fk} (h : f.l = [a, b]) : f.cnt = 1 + (a.cnt + b.cnt) := by
  obtain ⟨s, p, C, K, l⟩ := f
  simp only at h
  subst h
  simp [Fk.cnt]
theorem Fk.cnt_pos (f : Fk) : 1 ≤ f.cnt := by
  obtain ⟨s, p, C, K, l⟩ := f
  simp only [Fk.cnt]
  omega
/-- A refutation lies in memory below B, no deeper than so. -/
def FkAt (w : World) (B : Nat) : Nat → Nat → Nat → Fk → Prop
  | 0, _, _, _ => False
  | d + 1, b, o, f => b < B ∧ f.C.length ≤ 1000 ∧ ∃ aS nS cS aC nC cC aL nL cL, w.rangeAt b o [.slice aS nS cS, .bool f.split, .slice aC nC cC, .string f.K, .slice aL nL cL] ∧ nS = f.sum.length ∧ Row B aS nS cS 1 (BA w f.sum) ∧ nC = f.C.length ∧ Row B aC nC cC 2 (CA w f.C) ∧ nL = f.l.length ∧ Row B aL nL cL 5 (fun b o j => ∀ g, f.l[j]? = some g → FkAt w B d b o g)
theorem BA.more {w w' : World} {B : Nat} {bs : List ByteArray} {b o j : Nat} (hb : b < B) (hw : Below B w w') (h : BA w bs b o j) : BA w' bs b o j := fun s hs => (hw.cell (p := ⟨b, o, none⟩) hb).trans (h s hs)
theorem CA.more {w w' : World} {B : Nat} {C : List (ByteArray × ByteArray)} {b o j : Nat} (hb : b < B) (hw : Below B w w') (h : CA w C b o j) : CA w' C b o j := fun c hc => rangeAt_below (h c hc) hb hw
theorem FkAt.more {w w' : World} {B : Nat} (hw : Below B w w') : ∀ (d b o : Nat) (f : Fk), FkAt w B d b o f → FkAt w' B d b o f
  | 0, _, _, _, h => h
  | d + 1, b, o, f, ⟨hb, hC, aS, nS, cS, aC, nC, cC, aL, nL, cL, h1, h2, h3, h4, h5, h6, h7⟩ => by
    refine ⟨hb, hC, aS, nS, cS, aC, nC, cC, aL, nL, cL, rangeAt_below h1 hb hw, h2, h3.mono (Nat.le_refl _) fun b o j hb h => h.more hb hw, h4, h5.mono (Nat.le_refl _) fun b o j hb h => h.more hb hw, h6, h7.mono (Nat.le_refl _) fun b o j hb h g hg => FkAt.more hw d b o g (h g hg)⟩
/-- Numbers and names of a row are as they may be. -/
def RowOk (r : List (ByteArray × Int) × Int) : Prop := r.1.length ≤ 1000 ∧ r.2.natAbs < tenTo 400 ∧ ∀ p ∈ r.1, p.2.natAbs < tenTo 400 ∧ p.1.size ≤ 200 ∧ p.1.size ≠ 0
theorem RowOk.of {C : List (ByteArray × ByteArray)} {K : ByteArray} {r : List (ByteArray × Int) × Int} (h : readR C K = some r) (hC : C.length ≤ 1000) : RowOk r := by
  obtain ⟨k1, k2, k3⟩ := readR_mem h
  exact ⟨by omega, k2, k3⟩
theorem RowOk.all {ls : List (List (ByteArray × ByteArray) × ByteArray)} {rs : List (List (ByteArray × Int) × Int)} (h : readL ls = some rs) (hC : ∀ l ∈ ls, l.1.length ≤ 1000) : ∀ r ∈ rs, RowOk r := fun r hr => by
  obtain ⟨l, hl, e⟩ := allO_mem h r hr
  exact RowOk.of e (hC l hl)
theorem RowOk.sums {rs : List (List (ByteArray × Int) × Int)} (h : ∀ r ∈ rs, RowOk r) : ∀ r ∈ rs, r.1.length ≤ 1000 ∧ (r.2.natAbs : Int) < pw 3000 ∧ (∀ p ∈ r.1, (p.2.natAbs : Int) < pw 3000 ∧ p.1.size ≤ 200) ∧ ∀ s z, numT 1600 s = some z → r.2.natAbs * z.natAbs ≤ XX ∧ (∀ p ∈ r.1, p.2.natAbs * z.natAbs ≤ XX) := fun r hr => by
  obtain ⟨k1, k2, k3⟩ := h r hr
  have hp := pow_pw (d := 400) (k := 3000) (by omega)
  exact ⟨k1, by omega, fun p hp' => ⟨by have := (k3 p hp').1; omega, (k3 p hp').2.1⟩, fun s z hz => ⟨prod_X k2 (numT_bound (by omega) hz), fun p hp' => prod_X (k3 p hp').1 (numT_bound (by omega) hz)⟩⟩
/-- Rows in memory of their own. -/
def RowsM (w : World) (B g c : Nat) (rs : List (List (ByteArray × Int) × Int)) : Prop := ∃ cs, B ≤ g ∧ w.heap[g]? = some (.cells cs 77) ∧ rs.length ≤ c ∧ cs.size = c * 3 ∧ NoS cs ∧ ∀ j, RAt w w.heap.size rs g (j * 3) j
theorem RowsM.row {w : World} {B g c : Nat} {rs : List (List (ByteArray × Int) × Int)} (h : RowsM w B g c rs) (hn : rs.length ≤ 1000) : Row w.heap.size (some ⟨g, 0, none⟩) rs.length c 3 (RAt w w.heap.size rs) := by
  obtain ⟨cs, h1, h2, h3, h4, h5, h6⟩ := h
  refine ⟨h3, by omega, fun _ => ⟨g, 0, rfl, (Array.getElem?_eq_some_iff.1 h2).1, fun j _ => ?_⟩⟩
  rw [Nat.zero_add]
  exact h6 j
/-- What bears strings or digits stands. -/
def KeepS (w w' : World) : Prop := ∀ b, b < w.heap.size → (∃ o u, w.cell? ⟨b, o, none⟩ = some u ∧ Str u) → w'.heap[b]? = w.heap[b]? ∧ b < w'.heap.size ∧ b < w'.heap.size
theorem KeepS.of {w w' : World} (h : Below w.heap.size w w') : KeepS w w' := fun b hb _ => ⟨h.block b hb, Nat.lt_of_lt_of_le hb h.size, Nat.lt_of_lt_of_le hb h.size⟩
theorem KeepS.fr {w w' : World} {q g : Nat} {cs ds : Array Value} {t u : TypeId} (h : Fr q g w w') (hq : w.heap[q]? = some (.cells cs t)) (hc : NoS cs) (hg : w.heap[g]? = some (.cells ds u)) (hd : NoS ds) : KeepS w w' := fun b hb ⟨o, x, hx, hs⟩ => by
  have h1 : b ≠ q := by
    rintro rfl
    rw [cell_arr hq] at hx
    exact hc o x hx hs
  have h2 : b ≠ g := by
    rintro rfl
    rw [cell_arr hg] at hx
    exact hd o x hx hs
  exact ⟨h.block b hb h1 h2, Nat.lt_of_lt_of_le hb h.size, Nat.lt_of_lt_of_le hb h.size⟩
theorem RowsM.keep {w w' : World} {B g c : Nat} {rs : List (List (ByteArray × Int) × Int)} (h : RowsM w B g c rs) (hg : w'.heap[g]? = w.heap[g]?) (hk : KeepS w w') : RowsM w' B g c rs := by
  obtain ⟨cs, h1, h2, h3, h4, h5, h6⟩ := h
  refine ⟨cs, h1, hg.trans h2, h3, h4, h5, fun j r hr => ?_⟩
  obtain ⟨x, y, z, k1, k2⟩ := h6 j r hr
  exact ⟨x, y, z, fun t u hu => (World.cell?_of_block (w := w) (a := ⟨g, j * 3 + t, none⟩) hg).trans (k1 t u hu), k2.keep hk⟩
theorem RowsM.more {w w' : World} {B g c : Nat} {rs : List (List (ByteArray × Int) × Int)} (h : RowsM w B g c rs) (hb : Below w.heap.size w w') : RowsM w' B g c rs := h.keep (hb.block g (Array.getElem?_eq_some_iff.1 h.choose_spec.2.1).1) (.of hb)
theorem RowsM.front {w : World} {B g c : Nat} {rs : List (List (ByteArray × Int) × Int)} {r : List (ByteArray × Int) × Int} (h : RowsM w B g c (rs ++ [r])) : RowsM w B g c rs := by
  obtain ⟨cs, h1, h2, h3, h4, h5, h6⟩ := h
  refine ⟨cs, h1, h2, by simp at h3; omega, h4, h5, fun j x hx => h6 j x ?_⟩
  rw [List.getElem?_append_left (List.getElem?_eq_some_iff.1 hx).1]
  exact hx
theorem zero_noS (n : Nat) : NoS (Builtin.zeroCells #[.slice none 0 0, .int .i64 0, .slice none 0 0] n) := fun o u hu hs => by
  unfold Builtin.zeroCells at hu
  rw [Array.getElem?_map] at hu
  obtain ⟨a, _, h2⟩ := Option.map_eq_some_iff.1 hu
  have h3 : a % 3 < 3 := Nat.mod_lt _ (by omega)
  have h4 : (#[Value.slice none 0 0, .int .i64 0, .slice none 0 0] : Array Value).size = 3 := rfl
  rw [h4] at h2
  generalize a % 3 = b at *
  match b, h3 with
  | 0, _ => subst h2; rcases hs with ⟨s, e⟩ | ⟨s, e⟩ <;> cases e
  | 1, _ => subst h2; rcases hs with ⟨s, e⟩ | ⟨s, e⟩ <;> cases e
  | 2, _ => subst h2; rcases hs with ⟨s, e⟩ | ⟨s, e⟩ <;> cases e
theorem NoS.mem {cs : Array Value} : NoS cs ↔ ∀ u ∈ cs.toList, ¬ Str u := by
  constructor
  · intro h u hu
    obtain ⟨i, hi⟩ := List.getElem?_of_mem hu
    exact h i u (by simpa using hi)
  · intro h o u hu
    exact h u (List.mem_of_getElem? (by simpa using hu))
theorem row_noS {a a2 : Option Addr} {n c n2 c2 : Nat} {i : Int} : ∀ u ∈ ([.slice a n c, .int .i64 i, .slice a2 n2 c2] : List Value), ¬ Str u := fun u hu hs => by
  simp at hu
  rcases hu with rfl | rfl | rfl <;> rcases hs with ⟨s, e⟩ | ⟨s, e⟩ <;> cases e
/-- What an append of one row leaves. -/
structure AppR (w : World) (B g c g' c' : Nat) (rs : List (List (ByteArray × Int) × Int)) (r : List (ByteArray × Int) × Int) (w' : World) : Prop where
  rows : RowsM w' B g' c' (rs ++ [r])
  old : RowsM w' B g c rs
  at_ : (g' = g ∧ c' = c) ∨ g' = w.heap.size
  fr : ∀ q, Fr q g w w'
  keep : KeepS w w'
theorem app_row {w : World} {B g c h m : Nat} {rs : List (List (ByteArray × Int) × Int)} {r : List (ByteArray × Int) × Int} {a a2 : Option Addr} {n0 c0 n2 c2 : Nat} {i : Int} (hR : RowsM w B g c rs) (hh : w.rangeAt h 0 [.slice a n0 c0, .int .i64 i, .slice a2 n2 c2]) (hI : IsR w w.heap.size (.agg #[.slice a n0 c0, .int .i64 i, .slice a2 n2 c2]) r.1 r.2) (hn : rs.length ≤ 1000) (hB : B ≤ w.heap.size) (ty : TypeId) :
    ∃ g' c' w', (Builtin.append_ #[58, 58] ty #[.slice (some ⟨g, 0, none⟩) rs.length c, .slice (some ⟨h, 0, none⟩) 1 m]).run Tryz.prog w = .ok (.slice (some ⟨g', 0, none⟩) (rs.length + 1) c') w' ∧ AppR w B g c g' c' rs r w' := by
  obtain ⟨cs, h1, h2, h3, h4, h5, h6⟩ := id hR
  obtain ⟨inf, hi, hz0, hz1, hz2⟩ := inf_of infRow
  have hgs : g < w.heap.size := (Array.getElem?_eq_some_iff.1 h2).1
  have hnews : ∀ j u, ([.slice a n0 c0, .int .i64 i, .slice a2 n2 c2] : List Value)[j]? = some u → w.cell? ((⟨h, 0, none⟩ : Addr).add j) = some u := fun j u hu => by
    rw [Addr.add_lit]
    exact hh j u hu
  have hone : ∀ u ∈ ([.slice a n0 c0, .int .i64 i, .slice a2 n2 c2] : List Value), u.oneCell' = true := fun u hu => by
    simp at hu
    rcases hu with rfl | rfl | rfl <;> rfl
  have hRA : ∀ {W : World} {g' : Nat} {ds : Array Value}, W.heap[g']? = some (.cells ds 77) → KeepS w W → (∀ o, o < rs.length * 3 → ds[o]? = cs[o]?) → (∀ (o : Nat) u, ([.slice a n0 c0, .int .i64 i, .slice a2 n2 c2] : List Value)[o]? = some u → ds[rs.length * 3 + o]? = some u) → ∀ j, RAt W W.heap.size (rs ++ [r]) g' (j * 3) j := fun {W g' ds} hW hk hold hnew j x hx => by
    rcases Nat.lt_or_ge j rs.length with e | e
    · rw [List.getElem?_append_left e] at hx
      obtain ⟨p, y, z, q1, q2⟩ := h6 j x hx
      refine ⟨p, y, z, fun t u hu => ?_, q2.keep hk⟩
      have ht : t < 3 := by
        have := (List.getElem?_eq_some_iff.1 hu).1
        simpa using this
      rw [cell_arr hW, hold _ (by omega), ← cell_arr h2]
      exact q1 t u hu
    · rw [List.getElem?_append_right e] at hx
      obtain rfl : j = rs.length := by
        have := (List.getElem?_eq_some_iff.1 hx).1
        simp at this
        omega
      have : x = r := by simpa using hx.symm
      subst this
      refine ⟨_, _, _, fun t u hu => ?_, hI.keep hk⟩
      rw [cell_arr hW]
      exact hnew t u hu
  by_cases hroom : rs.length + 1 ≤ c
  · have hfit : rs.length * inf.size + ([.slice a n0 c0, .int .i64 i, .slice a2 n2 c2] : List Value).length ≤ cs.size := by rw [hz1, h4]; simp; omega
    have hr := run_append_room (P := Tryz.prog) w 58 ty 77 inf Tryz.underlying58 hi g rs.length c cs h2 ⟨h, 0, none⟩ 1 m [.slice a n0 c0, .int .i64 i, .slice a2 n2 c2] (by rw [hz1]; rfl) hnews hone hroom hfit
    rw [hz1] at hr
    obtain ⟨ds, hds⟩ : ∃ ds, (cs.toList.take (rs.length * 3) ++ ([.slice a n0 c0, .int .i64 i, .slice a2 n2 c2] : List Value) ++ cs.toList.drop (rs.length * 3 + ([.slice a n0 c0, .int .i64 i, .slice a2 n2 c2] : List Value).length)).toArray = ds := ⟨_, rfl⟩
    rw [hds] at hr
    have hW := setRow_heap w g cs ds 77 (0, 0) h2
    have hfr : ∀ q, Fr q g w (w.setRow g ds) := fun q => ⟨rfl, rfl, rfl, by simp, fun k hk _ hg => setRow_other w g k ds hg⟩
    have hk : KeepS w (w.setRow g ds) := .fr (hfr g) h2 h5 h2 h5
    have hlen : (cs.toList.take (rs.length * 3)).length = rs.length * 3 := by simp; omega
    have hsz : ds.size = c * 3 := by
      rw [← hds]
      simp
      omega
    have hno : NoS ds := NoS.mem.2 fun u hu => by
      rw [← hds] at hu
      simp only [List.mem_append] at hu
      rcases hu with (hu | hu) | hu
      · exact NoS.mem.1 h5 u (List.mem_of_mem_take hu)
      · exact row_noS u hu
      · exact NoS.mem.1 h5 u (List.mem_of_mem_drop hu)
    have hrows : RowsM (w.setRow g ds) B g c (rs ++ [r]) := ⟨ds, h1, hW, by simp; omega, hsz, hno, hRA hW hk (fun o ho => by
        rw [← hds, List.getElem?_toArray, List.append_assoc, List.getElem?_append_left (by omega), List.getElem?_take, if_pos ho]
        simp) (fun o u hu => by
        rw [← hds, List.getElem?_toArray, List.append_assoc, List.getElem?_append_right (by omega), hlen, Nat.add_sub_cancel_left, List.getElem?_append_left (List.getElem?_eq_some_iff.1 hu).1]
        exact hu)⟩
    exact ⟨g, c, _, hr, hrows, hrows.front, .inl ⟨rfl, rfl⟩, hfr, hk⟩
  · have holds : ∀ j u, (cs.toList.take (rs.length * 3))[j]? = some u → w.cell? ((⟨g, 0, none⟩ : Addr).add j) = some u := fun j u hu => by
      rw [Addr.add_lit, Nat.zero_add, cell_arr h2]
      rw [List.getElem?_take] at hu
      split at hu
      · simpa using hu
      · cases hu
    have hlen : (cs.toList.take (rs.length * 3)).length = rs.length * 3 := by simp; omega
    have hr := run_append_grow (P := Tryz.prog) w 58 ty 77 inf _ Tryz.underlying58 hi hz0 ⟨g, 0, none⟩ rs.length c (cs.toList.take (rs.length * 3)) (by rw [hz1]; exact hlen) holds ⟨h, 0, none⟩ 1 m [.slice a n0 c0, .int .i64 i, .slice a2 n2 c2] (by rw [hz1]; rfl) hnews (by omega) (by omega) (growslice_fits (by omega) (by rw [hz2]; omega))
    have hge := grownCap_ge w (rs.length + 1) c 77
    obtain ⟨cc, hcc⟩ : ∃ cc, grownCap w (rs.length + 1) c 77 = cc := ⟨_, rfl⟩
    rw [hcc] at hr hge
    have hzc : (Value.agg #[.slice none 0 0, .int .i64 0, .slice none 0 0]).cells = #[.slice none 0 0, .int .i64 0, .slice none 0 0] := rfl
    rw [hzc] at hr
    obtain ⟨ds, hds⟩ : ∃ ds, (cs.toList.take (rs.length * 3)).toArray ++ ([.slice a n0 c0, .int .i64 i, .slice a2 n2 c2] : List Value).toArray ++ Builtin.zeroCells #[.slice none 0 0, .int .i64 0, .slice none 0 0] (cc - (rs.length + 1)) = ds := ⟨_, rfl⟩
    rw [hds] at hr
    have hb : Below w.heap.size w (w.drew.alloc (.cells ds 77)) := ((Below.refl w.heap.size w).drew).alloc (Nat.le_refl _) _
    have hW : (w.drew.alloc (.cells ds 77)).heap[w.heap.size]? = some (.cells ds 77) := (MapKept.heap_alloc w.drew (.cells ds 77)).1
    have hsz : ds.size = cc * 3 := by
      rw [← hds]
      simp only [Array.size_append, List.size_toArray, size_zeroCells, hlen]
      simp
      omega
    have hno : NoS ds := NoS.mem.2 fun u hu => by
      rw [← hds] at hu
      simp only [Array.toList_append, List.mem_append] at hu
      rcases hu with (hu | hu) | hu
      · exact NoS.mem.1 h5 u (List.mem_of_mem_take hu)
      · exact row_noS u hu
      · exact NoS.mem.1 (zero_noS _) u hu
    refine ⟨w.heap.size, cc, _, hr, ⟨ds, hB, hW, by simp; omega, hsz, hno, hRA hW (.of hb) (fun o ho => ?_) (fun o u hu => ?_)⟩, hR.more hb, .inr rfl, fun q => Fr.of hb (Nat.le_refl _), .of hb⟩
    · rw [← hds, Array.append_assoc, Array.getElem?_append_left (by simp; omega), List.getElem?_toArray, List.getElem?_take, if_pos ho]
      simp
    · have ho3 : o < 3 := by
        have := (List.getElem?_eq_some_iff.1 hu).1
        simpa using this
      rw [← hds, Array.getElem?_append_left (by simp; omega), Array.getElem?_append_right (by simp; omega), List.getElem?_toArray]
      rw [show rs.length * 3 + o - (cs.toList.take (rs.length * 3)).toArray.size = o by simp; omega]
      exact hu
end Go.Proofs.YtnkigifcilgmbaaGreatDoor

/- Package farkas: opposite, its regions. -/
namespace Go.Proofs.YtnkigifcilgmbaaGreatDoor
open Go Go.RowKit Go.Maps
open _root_.Go.Proofs.YtnkigifcilgmbaaGreatDoor.Nm (IsI pw)
theorem enter_Neg : Enters Tryz.prog 87 := ⟨fun xs w => by go_simp⟩
theorem enter_Sub : Enters Tryz.prog 88 := ⟨fun xs w => by go_simp⟩
theorem enter_Of : Enters Tryz.prog 71 := ⟨fun xs w => by go_simp⟩
theorem enter_Short : Enters Tryz.prog 53 := ⟨fun xs w => by go_simp⟩
set_option maxRecDepth 100000 in
theorem fa_row0 (r : Nat) (w : World) : (Instr.fieldAt 77 (.pointer (some ⟨r, 0, none⟩)) 0).run Tryz.prog w = .ok (.pointer (some ⟨r, 0, none⟩)) w := by go_simp
set_option maxRecDepth 100000 in
theorem fa_part0 (r : Nat) (w : World) : (Instr.fieldAt 102 (.pointer (some ⟨r, 0, none⟩)) 0).run Tryz.prog w = .ok (.pointer (some ⟨r, 0, none⟩)) w := by go_simp
set_option maxRecDepth 100000 in
theorem fa_part1 (r : Nat) (w : World) : (Instr.fieldAt 102 (.pointer (some ⟨r, 0, none⟩)) 1).run Tryz.prog w = .ok (.pointer (some ⟨r, 1, none⟩)) w := by go_simp
set_option maxRecDepth 100000 in
theorem ld_P {r o : Nat} {v : Value} {w : World} (h : w.cell? ⟨r, o, none⟩ = some v) : (Instr.loadAt 75 (.pointer (some ⟨r, o, none⟩))).run Tryz.prog w = .ok v w := by
  go_simp
set_option maxRecDepth 100000 in
theorem ld_S {r o : Nat} {v : Value} {w : World} (h : w.cell? ⟨r, o, none⟩ = some v) : (Instr.loadAt 9 (.pointer (some ⟨r, o, none⟩))).run Tryz.prog w = .ok v w := by
  go_simp
set_option maxRecDepth 100000 in
theorem ld_R {b o : Nat} {x y z : Value} {w : World} (h : w.rangeAt b o [x, y, z]) : (Instr.loadAt 77 (.pointer (some ⟨b, o, none⟩))).run Tryz.prog w = .ok (.agg #[x, y, z]) w := run_loadAt_mid (P := Tryz.prog) w b o 77 _ _ h rfl rfl rfl
section
variable {X : Exit → Act → World → Prop} {K : Act → World → Prop} {a : Act} {w : World} {dst : Option Tmp} {ty : TypeId} {pos : String} {af : Array Edge} {gd : Option (Nat × Bool)} {k : Nat}
set_option maxRecDepth 100000 in
set_option maxHeartbeats 4000000 in
theorem op_len {b : Option Addr} {n c : Nat} (hv : a.tmps.getD k undef = .slice b n c) (h : K (a.put dst (.int .i64 n)) w) : Oper.wp Tryz.prog ⟨dst, .call { callee := .builtin .len, args := #[.tmp k], argTypes := #[75] }, ty, pos, af, gd⟩ a w K X := by
  have e : a.eval (.tmp k) = .slice b n c := hv
  unfold Oper.wp
  simp only [execOp, List.map_toArray, List.map_cons, List.map_nil, e]
  go_simp
  exact h
theorem op_mk {t : TypeId} {k2 : Nat} {u v : Value} {w' : World} (h1 : a.tmps.getD k undef = u) (h2 : a.tmps.getD k2 undef = u) (hr : (Instr.makeSlice t u u).run Tryz.prog w = .ok v w') (h : K (a.put dst v) w') : Oper.wp Tryz.prog ⟨dst, .makeSlice t (.tmp k) (.tmp k2), ty, pos, af, gd⟩ a w K X := by
  have e1 : a.eval (.tmp k) = u := h1
  have e2 : a.eval (.tmp k2) = u := h2
  unfold Oper.wp
  simp [execOp, e1, e2, hr, Oper.upon, h]
set_option maxRecDepth 100000 in
set_option maxHeartbeats 4000000 in
theorem op_bldR {k2 : Nat} {b : Option Addr} {n c : Nat} {x y : Value} (h1 : a.tmps.getD k undef = .slice b n c) (h2 : a.tmps.getD k2 undef = .agg #[x, y]) (h : K (a.put dst (.agg #[.slice b n c, x, y])) w) : Oper.wp Tryz.prog ⟨dst, .build 77 #[(0, .tmp k), (1, .tmp k2)], ty, pos, af, gd⟩ a w K X := by
  have e1 : a.eval (.tmp k) = .slice b n c := h1
  have e2 : a.eval (.tmp k2) = .agg #[x, y] := h2
  unfold Oper.wp
  simp only [execOp, List.map_toArray, List.map_cons, List.map_nil, e1, e2]
  go_simp
  exact h
set_option maxRecDepth 100000 in
set_option maxHeartbeats 4000000 in
theorem op_bldP {k2 : Nat} {s : ByteArray} {x y : Value} (h1 : a.tmps.getD k undef = .string s) (h2 : a.tmps.getD k2 undef = .agg #[x, y]) (h : K (a.put dst (.agg #[.string s, x, y])) w) : Oper.wp Tryz.prog ⟨dst, .build 102 #[(0, .tmp k), (1, .tmp k2)], ty, pos, af, gd⟩ a w K X := by
  have e1 : a.eval (.tmp k) = .string s := h1
  have e2 : a.eval (.tmp k2) = .agg #[x, y] := h2
  unfold Oper.wp
  simp only [execOp, List.map_toArray, List.map_cons, List.map_nil, e1, e2]
  go_simp
  exact h
set_option maxRecDepth 100000 in
set_option maxHeartbeats 4000000 in
theorem op_alR (h : K (a.put dst (.pointer (some ⟨w.heap.size, 0, none⟩))) (w.alloc (.cells #[.slice none 0 0, .int .i64 0, .slice none 0 0] 77))) : Oper.wp Tryz.prog ⟨dst, .alloc 77, ty, pos, af, gd⟩ a w K X := by
  unfold Oper.wp
  simp only [execOp]
  go_simp
  exact h
theorem op_idx {t : TypeId} {x ix : Operand} {u i v : Value} (h1 : a.eval x = u) (h2 : a.eval ix = i) (hr : (Instr.indexAt t u i).run Tryz.prog w = .ok v w) (h : K (a.put dst v) w) : Oper.wp Tryz.prog ⟨dst, .indexAddr t x ix, ty, pos, af, gd⟩ a w K X := by
  unfold Oper.wp
  simp [execOp, h1, h2, hr, Oper.upon, h]
end
end Go.Proofs.YtnkigifcilgmbaaGreatDoor

namespace Go.Proofs.YtnkigifcilgmbaaGreatDoor
open Go Go.RowKit Go.Maps
open _root_.Go.Proofs.YtnkigifcilgmbaaGreatDoor.Nm (IsI pw)
def mP (n : Nat) : Array Value := madeCells #[.string ⟨#[]⟩, .int .i64 0, .slice none 0 0] (n * 3)
def spO1 (B xb n cp : Nat) (ap : Option Addr) (x1 x2 : Value) (k : Int) (j : Nat) (w : World) (v : Value) : Prop :=
  (j = 0 → v = .pointer (some ⟨xb, 0, none⟩)) ∧ (j = 1 → v = .slice ap n cp) ∧ (j = 2 → v = .int .i64 n) ∧ (j = 3 → ∃ pb, v = .slice (some ⟨pb, 0, none⟩) n n ∧ B ≤ pb ∧ w.heap[pb]? = some (.cells (mP n) 102)) ∧ (j = 4 → v = .pointer (some ⟨xb, 1, none⟩)) ∧ (j = 5 → v = .agg #[x1, x2]) ∧ (j = 6 → IsI w v (-k)) ∧ (j = 7 → v = .agg #[.int .i64 1, .slice none 0 0]) ∧ (j = 8 → IsI w v (-k - 1)) ∧
  (j = 9 → ∃ pb m0 ma ml mc, v = .agg #[.slice (some ⟨pb, 0, none⟩) n n, .int .i64 m0, .slice ma ml mc] ∧ B ≤ pb ∧ w.heap[pb]? = some (.cells (mP n) 102) ∧ IsI w (.agg #[.int .i64 m0, .slice ma ml mc]) (-k - 1)) ∧
  (j = 10 → ∃ ob, v = .pointer (some ⟨ob, 0, none⟩) ∧ B ≤ ob ∧ w.heap[ob]? = some (.cells #[.slice none 0 0, .int .i64 0, .slice none 0 0] 77))
def keptO1 : List Nat := (List.range 41).filter fun i => !(decide (7 ≤ i) && decide (i ≤ 16)) && !(i == 4)
def JO1 (w0 : World) (n : Nat) (k : Int) (w : World) (v : Value) : Prop := ∃ pb ob m0 ma ml mc, v = .pointer (some ⟨ob, 0, none⟩) ∧ Below w0.heap.size w0 w ∧ w.heap[pb]? = some (.cells (mP n) 102) ∧ w.heap[ob]? = some (.cells #[.slice (some ⟨pb, 0, none⟩) n n, .int .i64 m0, .slice ma ml mc] 77) ∧ IsB w w.heap.size (.agg #[.int .i64 m0, .slice ma ml mc]) (-k - 1) ∧ w0.heap.size ≤ pb ∧ w0.heap.size ≤ ob ∧ pb ≠ ob
set_option maxRecDepth 100000 in
set_option maxHeartbeats 4000000 in
theorem opp_r1 {Q : Exit → Act → World → Prop} {a0 : Act} {w0 : World} {xb n cp : Nat} {ap : Option Addr} {x1 x2 : Value} {k : Int} (hN : a0.tmps.size = 41) (h1 : a0.tmps[1]? = some (.pointer (some ⟨xb, 0, none⟩)))
    (hX : w0.heap[xb]? = some (.cells #[.slice ap n cp, x1, x2] 77)) (hx : IsB w0 w0.heap.size (.agg #[x1, x2]) k) (bk : (k.natAbs : Int) < pw 3000) (hn : n ≤ 1000000)
    (hend : ∀ (a : Act) (w : World), a.defers = a0.defers → a.tmps.size = 41 → (∀ k, k ∈ keptO1 → a.tmps[k]? = a0.tmps[k]?) → JO1 w0 n k w (a.tmps.getD 4 undef) → Q .normal a w) :
    (Code.region 1 (Nm.regionOf Tryz.f63 1).toArray true).wp Tryz.prog Q a0 w0 := by
  have hD : Below w0.heap.size w0 w0.drew := (Below.refl _ w0).drew
  have hl : (Nm.regionOf Tryz.f63 1).length = 12 := by kernel_rfl
  have hXlt : xb < w0.heap.size := (Array.getElem?_eq_some_iff.1 hX).1
  have b1 : (k.natAbs : Int) < pw 10000 := Int.lt_of_lt_of_le bk (Nm.pw_mono (by omega))
  have b2 : ((-k).natAbs : Int) < pw 4000 := by rw [Int.natAbs_neg]; exact Int.lt_of_lt_of_le bk (Nm.pw_mono (by omega))
  have b3 : ((1 : Int).natAbs : Int) < pw 4000 := by
    have := Nm.pw_mono (a := 1) (b := 4000) (by omega)
    have h0 : pw 1 = 1000000000 := by decide
    show (1 : Int) < pw 4000
    omega
  refine wp_region_any (by kernel_rfl) ?_
  refine one_store2 (l := (Nm.regionOf Tryz.f63 1)) (w0 := w0.drew) 41 w0.heap.size 11 10 keptO1 [0, 1, 2, 3, 4, 5, 6, 7, 8, 9, 10] (spO1 w0.heap.size xb n cp ap x1 x2 k) (fun _ _ => True) (JO1 w0 n k) (by kernel_rfl) hN (Nat.le_refl _) (by rw [hl]; omega) (by kernel_rfl) (by kernel_rfl) (by kernel_rfl) (by kernel_rfl) (by decide) (by decide) (by kernel_rfl) ?_ (fun _ => trivial) ?_ ?_ ?_ ?_
  · intro j w w' v h hb
    have q : ∀ {b : Nat} {o : Obj}, w.heap[b]? = some o → w'.heap[b]? = some o := fun {b o} h => (hb.block b (Array.getElem?_eq_some_iff.1 h).1).trans h
    obtain ⟨q0, q1, q2, q3, q4, q5, q6, q7, q8, q9, q10⟩ := h
    refine ⟨q0, q1, q2, fun e => ?_, q4, q5, fun e => (q6 e).below hb, q7, fun e => (q8 e).below hb, fun e => ?_, fun e => ?_⟩
    · obtain ⟨pb, e1, e2, e3⟩ := q3 e
      exact ⟨pb, e1, e2, q e3⟩
    · obtain ⟨pb, m0, ma, ml, mc, e1, e2, e3, e4⟩ := q9 e
      exact ⟨pb, m0, ma, ml, mc, e1, e2, q e3, e4.below hb⟩
    · obtain ⟨ob, e1, e2, e3⟩ := q10 e
      exact ⟨ob, e1, e2, q e3⟩
  · intro j hj a w hb hnn hk hp
    have hb0 : Below w0.heap.size w0 w := hD.trans hb
    have k1 : a.eval (.tmp 1) = .pointer (some ⟨xb, 0, none⟩) := getD_of ((hk 1 (by decide)).trans h1)
    have hXw := (hb0.block xb hXlt).trans hX
    have hi' : j = 0 ∨ j = 1 ∨ j = 2 ∨ j = 3 ∨ j = 4 ∨ j = 5 ∨ j = 6 ∨ j = 7 ∨ j = 8 ∨ j = 9 ∨ j = 10 := by simpa using hj
    rcases hi' with rfl | rfl | rfl | rfl | rfl | rfl | rfl | rfl | rfl | rfl | rfl
    · exact st_want (wnone rfl) (op_fieldAddr k1 (fa_row0 xb w) ⟨_, rfl, Below.refl _ _, by simp [spO1], trivial⟩)
    · have e : a.eval (.tmp 7) = .pointer (some ⟨xb, 0, none⟩) := (hp 0 rfl (by decide)).1 rfl
      exact st_want (wnone rfl) (op_load e (ld_P ((blk hXw).2.1 0 _ rfl)) ⟨_, rfl, Below.refl _ _, by simp [spO1], trivial⟩)
    · have e : a.tmps.getD 8 undef = .slice ap n cp := (hp 1 rfl (by decide)).2.1 rfl
      exact st_want (wnone rfl) (op_len e ⟨_, rfl, Below.refl _ _, by simp [spO1], trivial⟩)
    · have e : a.tmps.getD 9 undef = .int .i64 n := (hp 2 rfl (by decide)).2.2.1 rfl
      obtain ⟨A, eA, hbA, hsA, hcA, hhA⟩ := box_new w (mP n) 102
      refine st_want (wnone rfl) (op_mk e e (mkPart n w hn) ⟨_, rfl, ?_, ?_, trivial⟩)
      · show Below w.heap.size w (w.alloc (.cells (mP n) 102))
        rw [eA]
        exact hbA
      · refine ⟨by simp, by simp, by simp, fun _ => ⟨w.heap.size, rfl, hb0.size, ?_⟩, by simp, by simp, by simp, by simp, by simp, by simp, by simp⟩
        show (w.alloc (.cells (mP n) 102)).heap[w.heap.size]? = _
        rw [eA]
        exact hhA
    · exact st_want (wnone rfl) (op_fieldAddr k1 (fa_row xb w) ⟨_, rfl, Below.refl _ _, by simp [spO1], trivial⟩)
    · have e : a.eval (.tmp 11) = .pointer (some ⟨xb, 1, none⟩) := (hp 4 rfl (by decide)).2.2.2.2.1 rfl
      refine st_want (wnone rfl) (op_load e (ld_I (x := x1) (y := x2) fun j v hv => ?_) ⟨_, rfl, Below.refl _ _, by simp [spO1], trivial⟩)
      match j, hv with
      | 0, hv => exact ((blk hXw).2.1 1 _ rfl).trans (by simpa using hv)
      | 1, hv => exact ((blk hXw).2.1 2 _ rfl).trans (by simpa using hv)
      | j + 2, hv => simp at hv
    · have e : a.tmps.getD 12 undef = .agg #[x1, x2] := (hp 5 rfl (by decide)).2.2.2.2.2.1 rfl
      refine st_want (wnone rfl) (op_call enter_Neg ?_)
      rw [show (#[Operand.tmp 12]).map a.eval = #[.agg #[x1, x2]] by simp only [List.map_toArray, List.map_cons, List.map_nil, Act.eval]; rw [e]]
      refine (Nm.neg_any _ k w (hx.more hb0 hb0.size).1 b1).mono ?_
      rintro ex w' ⟨q, rfl, hb', hI⟩
      exact ⟨q, rfl, q, rfl, hb', ⟨by simp, by simp, by simp, by simp, by simp, by simp, fun _ => hI, by simp, by simp, by simp, by simp⟩, trivial⟩
    · refine st_want (wnone rfl) (op_call enter_Of ?_)
      rw [show (#[Operand.const (.int .i64 1)]).map a.eval = #[.int .i64 1] by simp only [List.map_toArray, List.map_cons, List.map_nil, Act.eval]]
      refine (Nm.of_any 1 w).mono ?_
      rintro ex w' ⟨rfl, hb'⟩
      exact ⟨_, rfl, _, rfl, hb', by simp [spO1], trivial⟩
    · have e1 : IsI w (a.tmps.getD 13 undef) (-k) := (hp 6 rfl (by decide)).2.2.2.2.2.2.1 rfl
      have e2 : a.tmps.getD 14 undef = .agg #[.int .i64 1, .slice none 0 0] := (hp 7 rfl (by decide)).2.2.2.2.2.2.2.1 rfl
      refine st_want (wnone rfl) (op_call enter_Sub ?_)
      rw [show (#[Operand.tmp 13, .tmp 14]).map a.eval = #[a.tmps.getD 13 undef, .agg #[.int .i64 1, .slice none 0 0]] by simp only [List.map_toArray, List.map_cons, List.map_nil, Act.eval]; rw [e2]]
      refine (Nm.sub_any _ _ (-k) 1 w e1 (IsB.small w 0 (by decide) (by decide)).1 b2 b3).mono ?_
      rintro ex w' ⟨q, rfl, hb', hI⟩
      exact ⟨q, rfl, q, rfl, hb', ⟨by simp, by simp, by simp, by simp, by simp, by simp, by simp, by simp, fun _ => hI, by simp, by simp⟩, trivial⟩
    · obtain ⟨pb, e1, e2, e3⟩ := (hp 3 rfl (by decide)).2.2.2.1 rfl
      have hI : IsI w (a.tmps.getD 15 undef) (-k - 1) := (hp 8 rfl (by decide)).2.2.2.2.2.2.2.2.1 rfl
      obtain ⟨m0, ma, ml, mc, e4⟩ := hI.form
      rw [e4] at hI
      have e1' : a.tmps.getD 10 undef = .slice (some ⟨pb, 0, none⟩) n n := e1
      exact st_want (wnone rfl) (op_bldR e1' e4 ⟨_, rfl, Below.refl _ _, ⟨by simp, by simp, by simp, by simp, by simp, by simp, by simp, by simp, by simp, fun _ => ⟨pb, m0, ma, ml, mc, rfl, e2, e3, hI⟩, by simp⟩, trivial⟩)
    · obtain ⟨A, eA, hbA, hsA, hcA, hhA⟩ := box_new w #[.slice none 0 0, .int .i64 0, .slice none 0 0] 77
      refine st_want (wnone rfl) (op_alR ?_)
      rw [eA]
      exact ⟨_, rfl, hbA, ⟨by simp, by simp, by simp, by simp, by simp, by simp, by simp, by simp, by simp, by simp, fun _ => ⟨w.heap.size, rfl, hb0.size, hhA⟩⟩, trivial⟩
  · intro j hj hj1 hj2 a w hn hk hp
    rw [hl] at hj
    have hj1' : ¬ (j = 0 ∨ j = 1 ∨ j = 2 ∨ j = 3 ∨ j = 4 ∨ j = 5 ∨ j = 6 ∨ j = 7 ∨ j = 8 ∨ j = 9 ∨ j = 10) := by simpa using hj1
    omega
  · intro a w hb hnn hk hp
    have hb0 : Below w0.heap.size w0 w := hD.trans hb
    obtain ⟨pb, m0, ma, ml, mc, e1, e2, e3, hI⟩ := (hp 9 (by decide)).2.2.2.2.2.2.2.2.2.1 rfl
    obtain ⟨ob, f1, f2, f3⟩ := (hp 10 (by decide)).2.2.2.2.2.2.2.2.2.2 rfl
    have e4 : a.eval (.tmp 16) = .agg #[.slice (some ⟨pb, 0, none⟩) n n, .int .i64 m0, .slice ma ml mc] := e1
    have f4 : a.eval (.tmp 4) = .pointer (some ⟨ob, 0, none⟩) := f1
    have r0 : w.cell? ⟨ob, 0, none⟩ = some (.slice none 0 0) := (blk f3).2.1 0 _ rfl
    have r1 : w.cell? ⟨ob, 1, none⟩ = some (.int .i64 0) := (blk f3).2.1 1 _ rfl
    have r2 : w.cell? ⟨ob, 2, none⟩ = some (.slice none 0 0) := (blk f3).2.1 2 _ rfl
    have g0 := (blk f3).2.2 0
    have g1 := (blk f3).2.2 1
    have g2 := (blk f3).2.2 2
    have hne : pb ≠ ob := by
      rintro rfl
      rw [e3] at f3
      simp at f3
    have hfill := fill3 (x := .slice (some ⟨pb, 0, none⟩) n n) (y := .int .i64 m0) (z := .slice ma ml mc) f3
    have hput := put3 w ob (.slice (some ⟨pb, 0, none⟩) n n) (.int .i64 m0) (.slice ma ml mc)
    have hIB : IsB (((w.setCell ⟨ob, 0, none⟩ (.slice (some ⟨pb, 0, none⟩) n n)).setCell ⟨ob, 1, none⟩ (.int .i64 m0)).setCell ⟨ob, 2, none⟩ (.slice ma ml mc)) w.heap.size (.agg #[.int .i64 m0, .slice ma ml mc]) (-k - 1) := (IsB.of hI).put hput f3 (fun o y h => by
      match o, h with
      | 0, h => simp at h
      | 1, h => simp at h
      | 2, h => simp at h
      | o + 3, h => simp at h)
    have HJ : JO1 w0 n k (((w.setCell ⟨ob, 0, none⟩ (.slice (some ⟨pb, 0, none⟩) n n)).setCell ⟨ob, 1, none⟩ (.int .i64 m0)).setCell ⟨ob, 2, none⟩ (.slice ma ml mc)) (.pointer (some ⟨ob, 0, none⟩)) := ⟨pb, ob, m0, ma, ml, mc, rfl, hput.below hb0 f2, (hput.block pb hne).trans e3, hfill, by rw [hput.size]; exact hIB, e2, f2, hne⟩
    show Oper.wp Tryz.prog ⟨none, .store 77 (.tmp 4) (.tmp 16), _, _, _, _⟩ a w _ _
    unfold Oper.wp
    simp only [execOp, e4, f4]
    simp [go_sem, r0, r1, r2, g0, g1, g2]
    rw [f1]
    exact HJ
  · intro a w hd hnn hk hpu hJ
    exact hend a w hd hnn hk hJ
end Go.Proofs.YtnkigifcilgmbaaGreatDoor
