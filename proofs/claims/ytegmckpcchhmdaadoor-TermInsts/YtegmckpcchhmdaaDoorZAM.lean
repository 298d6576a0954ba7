/- Copies: a TAll that stands: what the walk carries. -/
import Derived.Test.YtegmckpcchhmdaaDoorZAL
set_option linter.unusedVariables false
set_option linter.unusedSimpArgs false

/- Copies of lists. -/
namespace Go.Proofs.YtegmckpcchhmdaaDoor
open Go Go.RowKit
theorem FB.keep {m m' : Nat} {w w' : World} {k : Nat} (h : FB m w k) (hm : m' ≤ m) (hs : w.heap.size ≤ w'.heap.size) (hb : w'.heap[k]? = w.heap[k]?) : FB m' w' k ∧ w'.heap[k]? = w.heap[k]? :=
  ⟨⟨Nat.le_trans hm h.1, Nat.lt_of_lt_of_le h.2.1 hs, fun cs fr e => h.2.2 cs fr (hb.symm.trans e)⟩, hb⟩
theorem TB.same {w w' : World} {g n k : Nat} {cur cur' : Array Value} (h : TB w g n cur) (h' : TB w' g n cur') (hk : cur'[k]? = cur[k]?) : w'.cell? ⟨g, k, none⟩ = w.cell? ⟨g, k, none⟩ := by
  simp only [World.cell?, h.1, h'.1, hk]
theorem TB.ns {w : World} {g n : Nat} {cur : Array Value} (h : TB w g n cur) : NS w g := fun cs fr e => by
  rw [h.1] at e
  injection e with e
  injection e with _ e
  revert e
  decide
theorem icpL_more {sub : ByteArray → Option Tm} {l : List Tm} {hid : ByteArray → Int} {i : Nat} (h : i < l.length) : ((l.take (i + 1)).map fun u => u.icp sub hid).sum = ((l.take i).map fun u => u.icp sub hid).sum + l[i].icp sub hid := by
  rw [take_more h, List.map_append, List.sum_append]
  simp
theorem icpL_take (sub : ByteArray → Option Tm) (l : List Tm) (hid : ByteArray → Int) (i : Nat) : ((l.take i).map fun u => u.icp sub hid).sum ≤ (l.map fun u => u.icp sub hid).sum := by
  rw [List.map_take]
  exact sum_take_le _ i
/-- The elements that are made already. -/
def Made (w : World) (g d i : Nat) (l : List Tm) : Prop := ∀ (j : Nat) t, j < i → l[j]? = some t → ∃ cs, cs.length = 7 ∧ w.rangeAt g (j * 7) cs ∧ IsP w (FB (g + 1) w) d (.agg cs.toArray) t
theorem Made.next {w w7 : World} {g d i n : Nat} {l : List Tm} {cur : Array Value} {a b c e f h k : Value} (hM : Made w g d i l) (hg : g < w.heap.size) (hT : TB w7 g n cur) (hk : ∀ q, FB (g + 1) w q ∨ q = g → w7.heap[q]? = w.heap[q]?) (hs : w.heap.size ≤ w7.heap.size) (hi : i < n) (hV : ∀ t, l[i]? = some t → IsP w7 (FB w.heap.size w7) d (.agg #[a, b, c, e, f, h, k]) t) :
    ∃ cur', TB (put7 w7 g (i * 7) a b c e f h k) g n cur' ∧ Made (put7 w7 g (i * 7) a b c e f h k) g d (i + 1) l := by
  obtain ⟨cur', hT', hr, hcur⟩ := put7_at (a := a) (b := b) (c := c) (d := e) (e := f) (f := h) (h := k) hT hi
  have hsz : (put7 w7 g (i * 7) a b c e f h k).heap.size = w7.heap.size := by unfold put7; simp
  refine ⟨cur', hT', fun j t hj ht => ?_⟩
  rcases Nat.lt_or_ge j i with hlt | hge
  · obtain ⟨cs, h7, hr0, hI⟩ := hM j t hlt ht
    refine ⟨cs, h7, fun m v hv => ?_, hI.keep (fun q hq => ?_) (Nat.le_refl _)⟩
    · have hm : m < 7 := by have := (List.getElem?_eq_some_iff.1 hv).1; omega
      rw [hT.same hT' (hcur (j * 7 + m) (by omega)), World.cell?_of_block (w := w) (a := ⟨g, j * 7 + m, none⟩) (hk g (.inr rfl))]
      exact hr0 m v hv
    · have hqg : q ≠ g := by have := hq.1; omega
      exact hq.keep (Nat.le_refl _) (by omega) ((put7_far hqg).trans (hk q (.inl hq)))
  · obtain rfl : j = i := by omega
    refine ⟨[a, b, c, e, f, h, k], rfl, hr, (hV t ht).keep (fun q hq => ?_) (Nat.le_refl _)⟩
    have hqg : q ≠ g := by have := hq.1; omega
    exact hq.keep (by omega) (by omega) (put7_far hqg)
theorem Made.row {w : World} {g d n m : Nat} {l : List Tm} {cur : Array Value} (hM : Made w g d n l) (hT : TB w g n cur) (hm : m ≤ g) (hn : n ≤ 281474976710656) : RowP (FB m w) (some ⟨g, 0, none⟩) n n 7 (fun b o j => ∀ t, l[j]? = some t → TmP w (FB m w) (d + 1) b o t) := by
  have hlt := (Array.getElem?_eq_some_iff.1 hT.1).1
  refine ⟨Nat.le_refl _, hn, fun _ => ⟨g, 0, rfl, ⟨hm, hlt, hT.ns⟩, fun j hj t ht => ?_⟩⟩
  obtain ⟨cs, h7, hr, hI⟩ := hM j t hj ht
  refine (hI.keep (Q := FB m w) (w' := w) (fun q hq => hq.keep (by omega) (Nat.le_refl _) rfl) (Nat.le_refl _)).laid ⟨hm, hlt, hT.ns⟩ ⟨cur, _, hT.1⟩ fun cs' e => ?_
  injection e with e
  have e2 : cs = cs' := by simpa using e
  subst e2
  simpa using hr
end Go.Proofs.YtegmckpcchhmdaaDoor

/- Copies of lists: the walk. -/
namespace Go.Proofs.YtegmckpcchhmdaaDoor
open Go Go.RowKit
theorem SLv.but {B g dl : Nat} {w w' : World} {sv : Value} {sub : ByteArray → Option Tm} {hid : ByteArray → Int} {cs : Array Value} {ty : TypeId} (h : SLv w B sv dl sub hid) (hb : Below B w w') (hk : ∀ q, q ≠ g → w'.heap[q]? = w.heap[q]?) (hr : w.heap[g]? = some (.cells cs ty)) (ht : ty ≠ 94) : SLv w' B sv dl sub hid := by
  refine h.imp id ?_
  rintro ⟨rs, e, hBr, es, h1, h2, h3⟩
  refine ⟨rs, e, hBr, es, h1.same (hk rs (fun e' => ?_)), fun k => (h2 k).imp id ?_, h3⟩
  · obtain ⟨a, c, k1, _⟩ := h1
    rw [e', hr] at k1
    cases k1
  · rintro ⟨u, q, bt, ot, e1, e2, e3, e4, e5⟩
    refine ⟨u, q, bt, ot, e1, e2, e3, ?_, e5.more hb (Nat.le_refl _) (Nat.le_refl _)⟩
    rw [hk q (fun e' => ?_)]
    · exact e4
    · rw [e', hr] at e4
      injection e4 with e4
      injection e4 with _ e4
      exact ht e4
theorem put7_below {B : Nat} {w : World} {g m : Nat} {a b c d e f h : Value} (hg : B ≤ g) : Below B w (put7 w g m a b c d e f h) := by
  unfold put7
  exact (((((((Below.refl B w).setCell (p := ⟨g, m, none⟩) hg _).setCell (p := ⟨g, m + 1, none⟩) hg _).setCell (p := ⟨g, m + 2, none⟩) hg _).setCell (p := ⟨g, m + 3, none⟩) hg _).setCell (p := ⟨g, m + 4, none⟩) hg _).setCell (p := ⟨g, m + 5, none⟩) hg _).setCell (p := ⟨g, m + 6, none⟩) hg _
theorem put7_but {r : Nat} {w0 w : World} {g m : Nat} {a b c d e f h : Value} (hw : But r w0 w) (hg : w0.heap.size ≤ g) : But r w0 (put7 w g m a b c d e f h) := by
  unfold put7
  exact ((((((hw.setCell (p := ⟨g, m, none⟩) (.inr hg) _).setCell (p := ⟨g, m + 1, none⟩) (.inr hg) _).setCell (p := ⟨g, m + 2, none⟩) (.inr hg) _).setCell (p := ⟨g, m + 3, none⟩) (.inr hg) _).setCell (p := ⟨g, m + 4, none⟩) (.inr hg) _).setCell (p := ⟨g, m + 5, none⟩) (.inr hg) _).setCell (p := ⟨g, m + 6, none⟩) (.inr hg) _
set_option maxRecDepth 1000000 in
set_option maxHeartbeats 16000000 in
theorem ylist_of {sub : ByteArray → Option Tm} {dl d : Nat} {sv : Value} (ih : YTermC sub dl sv d) : YListC sub dl sv d := by
  intro B r w a n c l hid cp u hR hn hS hW hBr hcp hu hh
  have hrw := (Array.getElem?_eq_some_iff.1 hW).1
  have hBw : B ≤ w.heap.size := by omega
  have hnm : n ≤ 21474836 := by unfold icpL at hcp; omega
  have hcn : cp + n ≤ 21474836 := by unfold icpL at hcp; omega
  have r1 : w.cell? ⟨r, 1, none⟩ = some (.int .i64 (cp : Int)) := (blk hW).2.1 1 _ rfl
  have r2 : w.cell? ⟨r, 2, none⟩ = some (.bool false) := (blk hW).2.1 2 _ rfl
  have rf1 := (blk hW).2.2 1
  have rf2 := (blk hW).2.2 2
  have hd1 : decide ((21474836 : Int) < (cp : Int) + (n : Int)) = false := by simp; omega
  have hd2 : decide ((65536 : Int) < (u : Int)) = false := by simp; omega
  obtain ⟨A, eA⟩ : ∃ A, ((w.setCell ⟨r, 1, none⟩ (.int .i64 ((cp : Int) + (n : Int)))).setCell ⟨r, 2, none⟩ (.bool false)) = A := ⟨_, rfl⟩
  have hWA : A.heap[r]? = some (CV sv (cp + n)) := by
    rw [← eA, set_block (set_block hW _)]
    rfl
  have hSA : SLv A B sv dl sub hid := by
    rw [← eA]
    exact (hS.set hBr hW (by decide)).set hBr (set_block hW _) (by decide)
  have hXA : XF B r w A := by
    rw [← eA]
    exact ((XF.refl B r w).set hBr).set hBr
  have hBA : But r w A := by
    rw [← eA]
    exact ((But.refl r w).setCell (p := ⟨r, 1, none⟩) (.inl rfl) _).setCell (p := ⟨r, 2, none⟩) (.inl rfl) _
  have hsA : A.heap.size = w.heap.size := by rw [← eA]; simp
  have a2 : A.cell? ⟨r, 2, none⟩ = some (.bool false) := (blk hWA).2.1 2 _ rfl
  have HA := hide (And.intro hWA (And.intro hSA (And.intro hXA (And.intro hsA hBA))))
  have HR := hide hR
  have HN := hide hn
  have HC := hide (And.intro hcp (And.intro hu hh))
  have HIH := hide ih
  clear ih hR hn hS hW hcp hh hWA hSA hXA hsA hBA
  by_cases h0 : n = 0
  · have hz1 : decide ((n : Int) = 0) = true := by simp; omega
    have hz2 : ((n : Int) == 0) = true := by simp; omega
    have H0 := hide h0
    clear h0
    go_enter Tryd.func56, Tryd.ntmps56
    go_wp2
    go_ret
    obtain ⟨hWA, hSA, hXA, hsA, hBA⟩ := unhide HA
    have h0 := unhide H0
    have hl : l = [] := List.length_eq_zero_iff.1 (by rw [← unhide HN]; exact h0)
    subst hl
    rw [h0] at hWA ⊢
    exact ⟨none, 0, rfl, ⟨Nat.le_refl _, by omega, fun h => absurd rfl h⟩, hWA, hSA, hXA, fun _ => hBA⟩
  have hz1 : decide ((n : Int) = 0) = false := by simp; omega
  have hz2 : ((n : Int) == 0) = false := by simp; omega
  obtain ⟨cur0, km, hc0⟩ := mkTerms n A hnm
  obtain ⟨C, eC, hbC, hsC, hcC, hhC⟩ := box_new A cur0 25
  have HC0 : Hid (∃ cur, TB C A.heap.size n cur ∧ C.heap[r]? = some (CV sv (cp + n)) ∧ SLv C B sv dl sub hid ∧ XF B r w C ∧ But r w C) := by
    obtain ⟨hWA, hSA, hXA, hsA, hBA⟩ := unhide HA
    exact ⟨cur0, ⟨hhC, hc0⟩, (hbC.block r (by omega)).trans hWA, hSA.below hbC (Nat.le_refl _), hXA.trans (XF.of hbC (Nat.le_refl _)), hBA.trans (But.of hbC (Nat.le_refl _))⟩
  obtain ⟨g, eg⟩ : ∃ g, A.heap.size = g := ⟨_, rfl⟩
  have hgw : w.heap.size = g := by rw [← eg]; exact (unhide HA).2.2.2.1.symm
  rw [eg] at HC0 km
  have HG := hide hgw
  have hgr : g ≠ r := by omega
  clear hbC hsC hcC hhC hc0 eg hgw
  go_enter Tryd.func56, Tryd.ntmps56
  go_wp2
  clear km eA eC a2 r1 r2 rf1 rf2
  go_loopw [8] (fun iv wr => ∃ i cur, i ≤ n ∧ iv = .int .i64 (i : Int) ∧ TB wr g n cur ∧ wr.heap[r]? = some (CV sv (cp + n + ((l.take i).map fun t => t.icp sub hid).sum)) ∧ SLv wr B sv dl sub hid ∧ XF B r w wr ∧ (sv = .map none → But r w wr) ∧ Made wr g (d + dl) i (l.map fun t => t.inst sub hid)) (fun iv _ => (n - (intOf iv).toNat))
  case atStart =>
    obtain ⟨cur, h1, h2, h3, h4, h5⟩ := unhide HC0
    exact ⟨0, cur, Nat.zero_le _, rfl, h1, h2, h3, h4, fun _ => h5, fun j t hj => absurd hj (by omega)⟩
  case round =>
    obtain ⟨i, cur, hi, rfl, hTi, hWi, hSi, hXi, hBi, hMi⟩ := hrel
    have s2 : wr.cell? ⟨r, 2, none⟩ = some (.bool false) := (blk hWi).2.1 2 _ rfl
    by_cases hlt : i < n
    · have h1 : i < l.length := by have := unhide HN; omega
      have hdi : decide ((i : Int) < (n : Int)) = true := by simp; omega
      have hIi : (i : Int) < (n : Int) := by omega
      have hcap : (i : Int) < 281474976710656 := by omega
      obtain ⟨bl, ol, rfl, hblB, hj⟩ := (unhide HR).2.2 (by omega)
      have hTr := (hj i hlt _ (List.getElem?_eq_getElem h1)).more (hXi.below hBw) (Nat.le_refl _) (Nat.le_refl _)
      obtain ⟨hcp, hu, hh⟩ := unhide HC
      have hmore := icpL_more (sub := sub) (hid := hid) h1
      have hwi : ∀ k, 0 ≤ hid k ∧ hid k + l[i].wt ≤ 400000 := fun k => (hh k).imp id (fun h => by
        have h3 : l[i].wt ≤ lwt l := by
          have := lwt_more h1
          have := lwt_take l (i + 1)
          omega
        omega)
      have hsum : cp + n + ((l.take i).map fun t => t.icp sub hid).sum + l[i].icp sub hid ≤ 21474836 := by
        have h5 := icpL_take sub l hid (i + 1)
        rw [hmore] at h5
        unfold icpL at hcp
        have := unhide HN
        omega
      have HCl := hide (unhide HIH B r wr bl (ol + i * 7) l[i] hid (cp + n + ((l.take i).map fun t => t.icp sub hid).sum) u hTr hSi hWi hBr hsum hu hwi)
      have HP := hide (And.intro hTi (And.intro hXi (And.intro hMi (And.intro hmore hBi))))
      clear hj hTr hcp hu hh hmore hwi hsum hTi hWi hSi hXi hMi hBi
      go_wp2_with fail
      refine (unhide HCl).mono ?_
      rintro e w7 ⟨v, rfl, hI7, hW7, hS7, hX7, hB7⟩
      obtain ⟨hTi, hXi, hMi, hmore, hBi⟩ := unhide HP
      have hT7 : TB w7 g n cur := ⟨hX7.blk hTi.1 hgr (by decide), hTi.2⟩
      have hV : IsP w7 (FB wr.heap.size w7) (d + dl) v (l[i].inst sub hid) := hI7
      obtain ⟨h1', h2', aL, aV, aP, cL, cV, cP, rfl, hL, hV', hP'⟩ := hI7
      generalize hti : l[i].inst sub hid = ti at *
      simp only [tcells, List.toArray] at hV ⊢
      have hgl : g < wr.heap.size := (Array.getElem?_eq_some_iff.1 hTi.1).1
      have hge : w.heap.size = g := unhide HG
      obtain ⟨cur', hT9, hM9⟩ := hMi.next (a := .int .i64 ti.op) (b := .string ti.name) (c := .int .i64 ti.sort) (e := .string ti.num) (f := .slice aL ti.l.length cL) (h := .slice aV ti.vars.length cV) (k := .slice aP ti.pat.length cP) hgl hT7 (fun q hq => by
        rcases hq with hq | rfl
        · exact hX7.block q hq.2.1 (.inr ⟨by have := hq.1; omega, hq.2.2⟩)
        · exact hX7.block q hgl (.inr ⟨hgr, hTi.ns⟩)) hX7.size hlt (fun t ht => by
        rw [List.getElem?_map, List.getElem?_eq_getElem h1, Option.map_some, hti] at ht
        injection ht with ht
        rw [← ht]
        exact hV)
      have hb9 : Below B w7 _ := put7_below (m := i * 7) (a := .int .i64 ti.op) (b := .string ti.name) (c := .int .i64 ti.sort) (d := .string ti.num) (e := .slice aL ti.l.length cL) (f := .slice aV ti.vars.length cV) (h := .slice aP ti.pat.length cP) (show B ≤ g by omega)
      have hS9 := hS7.but hb9 (fun q hq => put7_far hq) hT7.1 (by decide)
      have hX9 : XF B r w (put7 w7 g (i * 7) (.int .i64 ti.op) (.string ti.name) (.int .i64 ti.sort) (.string ti.num) (.slice aL ti.l.length cL) (.slice aV ti.vars.length cV) (.slice aP ti.pat.length cP)) := by
        have hX := hXi.trans hX7
        refine ⟨hb9.os.trans hX.os, hb9.tape.trans hX.tape, hb9.output.trans hX.output, Nat.le_trans hX.size hb9.size, fun k hk hj => ?_⟩
        rw [put7_far (by omega)]
        exact hX.block k hk hj
      have hW9 := (put7_far (w := w7) (m := i * 7) (a := .int .i64 ti.op) (b := .string ti.name) (c := .int .i64 ti.sort) (d := .string ti.num) (e := .slice aL ti.l.length cL) (f := .slice aV ti.vars.length cV) (h := .slice aP ti.pat.length cP) (fun e => hgr e.symm)).trans hW7
      rw [Nat.add_assoc (cp + n), ← hmore] at hW9
      have hB9 := fun e => put7_but (m := i * 7) (a := .int .i64 ti.op) (b := .string ti.name) (c := .int .i64 ti.sort) (d := .string ti.num) (e := .slice aL ti.l.length cL) (f := .slice aV ti.vars.length cV) (h := .slice aP ti.pat.length cP) ((hBi e).trans (hB7 e)) (show w.heap.size ≤ g by omega)
      obtain ⟨x0, z0, f0⟩ := hT7.cell (k := i * 7) (by omega)
      obtain ⟨x1, z1, f1⟩ := hT7.cell (k := i * 7 + 1) (by omega)
      obtain ⟨x2, z2, f2⟩ := hT7.cell (k := i * 7 + 2) (by omega)
      obtain ⟨x3, z3, f3⟩ := hT7.cell (k := i * 7 + 3) (by omega)
      obtain ⟨x4, z4, f4⟩ := hT7.cell (k := i * 7 + 4) (by omega)
      obtain ⟨x5, z5, f5⟩ := hT7.cell (k := i * 7 + 5) (by omega)
      obtain ⟨x6, z6, f6⟩ := hT7.cell (k := i * 7 + 6) (by omega)
      have H9 := hide (And.intro hT9 (And.intro hW9 (And.intro hS9 (And.intro hX9 (And.intro hB9 hM9)))))
      unfold put7 at H9
      clear hTi hXi hMi hmore hT7 hV h1' h2' hL hV' hP' hti hT9 hM9 hb9 hS9 hX9 hW9 hS7 hX7 hW7 hge s2 hBi hB7 hB9
      generalize ti.l.length = nL at *
      generalize ti.vars.length = nV at *
      generalize ti.pat.length = nP at *
      go_wp2
      exact ⟨⟨i + 1, cur', by omega, rfl, unhide H9⟩, by simp only [intOf]; omega⟩
    · have hin : i = n := by omega
      have hdi : decide ((i : Int) < (n : Int)) = false := by simp; omega
      subst hin
      have htk : l.take i = l := List.take_of_length_le (by have := unhide HN; omega)
      rw [htk] at hWi
      have hrow := hMi.row hTi (m := w.heap.size) (by have := unhide HG; omega) (by omega)
      have HF := hide (And.intro hrow (And.intro hWi (And.intro hSi (And.intro hXi hBi))))
      clear hWi hSi hXi hMi hTi hrow htk hBi
      go_wp2
      go_ret
      obtain ⟨hrow, hWi, hSi, hXi, hBi⟩ := unhide HF
      refine ⟨_, _, rfl, hrow, ?_, hSi, hXi, hBi⟩
      rw [hWi]
      unfold icpL
      rw [← unhide HN, Nat.add_assoc]
end Go.Proofs.YtegmckpcchhmdaaDoor

/- A copy of a term as it stands. -/
namespace Go.Proofs.YtegmckpcchhmdaaDoor
open Go Go.RowKit
theorem SLv.butr {B r dl : Nat} {w w' : World} {sv : Value} {sub : ByteArray → Option Tm} {hid : ByteArray → Int} {cs : Array Value} {ty : TypeId} (h : SLv w B sv dl sub hid) (hb : But r w w') (hBr : B ≤ r) (hBw : B ≤ w.heap.size) (hr : w.heap[r]? = some (.cells cs ty)) (ht : ty ≠ 94) : SLv w' B sv dl sub hid := by
  refine h.imp id ?_
  rintro ⟨rs, e, hBr2, es, h1, h2, h3⟩
  refine ⟨rs, e, hBr2, es, h1.same (hb.block rs h1.lt (fun e' => ?_)), fun k => (h2 k).imp id ?_, h3⟩
  · obtain ⟨a, c, k1, _⟩ := h1
    rw [e', hr] at k1
    cases k1
  · rintro ⟨u, q, bt, ot, e1, e2, e3, e4, e5⟩
    refine ⟨u, q, bt, ot, e1, e2, e3, ?_, e5.more (hb.below hBr hBw) (Nat.le_refl _) (Nat.le_refl _)⟩
    rw [hb.block q (Array.getElem?_eq_some_iff.1 e4).1 (fun e' => ?_)]
    · exact e4
    · rw [e', hr] at e4
      injection e4 with e4
      injection e4 with _ e4
      exact ht e4
theorem XF.ofBut {B r : Nat} {w w' : World} (h : But r w w') (hBr : B ≤ r) : XF B r w w' := ⟨h.os, h.tape, h.output, h.size, fun k hk hj => h.block k hk (by omega)⟩
set_option maxHeartbeats 4000000 in
/-- What a term's block holds when all seven cells are filled. -/
theorem fill7 {w : World} {q : Nat} {a b c d e f h a' b' c' d' e' f' h' : Value} {ty : TypeId} (hq : w.heap[q]? = some (.cells #[a, b, c, d, e, f, h] ty)) : (put7 w q 0 a' b' c' d' e' f' h').heap[q]? = some (.cells #[a', b', c', d', e', f', h'] ty) := by
  unfold put7
  have k0 := set_block (o := 0) hq a'
  have k1 := set_block (o := 0 + 1) k0 b'
  have k2 := set_block (o := 0 + 2) k1 c'
  have k3 := set_block (o := 0 + 3) k2 d'
  have k4 := set_block (o := 0 + 4) k3 e'
  have k5 := set_block (o := 0 + 5) k4 f'
  have k6 := set_block (o := 0 + 6) k5 h'
  rw [k6]
  rfl
set_option maxRecDepth 1000000 in
set_option maxHeartbeats 16000000 in
theorem as_any {dl dl' : Nat} (ih : YTermC (fun _ => none) 0 (.map none) dl) {B r : Nat} {w : World} {bt ot : Nat} {t : Tm} {cp u : Nat} {sv : Value} {sub : ByteArray → Option Tm} {hid : ByteArray → Int} (hT : TmAt w B dl bt ot t) (hS : SLv w B sv dl' sub hid) (hW : w.heap[r]? = some (CV sv cp)) (hBr : B ≤ r) (hcp : cp + t.icp (fun _ => none) (fun _ => 0) ≤ 21474836) (hu : u + dl ≤ 65536) (hwt : t.wt ≤ 400000) :
    Calls Tryd.prog 52 #[.pointer (some ⟨r, 0, none⟩), .pointer (some ⟨bt, ot, none⟩), .int .i64 u] w fun e w' => ∃ v, e = .returned v ∧ IsP w' (FB w.heap.size w') dl v t.inst0 ∧ w'.heap[r]? = some (CV sv (cp + t.icp (fun _ => none) (fun _ => 0))) ∧ SLv w' B sv dl' sub hid ∧ But r w w' := by
  obtain ⟨mx, rfl⟩ : ∃ mx, sv = .map mx := by rcases hS with ⟨rfl, _⟩ | ⟨rs, rfl, _⟩ <;> exact ⟨_, rfl⟩
  have hrw := (Array.getElem?_eq_some_iff.1 hW).1
  have hBw : B ≤ w.heap.size := by omega
  obtain ⟨A, eA, hbA, hsA, hcA, hhA⟩ := box_new w #[.int .i64 0, .string ⟨#[]⟩, .int .i64 0, .string ⟨#[]⟩, .slice none 0 0, .slice none 0 0, .slice none 0 0] 25
  have hWA : A.heap[r]? = some (CV (.map mx) cp) := (hbA.block r hrw).trans hW
  have a0 : A.cell? ⟨r, 0, none⟩ = some (.map mx) := (blk hWA).2.1 0 _ rfl
  have af0 := (blk hWA).2.2 0
  obtain ⟨D, eD⟩ : ∃ D, A.setCell ⟨r, 0, none⟩ (.map none) = D := ⟨_, rfl⟩
  have hWD : D.heap[r]? = some (CV (.map none) cp) := by
    rw [← eD, CV]
    exact set_block hWA _
  have hqD : D.heap[w.heap.size]? = some (.cells #[.int .i64 0, .string ⟨#[]⟩, .int .i64 0, .string ⟨#[]⟩, .slice none 0 0, .slice none 0 0, .slice none 0 0] 25) := by
    rw [← eD]
    exact keep_set hhA (by show w.heap.size ≠ r; omega) _
  have hBD : But r w D := by
    rw [← eD]
    exact (But.of hbA (Nat.le_refl _)).setCell (p := ⟨r, 0, none⟩) (.inl rfl) _
  have hsD : D.heap.size = w.heap.size + 1 := by rw [← eD]; simp; omega
  have HCl := hide (ih B r D bt ot t (fun _ => 0) cp u (hT.more (hBD.below hBr hBw) (Nat.le_refl _) (Nat.le_refl _)) (.inl ⟨rfl, fun _ => rfl⟩) hWD hBr hcp (by omega) (fun k => ⟨by omega, by omega⟩))
  have HI := hide (And.intro hS (And.intro hW (And.intro hBD (And.intro hqD hsD))))
  obtain ⟨ti, eti⟩ : ∃ ti, t.inst0 = ti := ⟨_, rfl⟩
  rw [eti]
  have HE := hide ((inst_no hT (fun _ => 0)).trans eti)
  clear eti hT hS hW hbA hsA hcA hhA hWA hWD hqD hBD hsD ih hcp
  go_enter Tryd.func52, Tryd.ntmps52
  go_wp2_with fail
  refine (unhide HCl).mono ?_
  rintro e w3 ⟨v, rfl, hI3, hW3, hS3, hX3, hB3⟩
  have hB3 : But r D w3 := by first | exact hB3 rfl | exact hB3 trivial
  rw [unhide HE] at hI3
  obtain ⟨hS, hW, hBD, hqD, hsD⟩ := unhide HI
  have hV := hI3
  obtain ⟨h1', h2', aL, aV, aP, cL, cV, cP, rfl, hL, hV', hP'⟩ := hI3
  simp only [tcells, List.toArray] at hV ⊢
  have HV := hide hV
  clear hL hV' hP' h1' h2' hV
  obtain ⟨nL, enL⟩ : ∃ n, ti.l.length = n := ⟨_, rfl⟩
  obtain ⟨nV, enV⟩ : ∃ n, ti.vars.length = n := ⟨_, rfl⟩
  obtain ⟨nP, enP⟩ : ∃ n, ti.pat.length = n := ⟨_, rfl⟩
  rw [enL, enV, enP] at HV ⊢
  obtain ⟨E, eE, hbE, hsE, hcE, hhE⟩ := box_new w3 #[.int .i64 ti.op, .string ti.name, .int .i64 ti.sort, .string ti.num, .slice aL nL cL, .slice aV nV cV, .slice aP nP cP] 25
  obtain ⟨F, eF⟩ : ∃ F, E.setCell ⟨r, 0, none⟩ (.map mx) = F := ⟨_, rfl⟩
  have hr3 : r < w3.heap.size := (Array.getElem?_eq_some_iff.1 hW3).1
  have hWE : E.heap[r]? = _ := (hbE.block r hr3).trans hW3
  have g0 : E.cell? ⟨r, 0, none⟩ = some (.map none) := (blk hWE).2.1 0 _ rfl
  have gf0 := (blk hWE).2.2 0
  have hWF : F.heap[r]? = some (CV (.map mx) (cp + t.icp (fun _ => none) (fun _ => 0))) := by
    rw [← eF, CV]
    exact set_block hWE _
  have hqw : w.heap.size ≠ r := by omega
  have hq3 : w3.heap[w.heap.size]? = some (.cells #[.int .i64 0, .string ⟨#[]⟩, .int .i64 0, .string ⟨#[]⟩, .slice none 0 0, .slice none 0 0, .slice none 0 0] 25) := hB3.blk hqD hqw
  have hqF : F.heap[w.heap.size]? = some (.cells #[.int .i64 0, .string ⟨#[]⟩, .int .i64 0, .string ⟨#[]⟩, .slice none 0 0, .slice none 0 0, .slice none 0 0] 25) := by
    rw [← eF]
    exact keep_set ((hbE.block _ (Array.getElem?_eq_some_iff.1 hq3).1).trans hq3) hqw _
  have hpF : F.heap[w3.heap.size]? = some (.cells #[.int .i64 ti.op, .string ti.name, .int .i64 ti.sort, .string ti.num, .slice aL nL cL, .slice aV nV cV, .slice aP nP cP] 25) := by
    rw [← eF]
    exact keep_set hhE (by show w3.heap.size ≠ r; omega) _
  have hBF : But r w F := by
    rw [← eF]
    exact ((hBD.trans hB3).trans (But.of hbE (Nat.le_refl _))).setCell (p := ⟨r, 0, none⟩) (.inl rfl) _
  have hkF : ∀ k, FB D.heap.size w3 k → F.heap[k]? = w3.heap[k]? := fun k hk => by
    rw [← eF, Below.heap_setCell E ⟨r, 0, none⟩ (.map mx) k (by show k ≠ r; have := hk.1; omega)]
    exact hbE.block k hk.2.1
  have hsF : w3.heap.size ≤ F.heap.size := by rw [← eF]; simp; omega
  have q0 : F.cell? ⟨w.heap.size, 0, none⟩ = some (.int .i64 0) := (blk hqF).2.1 0 _ rfl
  have q1 : F.cell? ⟨w.heap.size, 1, none⟩ = some (.string ⟨#[]⟩) := (blk hqF).2.1 1 _ rfl
  have q2 : F.cell? ⟨w.heap.size, 2, none⟩ = some (.int .i64 0) := (blk hqF).2.1 2 _ rfl
  have q3 : F.cell? ⟨w.heap.size, 3, none⟩ = some (.string ⟨#[]⟩) := (blk hqF).2.1 3 _ rfl
  have q4 : F.cell? ⟨w.heap.size, 4, none⟩ = some (.slice none 0 0) := (blk hqF).2.1 4 _ rfl
  have q5 : F.cell? ⟨w.heap.size, 5, none⟩ = some (.slice none 0 0) := (blk hqF).2.1 5 _ rfl
  have q6 : F.cell? ⟨w.heap.size, 6, none⟩ = some (.slice none 0 0) := (blk hqF).2.1 6 _ rfl
  have qf0 := (blk hqF).2.2 0
  have qf1 := (blk hqF).2.2 1
  have qf2 := (blk hqF).2.2 2
  have qf3 := (blk hqF).2.2 3
  have qf4 := (blk hqF).2.2 4
  have qf5 := (blk hqF).2.2 5
  have qf6 := (blk hqF).2.2 6
  have p0 : F.cell? ⟨w3.heap.size, 0, none⟩ = some (.int .i64 ti.op) := (blk hpF).2.1 0 _ rfl
  have p1 : F.cell? ⟨w3.heap.size, 1, none⟩ = some (.string ti.name) := (blk hpF).2.1 1 _ rfl
  have p2 : F.cell? ⟨w3.heap.size, 2, none⟩ = some (.int .i64 ti.sort) := (blk hpF).2.1 2 _ rfl
  have p3 : F.cell? ⟨w3.heap.size, 3, none⟩ = some (.string ti.num) := (blk hpF).2.1 3 _ rfl
  have p4 : F.cell? ⟨w3.heap.size, 4, none⟩ = some (.slice aL nL cL) := (blk hpF).2.1 4 _ rfl
  have p5 : F.cell? ⟨w3.heap.size, 5, none⟩ = some (.slice aV nV cV) := (blk hpF).2.1 5 _ rfl
  have p6 : F.cell? ⟨w3.heap.size, 6, none⟩ = some (.slice aP nP cP) := (blk hpF).2.1 6 _ rfl
  have HF := hide (And.intro hWF (And.intro hqF (And.intro hBF (And.intro hkF (And.intro hsF (And.intro hS (And.intro hW hsD)))))))
  have hne : w3.heap.size ≠ w.heap.size := by have := (Array.getElem?_eq_some_iff.1 hq3).1; omega
  have hne2 : w.heap.size ≠ w3.heap.size := fun e => hne e.symm
  clear hWF hqF hBF hkF hsF hS hW hsD hBD hqD hbE hsE hcE hhE hWE hq3 hpF hW3 hS3 hX3 hB3 enL enV enP hr3
  go_wp2
  obtain ⟨hWF, hqF, hBF, hkF, hsF, hS, hW, hsD⟩ := unhide HF
  have hG : (put7 F w.heap.size 0 (.int .i64 ti.op) (.string ti.name) (.int .i64 ti.sort) (.string ti.num) (.slice aL nL cL) (.slice aV nV cV) (.slice aP nP cP)).heap[w.heap.size]? = some (.cells [.int .i64 ti.op, .string ti.name, .int .i64 ti.sort, .string ti.num, .slice aL nL cL, .slice aV nV cV, .slice aP nP cP].toArray 25) := fill7 hqF
  have hBG : But r w (put7 F w.heap.size 0 (.int .i64 ti.op) (.string ti.name) (.int .i64 ti.sort) (.string ti.num) (.slice aL nL cL) (.slice aV nV cV) (.slice aP nP cP)) := put7_but hBF (Nat.le_refl _)
  have hsG : (put7 F w.heap.size 0 (.int .i64 ti.op) (.string ti.name) (.int .i64 ti.sort) (.string ti.num) (.slice aL nL cL) (.slice aV nV cV) (.slice aP nP cP)).heap.size = F.heap.size := by unfold put7; simp
  have hWG := (put7_far (w := F) (m := 0) (a := .int .i64 ti.op) (b := .string ti.name) (c := .int .i64 ti.sort) (d := .string ti.num) (e := .slice aL nL cL) (f := .slice aV nV cV) (h := .slice aP nP cP) (show r ≠ w.heap.size by omega)).trans hWF
  have hSG := hS.butr hBG hBr hBw hW (by decide)
  have hIG : IsP (put7 F w.heap.size 0 (.int .i64 ti.op) (.string ti.name) (.int .i64 ti.sort) (.string ti.num) (.slice aL nL cL) (.slice aV nV cV) (.slice aP nP cP)) (FB w.heap.size (put7 F w.heap.size 0 (.int .i64 ti.op) (.string ti.name) (.int .i64 ti.sort) (.string ti.num) (.slice aL nL cL) (.slice aV nV cV) (.slice aP nP cP))) dl _ ti := (unhide HV).keep (fun k hk => hk.keep (by omega) (by omega) ((put7_far (by have := hk.1; omega)).trans (hkF k hk))) (by omega)
  exact ⟨rfl, _, res_row (cs := [.int .i64 ti.op, .string ti.name, .int .i64 ti.sort, .string ti.num, .slice aL nL cL, .slice aV nV cV, .slice aP nP cP]) rfl rfl (range_block hG) rfl rfl rfl, _, rfl, hIG, hWG, hSG, hBG⟩
end Go.Proofs.YtegmckpcchhmdaaDoor

/- Copies: a node that is replaced. -/
namespace Go.Proofs.YtegmckpcchhmdaaDoor
open Go Go.RowKit
theorem icp_no {w : World} {B : Nat} : ∀ {d b o : Nat} {t : Tm}, TmAt w B d b o t → ∀ hid, t.icp (fun _ => none) hid = t.icp0
  | 0, _, _, _, h, _ => h.elim
  | d + 1, b, o, ⟨op, name, sort, num, l, vars, pat⟩, ⟨hb, h1, h2, aL, aV, aP, cL, cV, cP, hr, hL, hV, hP, hPl⟩, hid => by
    have hl : ∀ (q : List Tm) (a : Option Addr) (c : Nat), Row B a q.length c 7 (fun b o j => ∀ u, q[j]? = some u → TmAt w B d b o u) → ∀ hid, (q.map fun u => Tm.icp (fun _ => none) u hid) = q.map fun u => Tm.icp0 u := fun q a c hq hid => by
      refine List.map_congr_left fun u hu => ?_
      obtain ⟨j, hj, e⟩ := List.getElem_of_mem hu
      obtain ⟨b', off, _, _, hjj⟩ := hq.2.2 (by omega)
      exact icp_no (hjj j hj u (by rw [List.getElem?_eq_getElem hj, e])) hid
    rw [Tm.icp, Tm.icp0, rep_no]
    simp only
    rw [hl l aL cL hL, hl pat aP cP hP]
theorem inst_some {sub : ByteArray → Option Tm} {t u : Tm} {hid : ByteArray → Int} (h : rep sub hid t.op t.name = some u) : t.inst sub hid = u.inst0 ∧ t.icp sub hid = u.icp0 := by
  cases t
  rw [Tm.inst, Tm.icp]
  simp only at h
  rw [h]
  exact ⟨rfl, rfl⟩
set_option maxRecDepth 1000000 in
set_option maxHeartbeats 16000000 in
theorem yterm_some {sub : ByteArray → Option Tm} {dl d : Nat} {sv : Value} (hN : YTermC (fun _ => none) 0 (.map none) dl) (hSub : ∀ k u, sub k = some u → u.wt ≤ 400000) {B r : Nat} {w : World} {b o : Nat} {t u : Tm} {hid : ByteArray → Int} {cp un : Nat} (hT : TmAt w B (d + 1) b o t) (hS : SLv w B sv dl sub hid) (hW : w.heap[r]? = some (CV sv cp)) (hBr : B ≤ r) (hcp : cp + t.icp sub hid ≤ 21474836) (hu : un + (d + 1) + dl ≤ 65536) (hr : rep sub hid t.op t.name = some u) :
    Calls Tryd.prog 36 #[.pointer (some ⟨r, 0, none⟩), .pointer (some ⟨b, o, none⟩), .int .i64 un] w fun e w' => ∃ v, e = .returned v ∧ IsP w' (FB w.heap.size w') (d + 1 + dl) v (t.inst sub hid) ∧ w'.heap[r]? = some (CV sv (cp + t.icp sub hid)) ∧ SLv w' B sv dl sub hid ∧ XF B r w w' ∧ (sv = .map none → But r w w') := by
  obtain ⟨ei, ec⟩ := inst_some hr
  rw [ec] at hcp
  rw [ei, ec]
  have hwt := hSub _ _ (rep_sub hr)
  have hrw := (Array.getElem?_eq_some_iff.1 hW).1
  have hBw : B ≤ w.heap.size := by omega
  obtain ⟨hb, _, _, aL, aV, aP, cL, cV, cP, hrg, hRL, hV, hP, _⟩ := hT
  have hbw : b < w.heap.size := by omega
  obtain ⟨ti, eti⟩ : ∃ ti, u.inst0 = ti := ⟨_, rfl⟩
  rw [eti]
  obtain ⟨A, eA, hbA, hsA, hcA, hhA⟩ := box_new w #[.int .i64 0, .string ⟨#[]⟩, .int .i64 0, .string ⟨#[]⟩, .slice none 0 0, .slice none 0 0, .slice none 0 0] 25
  have c0 : A.cell? ⟨b, o, none⟩ = some (.int .i64 t.op) := (hbA.cell (p := ⟨b, o, none⟩) hbw).trans (hrg 0 _ rfl)
  have hWA : A.heap[r]? = some (CV sv cp) := (hbA.block r hrw).trans hW
  have HG := hide hrg
  have HI := hide (And.intro hS (And.intro hW (And.intro hbA (And.intro hhA (And.intro hsA (And.intro eti (And.intro hr (And.intro hcp hwt))))))))
  have HN := hide hN
  have hbA1 : b < A.heap.size := by omega
  have HWA := hide hWA
  have hrA : r < A.heap.size := by omega
  clear hrg hRL hV hP hS hW hr ei ec hN eti hbA hhA hsA hcA hcp hwt hSub hWA
  go_enter Tryd.func36, Tryd.ntmps36
  go_wp2_with fail
  refine (view_any b o t.op A c0 hbA1).mono ?_
  rintro e w1 ⟨rfl, hb1⟩
  have r01 : w1.cell? ⟨r, 0, none⟩ = some sv := (blk ((hb1.block r hrA).trans (unhide HWA))).2.1 0 _ rfl
  have HB1 := hide hb1
  clear hb1 c0
  go_wp2_with fail
  obtain ⟨hS, hW, hbA, hhA, hsA, eti, hr, hcp, hwt⟩ := unhide HI
  have hb01 : Below w.heap.size w w1 := hbA.trans ((unhide HB1).mono (by omega))
  refine (of_any (hS.below hb01 (Nat.le_refl _)) (by have := hb01.size; omega) (by have := hb01.size; omega) ((hb01.cell (p := ⟨b, o + 1, none⟩) hbw).trans ((unhide HG) 1 _ rfl))).mono ?_
  rintro e w2 ⟨hb2, h2⟩
  rw [hr] at h2
  rcases h2 with ⟨h, _⟩ | ⟨u', q, bt, ot, hu', rfl, hq, hTu⟩
  · cases h
  injection hu' with hu'
  subst hu'
  have hb02 : Below w.heap.size w w2 := hb01.trans (hb2.mono hb01.size)
  have hW2 := (hb02.block r hrw).trans hW
  have hq0 : w2.cell? ⟨q, 0, none⟩ = some (.pointer (some ⟨bt, ot, none⟩)) := (blk hq).2.1 0 _ rfl
  have hz2 : w2.heap[w.heap.size]? = some (.cells #[.int .i64 0, .string ⟨#[]⟩, .int .i64 0, .string ⟨#[]⟩, .slice none 0 0, .slice none 0 0, .slice none 0 0] 25) := by
    rw [hb2.block _ (by have := (unhide HB1).size; omega), (unhide HB1).block _ (by omega)]
    exact hhA
  have hS2 := hS.below hb02 (Nat.le_refl _)
  have eno := icp_no hTu (fun _ => 0)
  have HAs := hide (as_any (cp := cp) (u := un) (unhide HN) hTu hS2 hW2 hBr (by rw [eno]; exact hcp) (by omega) hwt)
  rw [eno, eti] at HAs
  have H2 := hide (And.intro hb02 hz2)
  clear hS hW hbA hhA hsA eti hr hcp hwt hb01 hb2 hb02 hW2 hz2 hS2 eno HB1 HI hq hTu
  go_wp2_with fail
  refine (unhide HAs).mono ?_
  rintro e w3 ⟨v, rfl, hI3, hW3, hS3, hB3⟩
  obtain ⟨hb02, hz2⟩ := unhide H2
  have hqw : w.heap.size ≠ r := by omega
  have hz3 := hB3.blk hz2 hqw
  have hV := hI3
  obtain ⟨h1', h2', aL, aV, aP, cL, cV, cP, rfl, hL, hV', hP'⟩ := hI3
  simp only [tcells, List.toArray] at hV ⊢
  have HV := hide hV
  obtain ⟨nL, enL⟩ : ∃ n, ti.l.length = n := ⟨_, rfl⟩
  obtain ⟨nV, enV⟩ : ∃ n, ti.vars.length = n := ⟨_, rfl⟩
  obtain ⟨nP, enP⟩ : ∃ n, ti.pat.length = n := ⟨_, rfl⟩
  rw [enL, enV, enP] at HV ⊢
  have q0 : w3.cell? ⟨w.heap.size, 0, none⟩ = some (.int .i64 0) := (blk hz3).2.1 0 _ rfl
  have qf0 := (blk hz3).2.2 0
  have q1 : w3.cell? ⟨w.heap.size, 1, none⟩ = some (.string ⟨#[]⟩) := (blk hz3).2.1 1 _ rfl
  have qf1 := (blk hz3).2.2 1
  have q2 : w3.cell? ⟨w.heap.size, 2, none⟩ = some (.int .i64 0) := (blk hz3).2.1 2 _ rfl
  have qf2 := (blk hz3).2.2 2
  have q3 : w3.cell? ⟨w.heap.size, 3, none⟩ = some (.string ⟨#[]⟩) := (blk hz3).2.1 3 _ rfl
  have qf3 := (blk hz3).2.2 3
  have q4 : w3.cell? ⟨w.heap.size, 4, none⟩ = some (.slice none 0 0) := (blk hz3).2.1 4 _ rfl
  have qf4 := (blk hz3).2.2 4
  have q5 : w3.cell? ⟨w.heap.size, 5, none⟩ = some (.slice none 0 0) := (blk hz3).2.1 5 _ rfl
  have qf5 := (blk hz3).2.2 5
  have q6 : w3.cell? ⟨w.heap.size, 6, none⟩ = some (.slice none 0 0) := (blk hz3).2.1 6 _ rfl
  have qf6 := (blk hz3).2.2 6
  have hBw3 : But r w w3 := (But.of hb02 (Nat.le_refl _)).trans hB3
  have hls : w.heap.size < w2.heap.size := (Array.getElem?_eq_some_iff.1 hz2).1
  have HF := hide (And.intro hz3 (And.intro hW3 (And.intro hS3 (And.intro hBw3 (And.intro hls hB3.size)))))
  clear hb02 hz2 hz3 hV h1' h2' hL hV' hP' enL enV enP hBw3 hW3 hS3 hB3 hls hq0 r01
  go_wp2
  obtain ⟨hz3, hW3, hS3, hBw3, hls, hsz⟩ := unhide HF
  have hG : (put7 w3 w.heap.size 0 (.int .i64 ti.op) (.string ti.name) (.int .i64 ti.sort) (.string ti.num) (.slice aL nL cL) (.slice aV nV cV) (.slice aP nP cP)).heap[w.heap.size]? = some (.cells [.int .i64 ti.op, .string ti.name, .int .i64 ti.sort, .string ti.num, .slice aL nL cL, .slice aV nV cV, .slice aP nP cP].toArray 25) := fill7 hz3
  have hBG : But r w (put7 w3 w.heap.size 0 (.int .i64 ti.op) (.string ti.name) (.int .i64 ti.sort) (.string ti.num) (.slice aL nL cL) (.slice aV nV cV) (.slice aP nP cP)) := put7_but hBw3 (Nat.le_refl _)
  have hsG : (put7 w3 w.heap.size 0 (.int .i64 ti.op) (.string ti.name) (.int .i64 ti.sort) (.string ti.num) (.slice aL nL cL) (.slice aV nV cV) (.slice aP nP cP)).heap.size = w3.heap.size := by unfold put7; simp
  have hWG := (put7_far (w := w3) (m := 0) (a := .int .i64 ti.op) (b := .string ti.name) (c := .int .i64 ti.sort) (d := .string ti.num) (e := .slice aL nL cL) (f := .slice aV nV cV) (h := .slice aP nP cP) (show r ≠ w.heap.size by omega)).trans hW3
  have hSG := hS3.but (put7_below (m := 0) (a := .int .i64 ti.op) (b := .string ti.name) (c := .int .i64 ti.sort) (d := .string ti.num) (e := .slice aL nL cL) (f := .slice aV nV cV) (h := .slice aP nP cP) hBw) (fun q hq => put7_far hq) hz3 (by decide)
  have hIG : IsP (put7 w3 w.heap.size 0 (.int .i64 ti.op) (.string ti.name) (.int .i64 ti.sort) (.string ti.num) (.slice aL nL cL) (.slice aV nV cV) (.slice aP nP cP)) (FB w.heap.size (put7 w3 w.heap.size 0 (.int .i64 ti.op) (.string ti.name) (.int .i64 ti.sort) (.string ti.num) (.slice aL nL cL) (.slice aV nV cV) (.slice aP nP cP))) (d + 1 + dl) _ ti := (unhide HV).keep (fun k hk => hk.keep (by omega) (by omega) (put7_far (by have := hk.1; omega))) (by omega)
  exact ⟨rfl, _, res_row (cs := [.int .i64 ti.op, .string ti.name, .int .i64 ti.sort, .string ti.num, .slice aL nL cL, .slice aV nV cV, .slice aP nP cP]) rfl rfl (range_block hG) rfl rfl rfl, _, rfl, hIG, hWG, hSG, XF.ofBut hBG hBr, fun _ => hBG⟩
end Go.Proofs.YtegmckpcchhmdaaDoor

/- Copies: a node that stands, no TAll. -/
namespace Go.Proofs.YtegmckpcchhmdaaDoor
open Go Go.RowKit
theorem inst_none {sub : ByteArray → Option Tm} {t : Tm} {hid : ByteArray → Int} (h : rep sub hid t.op t.name = none) (h19 : t.op ≠ 19) : t.inst sub hid = ⟨t.op, if t.op = 17 ∨ t.op = 18 then t.name else .empty, if t.op = 18 then t.sort else 0, if t.op = 1 then t.num else .empty, t.l.map fun u => u.inst sub hid, [], []⟩ ∧ t.icp sub hid = icpL sub t.l hid := by
  cases t
  rw [Tm.inst, Tm.icp]
  simp only at h h19
  rw [h]
  simp only [within, if_neg h19]
  exact ⟨trivial, rfl⟩
set_option maxRecDepth 1000000 in
set_option maxHeartbeats 16000000 in
theorem yterm_plain {sub : ByteArray → Option Tm} {dl d : Nat} {sv : Value} (hL : YListC sub dl sv d) {B r : Nat} {w : World} {b o : Nat} {t : Tm} {hid : ByteArray → Int} {cp un : Nat} (hT : TmAt w B (d + 1) b o t) (hS : SLv w B sv dl sub hid) (hW : w.heap[r]? = some (CV sv cp)) (hBr : B ≤ r) (hcp : cp + t.icp sub hid ≤ 21474836) (hu : un + (d + 1) + dl ≤ 65536) (hh : ∀ k, 0 ≤ hid k ∧ hid k + t.wt ≤ 400000) (hr : rep sub hid t.op t.name = none) (h19 : t.op ≠ 19) :
    Calls Tryd.prog 36 #[.pointer (some ⟨r, 0, none⟩), .pointer (some ⟨b, o, none⟩), .int .i64 un] w fun e w' => ∃ v, e = .returned v ∧ IsP w' (FB w.heap.size w') (d + 1 + dl) v (t.inst sub hid) ∧ w'.heap[r]? = some (CV sv (cp + t.icp sub hid)) ∧ SLv w' B sv dl sub hid ∧ XF B r w w' ∧ (sv = .map none → But r w w') := by
  obtain ⟨ei, ec⟩ := inst_none hr h19
  rw [ec] at hcp
  rw [ei, ec]
  have hlab : t.label = .agg #[.int .i64 t.op, .string (if t.op = 17 ∨ t.op = 18 then t.name else .empty), .string (if t.op = 1 then t.num else .empty), .int .i64 (if t.op = 18 then t.sort else 0)] := rfl
  have hfs : fits (if t.op = 18 then t.sort else 0) := by
    split
    · exact (show fits t.sort from hT.2.2.1)
    · unfold fits; omega
  generalize hnm : (if t.op = 17 ∨ t.op = 18 then t.name else ByteArray.empty) = nm at *
  generalize hnu : (if t.op = 1 then t.num else ByteArray.empty) = nu at *
  generalize hso : (if t.op = 18 then t.sort else (0 : Int)) = so at *
  have hrw := (Array.getElem?_eq_some_iff.1 hW).1
  have hBw : B ≤ w.heap.size := by omega
  have hlw : ∀ k, 0 ≤ hid k ∧ hid k + lwt t.l ≤ 400000 := fun k => (hh k).imp id (fun h => by
    rw [t.wt_eq] at h
    unfold lwt
    omega)
  obtain ⟨hb, hfo, _, aL, aV, aP, cL, cV, cP, hrg, hRL, hV, hP, _⟩ := hT
  have hbw : b < w.heap.size := by omega
  obtain ⟨n, hn⟩ : ∃ n, t.l.length = n := ⟨_, rfl⟩
  rw [hn] at hRL
  obtain ⟨ml, eml⟩ : ∃ ml, (t.l.map fun u => u.inst sub hid) = ml := ⟨_, rfl⟩
  have hml : ml.length = n := by rw [← eml, List.length_map, hn]
  rw [eml]
  obtain ⟨A, eA, hbA, hsA, hcA, hhA⟩ := box_new w #[.int .i64 0, .string ⟨#[]⟩, .int .i64 0, .string ⟨#[]⟩, .slice none 0 0, .slice none 0 0, .slice none 0 0] 25
  have c0 : A.cell? ⟨b, o, none⟩ = some (.int .i64 t.op) := (hbA.cell (p := ⟨b, o, none⟩) hbw).trans (hrg 0 _ rfl)
  have hWA : A.heap[r]? = some (CV sv cp) := (hbA.block r hrw).trans hW
  have HG := hide hrg
  have HN := hide hn
  have HI := hide (And.intro hS (And.intro hW (And.intro hbA (And.intro hhA (And.intro hsA (And.intro eml (And.intro hr (And.intro hcp (And.intro hRL (And.intro hlw (And.intro hlab (And.intro hfo (And.intro hfs hml)))))))))))))
  have HL := hide hL
  have hbA1 : b < A.heap.size := by omega
  have HWA := hide hWA
  have hrA : r < A.heap.size := by omega
  have hk2 : kindOf t.op ≠ 82 := kindOf_all h19
  have ta0 := fun w => ta_no (ty := 82) (v := .agg #[.pointer (some ⟨b, o, none⟩)]) (z := .agg #[.pointer none]) (w := w) hk2 rfl rfl (by go_simp)
  clear hrg hRL hV hP hS hW hr ei ec hL eml hbA hhA hsA hcA hcp hWA hlw hlab hfo hfs hml hnm hnu hso hn hh h19 hk2
  go_enter Tryd.func36, Tryd.ntmps36
  go_wp2_with fail
  refine (view_any b o t.op A c0 hbA1).mono ?_
  rintro e w1 ⟨rfl, hb1⟩
  have r01 : w1.cell? ⟨r, 0, none⟩ = some sv := (blk ((hb1.block r hrA).trans (unhide HWA))).2.1 0 _ rfl
  have HB1 := hide hb1
  clear hb1 c0
  go_wp2_with fail
  obtain ⟨hS, hW, hbA, hhA, hsA, eml, hr, hcp, hRL, hlw, hlab, hfo, hfs, hml⟩ := unhide HI
  have hb01 : Below w.heap.size w w1 := hbA.trans ((unhide HB1).mono (by omega))
  refine (of_any (hS.below hb01 (Nat.le_refl _)) (by have := hb01.size; omega) (by have := hb01.size; omega) ((hb01.cell (p := ⟨b, o + 1, none⟩) hbw).trans ((unhide HG) 1 _ rfl))).mono ?_
  rintro e w2 ⟨hb2, h2⟩
  rw [hr] at h2
  have he : e = .returned (.pointer none) := by
    rcases h2 with ⟨_, h⟩ | ⟨_, _, _, _, h, _⟩
    · exact h
    · cases h
  subst he
  have hb02 : Below w.heap.size w w2 := hb01.trans (hb2.mono hb01.size)
  have hz2 : w2.heap[w.heap.size]? = some (.cells #[.int .i64 0, .string ⟨#[]⟩, .int .i64 0, .string ⟨#[]⟩, .slice none 0 0, .slice none 0 0, .slice none 0 0] 25) := by
    rw [hb2.block _ (by have := (unhide HB1).size; omega), (unhide HB1).block _ (by omega)]
    exact hhA
  have hbc := fun k (h : k < 7) v (hv : (tcells t aL aV aP cL cV cP)[k]? = some v) => (hb02.cell (p := ⟨b, o + k, none⟩) hbw).trans ((unhide HG) k v hv)
  have HLab := hide (labelOf_any (w := w2) (b := b) (o := o) (t := t) (hbc 0 (by omega) _ rfl) (hbc 1 (by omega) _ rfl) (hbc 2 (by omega) _ rfl) (hbc 3 (by omega) _ rfl) (Nat.lt_of_lt_of_le hbw hb02.size))
  rw [hlab] at HLab
  have H2 := hide (And.intro hb02 hz2)
  clear hS hW hbA hhA hsA eml hr hcp hRL hlw hlab hfo hfs hml hb01 hb2 h2 hb02 hz2 hbc HB1
  go_wp2_with fail
  refine (unhide HLab).mono ?_
  rintro e w3 ⟨rfl, hb3⟩
  have HB3 := hide hb3
  clear hb3 HLab
  go_wp2_with fail
  refine (bare_any t.op so nm nu w3).mono ?_
  rintro e w4 ⟨rfl, hb4⟩
  obtain ⟨hb02, hz2⟩ := unhide H2
  have hb04 : Below w.heap.size w w4 := (hb02.trans ((unhide HB3).mono hb02.size)).trans (hb4.mono (Nat.le_trans hb02.size (unhide HB3).size))
  have hz4 : w4.heap[w.heap.size]? = some (.cells #[.int .i64 0, .string ⟨#[]⟩, .int .i64 0, .string ⟨#[]⟩, .slice none 0 0, .slice none 0 0, .slice none 0 0] 25) := by
    rw [hb4.block _ (Nat.lt_of_lt_of_le (Array.getElem?_eq_some_iff.1 hz2).1 (unhide HB3).size), (unhide HB3).block _ (Array.getElem?_eq_some_iff.1 hz2).1]
    exact hz2
  obtain ⟨E, eE, hbE, hsE, hcE, hhE⟩ := box_new w4 #[.int .i64 t.op, .string nm, .int .i64 so, .string nu, .slice none 0 0, .slice none 0 0, .slice none 0 0] 25
  obtain ⟨F, eF, hbF, hsF, hcF, hhF⟩ := box_new E #[.pointer none] 82
  have hb0F : Below w.heap.size w F := (hb04.trans (hbE.mono hb04.size)).trans (hbF.mono (by have := hb04.size; omega))
  have hp : F.heap[w4.heap.size]? = some (.cells #[.int .i64 t.op, .string nm, .int .i64 so, .string nu, .slice none 0 0, .slice none 0 0, .slice none 0 0] 25) := (hbF.block _ (by omega)).trans hhE
  have hzF : F.heap[w.heap.size]? = some (.cells #[.int .i64 0, .string ⟨#[]⟩, .int .i64 0, .string ⟨#[]⟩, .slice none 0 0, .slice none 0 0, .slice none 0 0] 25) := by
    have h := (Array.getElem?_eq_some_iff.1 hz4).1
    rw [hbF.block _ (by omega), hbE.block _ h]
    exact hz4
  have f4 : ∀ x y, ((w4.alloc x).alloc y).cell? ⟨b, o + 4, none⟩ = some (.slice aL n cL) := fun x y => by
    rw [← unhide HN]
    exact (((hb04.alloc hb04.size x).alloc (by have := hb04.size; simp; omega) y).cell (p := ⟨b, o + 4, none⟩) hbw).trans ((unhide HG) 4 _ rfl)
  have HEF := hide (And.intro eE eF)
  obtain ⟨hS, hW, hbA, hhA, hsA, eml, hr, hcp, hRL, hlw, hlab, hfo, hfs, hml⟩ := unhide HI
  have HLi := hide (unhide HL B r F aL n cL t.l hid cp (un + 1) (hRL.below (hb0F.mono hBw)) (unhide HN).symm (hS.below hb0F (Nat.le_refl _)) ((hb0F.block r hrw).trans hW) hBr hcp (by omega) hlw)
  have HE := hide (And.intro hb0F (And.intro hp (And.intro hzF (And.intro hsE (And.intro hsF (And.intro eml (And.intro hfo (And.intro hfs (And.intro hml (And.intro (Array.getElem?_eq_some_iff.1 hz4).1 hb04.size))))))))))
  clear hS hW hbA hhA hsA eml hr hcp hRL hlw hlab hfo hfs hml hb02 hz2 hb04 hz4 hb4 hbE hsE hcE hhE hbF hsF hcF hhF hb0F hp hzF HB3 H2 r01 eE eF
  go_wp2_with fail
  obtain ⟨eE, eF⟩ := unhide HEF
  rw [eE, eF]
  clear eE eF
  rw [show ((un : Int) + 1) = ((un + 1 : Nat) : Int) by omega]
  refine (unhide HLi).mono ?_
  rintro e w5 ⟨a2, c2, rfl, hR5, hW5, hS5, hX5, hB5⟩
  obtain ⟨hb0F, hp, hzF, hsE, hsF, eml, hfo, hfs, hml, hlt4, hle4⟩ := unhide HE
  rw [eml] at hR5
  have hp5 := hX5.blk hp (by omega) (by decide)
  have hz5 := hX5.blk hzF (by omega) (by decide)
  have hne : w4.heap.size ≠ w.heap.size := by omega
  have hne2 : w.heap.size ≠ w4.heap.size := by omega
  obtain ⟨G, eG⟩ : ∃ G, w5.setCell ⟨w4.heap.size, 4, none⟩ (.slice a2 n c2) = G := ⟨_, rfl⟩
  have hpG : G.heap[w4.heap.size]? = some (.cells #[.int .i64 t.op, .string nm, .int .i64 so, .string nu, .slice a2 n c2, .slice none 0 0, .slice none 0 0] 25) := by
    rw [← eG]
    exact set_block hp5 _
  have hzG : G.heap[w.heap.size]? = some (.cells #[.int .i64 0, .string ⟨#[]⟩, .int .i64 0, .string ⟨#[]⟩, .slice none 0 0, .slice none 0 0, .slice none 0 0] 25) := by
    rw [← eG]
    exact keep_set hz5 hne2 _
  have y4 : w5.cell? ⟨w4.heap.size, 4, none⟩ = some (.slice none 0 0) := (blk hp5).2.1 4 _ rfl
  have yf4 := (blk hp5).2.2 4
  have q0 : G.cell? ⟨w.heap.size, 0, none⟩ = some (.int .i64 0) := (blk hzG).2.1 0 _ rfl
  have qf0 := (blk hzG).2.2 0
  have p0 : G.cell? ⟨w4.heap.size, 0, none⟩ = some (.int .i64 t.op) := (blk hpG).2.1 0 _ rfl
  have q1 : G.cell? ⟨w.heap.size, 1, none⟩ = some (.string ⟨#[]⟩) := (blk hzG).2.1 1 _ rfl
  have qf1 := (blk hzG).2.2 1
  have p1 : G.cell? ⟨w4.heap.size, 1, none⟩ = some (.string nm) := (blk hpG).2.1 1 _ rfl
  have q2 : G.cell? ⟨w.heap.size, 2, none⟩ = some (.int .i64 0) := (blk hzG).2.1 2 _ rfl
  have qf2 := (blk hzG).2.2 2
  have p2 : G.cell? ⟨w4.heap.size, 2, none⟩ = some (.int .i64 so) := (blk hpG).2.1 2 _ rfl
  have q3 : G.cell? ⟨w.heap.size, 3, none⟩ = some (.string ⟨#[]⟩) := (blk hzG).2.1 3 _ rfl
  have qf3 := (blk hzG).2.2 3
  have p3 : G.cell? ⟨w4.heap.size, 3, none⟩ = some (.string nu) := (blk hpG).2.1 3 _ rfl
  have q4 : G.cell? ⟨w.heap.size, 4, none⟩ = some (.slice none 0 0) := (blk hzG).2.1 4 _ rfl
  have qf4 := (blk hzG).2.2 4
  have p4 : G.cell? ⟨w4.heap.size, 4, none⟩ = some (.slice a2 n c2) := (blk hpG).2.1 4 _ rfl
  have q5 : G.cell? ⟨w.heap.size, 5, none⟩ = some (.slice none 0 0) := (blk hzG).2.1 5 _ rfl
  have qf5 := (blk hzG).2.2 5
  have p5 : G.cell? ⟨w4.heap.size, 5, none⟩ = some (.slice none 0 0) := (blk hpG).2.1 5 _ rfl
  have q6 : G.cell? ⟨w.heap.size, 6, none⟩ = some (.slice none 0 0) := (blk hzG).2.1 6 _ rfl
  have qf6 := (blk hzG).2.2 6
  have p6 : G.cell? ⟨w4.heap.size, 6, none⟩ = some (.slice none 0 0) := (blk hpG).2.1 6 _ rfl
  have HF := hide (And.intro hpG (And.intro hzG (And.intro hR5 (And.intro hW5 (And.intro hS5 (And.intro hX5 (And.intro hB5 (And.intro hp5 eG))))))))
  clear hpG hzG hR5 hW5 hS5 hX5 hB5 hp5 hz5 hb0F hp hzF hsE hsF eml hfo hfs hml f4 hlt4 hle4
  go_wp2
  obtain ⟨hpG, hzG, hR5, hW5, hS5, hX5, hB5, hp5, eG⟩ := unhide HF
  obtain ⟨hb0F, hp, hzF, hsE, hsF, eml, hfo, hfs, hml, hlt4, hle4⟩ := unhide HE
  have hbG : Below B w5 G := by
    rw [← eG]
    exact (Below.refl B w5).setCell (p := ⟨w4.heap.size, 4, none⟩) (show B ≤ w4.heap.size by omega) _
  have hbX : Below B G (put7 G w.heap.size 0 (.int .i64 t.op) (.string nm) (.int .i64 so) (.string nu) (.slice a2 n c2) (.slice none 0 0) (.slice none 0 0)) := put7_below hBw
  have hH : (put7 G w.heap.size 0 (.int .i64 t.op) (.string nm) (.int .i64 so) (.string nu) (.slice a2 n c2) (.slice none 0 0) (.slice none 0 0)).heap[w.heap.size]? = some (.cells [.int .i64 t.op, .string nm, .int .i64 so, .string nu, .slice a2 n c2, .slice none 0 0, .slice none 0 0].toArray 25) := fill7 hzG
  have hfar : ∀ k, k ≠ w.heap.size → k ≠ w4.heap.size → (put7 G w.heap.size 0 (.int .i64 t.op) (.string nm) (.int .i64 so) (.string nu) (.slice a2 n c2) (.slice none 0 0) (.slice none 0 0)).heap[k]? = w5.heap[k]? := fun k h1 h2 => by
    rw [put7_far h1, ← eG]
    exact Below.heap_setCell w5 ⟨w4.heap.size, 4, none⟩ _ k h2
  have hsX : w5.heap.size ≤ (put7 G w.heap.size 0 (.int .i64 t.op) (.string nm) (.int .i64 so) (.string nu) (.slice a2 n c2) (.slice none 0 0) (.slice none 0 0)).heap.size := Nat.le_trans hbG.size hbX.size
  have hWX := (hfar r (by omega) (by omega)).trans hW5
  have hSX := (hS5.but hbG (g := w4.heap.size) (fun q hq => by rw [← eG]; exact Below.heap_setCell w5 ⟨w4.heap.size, 4, none⟩ _ q hq) hp5 (by decide)).but hbX (fun q hq => put7_far hq) hzG (by decide)
  have hX := (XF.of (B := B) (r := r) hb0F (Nat.le_refl _)).trans hX5
  have hXX : XF B r w (put7 G w.heap.size 0 (.int .i64 t.op) (.string nm) (.int .i64 so) (.string nu) (.slice a2 n c2) (.slice none 0 0) (.slice none 0 0)) := ⟨hbX.os.trans (hbG.os.trans hX.os), hbX.tape.trans (hbG.tape.trans hX.tape), hbX.output.trans (hbG.output.trans hX.output), Nat.le_trans hX.size hsX, fun k hk hj => (hfar k (by omega) (by omega)).trans (hX.block k hk hj)⟩
  have hBX : sv = .map none → But r w (put7 G w.heap.size 0 (.int .i64 t.op) (.string nm) (.int .i64 so) (.string nu) (.slice a2 n c2) (.slice none 0 0) (.slice none 0 0)) := fun e => put7_but (by
    rw [← eG]
    exact ((But.of hb0F (Nat.le_refl _)).trans (hB5 e)).setCell (p := ⟨w4.heap.size, 4, none⟩) (.inr hle4) _) (Nat.le_refl _)
  have hkk : ∀ k, FB F.heap.size w5 k → FB w.heap.size (put7 G w.heap.size 0 (.int .i64 t.op) (.string nm) (.int .i64 so) (.string nu) (.slice a2 n c2) (.slice none 0 0) (.slice none 0 0)) k ∧ (put7 G w.heap.size 0 (.int .i64 t.op) (.string nm) (.int .i64 so) (.string nu) (.slice a2 n c2) (.slice none 0 0) (.slice none 0 0)).heap[k]? = w5.heap[k]? := fun k hk => hk.keep (by omega) hsX (hfar k (by have := hk.1; omega) (by have := hk.1; omega))
  have hIX : IsP (put7 G w.heap.size 0 (.int .i64 t.op) (.string nm) (.int .i64 so) (.string nu) (.slice a2 n c2) (.slice none 0 0) (.slice none 0 0)) (FB w.heap.size (put7 G w.heap.size 0 (.int .i64 t.op) (.string nm) (.int .i64 so) (.string nu) (.slice a2 n c2) (.slice none 0 0) (.slice none 0 0))) (d + 1 + dl) (.agg [.int .i64 t.op, .string nm, .int .i64 so, .string nu, .slice a2 n c2, .slice none 0 0, .slice none 0 0].toArray) ⟨t.op, nm, so, nu, ml, [], []⟩ := by
    refine ⟨hfo, hfs, a2, none, none, c2, 0, 0, by simp [tcells, hml], ?_, ⟨Nat.le_refl _, by simp, fun h => absurd rfl h⟩, ⟨Nat.le_refl _, by simp, fun h => absurd rfl h⟩⟩
    show RowP _ a2 ml.length c2 7 _
    rw [hml]
    exact hR5.imp (fun k hk => (hkk k hk).1) fun b' o' j hb' h x hx => (h x hx).keep hkk (by omega)
  exact ⟨rfl, _, res_row (cs := [.int .i64 t.op, .string nm, .int .i64 so, .string nu, .slice a2 n c2, .slice none 0 0, .slice none 0 0]) rfl rfl (range_block hH) rfl rfl rfl, _, rfl, hIX, hWX, hSX, hXX, hBX⟩
end Go.Proofs.YtegmckpcchhmdaaDoor

namespace Go.Proofs.YtegmckpcchhmdaaDoor
open Go Go.RowKit
/-- New blocks from lim on, no slots, stand. -/
structure KF (lim : Nat) (w w' : World) : Prop where
  size : w.heap.size ≤ w'.heap.size
  block : ∀ k, lim ≤ k → k < w.heap.size → NS w k → w'.heap[k]? = w.heap[k]?
theorem KF.refl (lim : Nat) (w : World) : KF lim w w := ⟨Nat.le_refl _, fun _ _ _ _ => rfl⟩
theorem KF.trans {lim : Nat} {a b c : World} (h : KF lim a b) (k : KF lim b c) : KF lim a c := ⟨Nat.le_trans h.size k.size, fun j h1 h2 h3 => by
  have e := h.block j h1 h2 h3
  exact (k.block j h1 (Nat.lt_of_lt_of_le h2 h.size) (fun cs fr hc => h3 cs fr (e.symm.trans hc))).trans e⟩
theorem KF.of {lim : Nat} {w w' : World} (h : Below w.heap.size w w') : KF lim w w' := ⟨h.size, fun k _ hk _ => h.block k hk⟩
theorem KF.set {lim q o : Nat} {w : World} {v : Value} (hq : q < lim) : KF lim w (w.setCell ⟨q, o, none⟩ v) := ⟨by simp, fun k h1 _ _ => Below.heap_setCell w ⟨q, o, none⟩ v k (by show k ≠ q; omega)⟩
theorem KF.ofX {lim B r : Nat} {w w' : World} (h : XF B r w w') (hr : r < lim) : KF lim w w' := ⟨h.size, fun k h1 h2 h3 => h.block k h2 (.inr ⟨by omega, h3⟩)⟩
theorem KF.put7 {lim q m : Nat} {w : World} {a b c d e f h : Value} (hq : q < lim) : KF lim w (put7 w q m a b c d e f h) := ⟨by unfold Go.Proofs.YtegmckpcchhmdaaDoor.put7; simp, fun k h1 _ _ => put7_far (by omega)⟩
theorem KF.fb {lim m m' : Nat} {w w' : World} (h : KF lim w w') (hl : lim ≤ m) (hm : m' ≤ m) (k : Nat) (hk : FB m w k) : FB m' w' k ∧ w'.heap[k]? = w.heap[k]? := hk.keep hm h.size (h.block k (Nat.le_trans hl hk.1) hk.2.1 hk.2.2)
theorem XF.setNew {B r q o : Nat} {w w4 : World} {v : Value} (h : XF B r w w4) (hq : w.heap.size ≤ q) : XF B r w (w4.setCell ⟨q, o, none⟩ v) := by
  refine ⟨h.os, h.tape, h.output, by simpa using h.size, fun k hk hj => ?_⟩
  rw [Below.heap_setCell w4 ⟨q, o, none⟩ v k (by show k ≠ q; omega)]
  exact h.block k hk hj
/-- A copier at work on a TAll: its own block, slots, the answer's box, the box of what is made, the node's. -/
structure YI (B r z q u dl : Nat) (sv : Value) (sub : ByteArray → Option Tm) (b o : Nat) (w W : World) (hid : ByteArray → Int) (cp : Nat) (oc : Array Value) : Prop where
  cv : W.heap[r]? = some (CV sv cp)
  sl : SLv W B sv dl sub hid
  xf : XF B r w W
  but : sv = .map none → But r w W
  out : W.heap[q]? = some (.cells oc 25)
  zero : W.heap[z]? = some (.cells #[.int .i64 0, .string ⟨#[]⟩, .int .i64 0, .string ⟨#[]⟩, .slice none 0 0, .slice none 0 0, .slice none 0 0] 25)
  uni : W.heap[u]? = some (.cells #[.pointer (some ⟨b, o, none⟩)] 82)
section
variable {B r z q u dl lim : Nat} {sv : Value} {sub : ByteArray → Option Tm} {b o : Nat} {w W : World} {hid : ByteArray → Int} {cp : Nat} {oc : Array Value}
theorem YI.grow {W' : World} (h : YI B r z q u dl sv sub b o w W hid cp oc) (hb : Below W.heap.size W W') : YI B r z q u dl sv sub b o w W' hid cp oc := by
  have k : ∀ {j : Nat} {x : Obj}, W.heap[j]? = some x → W'.heap[j]? = some x := fun hx => (hb.block _ (Array.getElem?_eq_some_iff.1 hx).1).trans hx
  exact ⟨k h.cv, h.sl.below hb (Nat.le_refl _), h.xf.trans (XF.of hb (Nat.le_refl _)), fun e => (h.but e).trans (But.of hb (Nat.le_refl _)), k h.out, k h.zero, k h.uni⟩
theorem YI.copied (h : YI B r z q u dl sv sub b o w W hid cp oc) (hBr : B ≤ r) (hq : q ≠ r) (hz : z ≠ r) (hu : u ≠ r) (c : Nat) : YI B r z q u dl sv sub b o w (W.setCell ⟨r, 1, none⟩ (.int .i64 (c : Int))) hid c oc := by
  refine ⟨?_, h.sl.set hBr h.cv (by decide), h.xf.set hBr, fun e => (h.but e).setCell (p := ⟨r, 1, none⟩) (.inl rfl) _, keep_set h.out hq _, keep_set h.zero hz _, keep_set h.uni hu _⟩
  rw [set_block h.cv]
  rfl
theorem YI.put (h : YI B r z q u dl sv sub b o w W hid cp oc) (hq : q ≠ r) (hzq : z ≠ q) (huq : u ≠ q) (hwq : w.heap.size ≤ q) (hBq : B ≤ q) (j : Nat) (v : Value) : YI B r z q u dl sv sub b o w (W.setCell ⟨q, j, none⟩ v) hid cp (oc.setIfInBounds j v) :=
  ⟨keep_set h.cv (fun e => hq e.symm) _, h.sl.set hBq h.out (by decide), h.xf.setNew hwq, fun e => (h.but e).setCell (p := ⟨q, j, none⟩) (.inr hwq) _, set_block h.out _, keep_set h.zero hzq _, keep_set h.uni huq _⟩
theorem YI.list {W' : World} {cp' : Nat} (h : YI B r z q u dl sv sub b o w W hid cp oc) (hq : q ≠ r) (hz : z ≠ r) (hu : u ≠ r) (h1 : W'.heap[r]? = some (CV sv cp')) (h2 : SLv W' B sv dl sub hid) (h3 : XF B r W W') (h4 : sv = .map none → But r W W') : YI B r z q u dl sv sub b o w W' hid cp' oc :=
  ⟨h1, h2, h.xf.trans h3, fun e => (h.but e).trans (h4 e), h3.blk h.out hq (by decide), h3.blk h.zero hz (by decide), h3.blk h.uni hu (by decide)⟩
theorem hide_c {aV : Option Addr} {cV : Nat} {x : List (ByteArray × Int)} {s : Int} (h : YI B r z q u dl sv sub b o w W hid cp oc) (hx : Row B aV x.length cV 2 (BR w x)) (hBw : B ≤ w.heap.size) (hs : s = 1 ∨ s = -1) (hh : ∀ k, -500000 ≤ hid k ∧ hid k ≤ 500000) (hl : x.length ≤ 400000) (W0 : World) (hb : Below W.heap.size W W0) :
    Calls Tryd.prog 51 #[sv, .slice aV x.length cV, .int .i64 s] W0 fun e w' => e = .returned (.tuple #[]) ∧ YI B r z q u dl sv sub b o w w' (hidV s x hid) cp oc ∧ KF lim W w' := by
  have h0 := h.grow hb
  have hbel := h0.xf.below hBw
  refine (hide_any h0.sl (hx.mono (Nat.le_refl _) fun b o j hb2 h u hu => ⟨rangeAt_below (h u hu).1 hb2 hbel, (h u hu).2⟩) rfl (by have := h0.xf.size; omega) hs hh hl).mono ?_
  rintro e w' ⟨rfl, h1, h2, h3⟩
  refine ⟨rfl, ⟨(h2 (r + 1)).blk h0.cv (by omega) (by decide), h1, h0.xf.trans (h2 r), fun e => (h0.but e).trans (But.of (h3 e) (Nat.le_refl _)), (h2 (q + 1)).blk h0.out (by omega) (by decide), (h2 (z + 1)).blk h0.zero (by omega) (by decide), (h2 (u + 1)).blk h0.uni (by omega) (by decide)⟩, (KF.of hb).trans ⟨(h2 0).size, fun k _ hk hn => (h2 (k + 1)).block k hk (.inr ⟨by omega, hn⟩)⟩⟩
end
theorem inst_all {sub : ByteArray → Option Tm} {t : Tm} {hid : ByteArray → Int} (h : rep sub hid t.op t.name = none) (h19 : t.op = 19) : t.inst sub hid = ⟨t.op, if t.op = 17 ∨ t.op = 18 then t.name else .empty, if t.op = 18 then t.sort else 0, if t.op = 1 then t.num else .empty, t.l.map fun u => u.inst sub (hidV 1 t.vars hid), t.vars, t.pat.map fun u => u.inst sub (hidV 1 t.vars hid)⟩ ∧ t.icp sub hid = t.vars.length + icpL sub t.pat (hidV 1 t.vars hid) + icpL sub t.l (hidV 1 t.vars hid) := by
  cases t
  rw [Tm.inst, Tm.icp]
  simp only at h h19
  rw [h]
  subst h19
  simp only [within, if_true]
  refine ⟨trivial, ?_⟩
  unfold icpL
  omega
theorem YI.cells {B r z q u dl : Nat} {sv : Value} {sub : ByteArray → Option Tm} {b o : Nat} {w W : World} {hid : ByteArray → Int} {cp : Nat} {oc : Array Value} {cs : List Value} (h : YI B r z q u dl sv sub b o w W hid cp oc) (hrg : w.rangeAt b o cs) (hBw : B ≤ w.heap.size) (hb : b < B) : W.cell? ⟨r, 0, none⟩ = some sv ∧ W.cell? ⟨u, 0, none⟩ = some (.pointer (some ⟨b, o, none⟩)) ∧ ∀ (k : Nat) v, cs[k]? = some v → W.cell? ⟨b, o + k, none⟩ = some v :=
  ⟨(blk h.cv).2.1 0 _ rfl, (blk h.uni).2.1 0 _ rfl, fun k v hv => ((h.xf.below hBw).cell (p := ⟨b, o + k, none⟩) hb).trans (hrg k v hv)⟩
end Go.Proofs.YtegmckpcchhmdaaDoor
