/- Arguments of type api.Term, as the rows read them. -/
import Derived.Test.YtegmckpcchhmdaaDoorZAP
import Derived.Test.YtegmckpcchhmdaaDoorZAE
import Derived.Test.YtegmckpcchhmdaaDoorRows
import Derived.ProofKit
import Derived.OpenShut
import Derived.SizedLaws
import Derived.Carry
set_option linter.unusedVariables false
set_option linter.unusedSimpArgs false

/- Apps: copies of ground applications. -/
namespace Go.Proofs.YtegmckpcchhmdaaDoor
open Go Go.RowKit
theorem own_cell {w : World} {B n i : Nat} {ty : TypeId} {a : Option Addr} {m c : Nat} {ps : List (Nat × Nat)} {p : Nat × Nat} (h : w.ownsRow B ty 1 (.slice a m c) n (ptrs ps)) (hp : ps[i]? = some p) : ∃ g, a = some ⟨g, 0, none⟩ ∧ m = n ∧ B ≤ g ∧ (∃ cur, w.heap[g]? = some (.cells cur ty)) ∧ w.cell? ⟨g, i, none⟩ = some (.pointer (some ⟨p.1, p.2, none⟩)) := by
  obtain ⟨h1, ⟨_, h2⟩ | ⟨g, cap, cur, e, h2, h3, h4, h5, h6, h7⟩⟩ := h
  · have hi := (List.getElem?_eq_some_iff.1 hp).1
    simp only [ptrs, List.length_map] at h1
    omega
  · injection e with e1 e2 e3
    refine ⟨g, e1, e2, h2, ⟨cur, h3⟩, (blk h3).2.1 i _ ?_⟩
    have h8 : (cur.toList.take (n * 1))[i]? = some (.pointer (some ⟨p.1, p.2, none⟩)) := by
      rw [h7]
      simp [ptrs, hp]
    rw [List.getElem?_take] at h8
    split at h8
    · rw [← Array.getElem?_toList]
      exact h8
    · cases h8
def icps (l : List Tm) : Nat := (l.map Tm.icp0).sum
theorem icps_take {l : List Tm} {i : Nat} (h : i < l.length) : icps (l.take (i + 1)) = icps (l.take i) + l[i].icp0 := by
  unfold icps
  rw [take_more h, List.map_append, List.sum_append]
  simp
theorem icps_le (l : List Tm) (i : Nat) : icps (l.take i) ≤ icps l := by
  unfold icps
  rw [List.map_take]
  exact sum_take_le _ i
set_option maxRecDepth 1000000 in
set_option maxHeartbeats 16000000 in
theorem copies_any {w : World} {B D n c : Nat} {a : Option Addr} {ps : List (Nat × Nat)} {us : List Tm} (hO : w.ownsRow B 50 1 (.slice a n c) ps.length (ptrs ps)) (hlen : ps.length = us.length) (hn : n = ps.length) (hT : ∀ (k : Nat) p u, ps[k]? = some p → us[k]? = some u → TmAt w B D p.1 p.2 u) (hB : B ≤ w.heap.size) (hsz : szs us ≤ 65536) (hdp : ∀ u ∈ us, u.depth ≤ 65537 ∧ u.wt ≤ 400000) (hic : icps us ≤ 21474836) (hD : D ≤ 65536) :
    Calls Tryd.prog 32 #[.slice a n c] w fun e w' => ∃ a' c', e = .returned (.slice a' n c') ∧ RowP (FB w.heap.size w') a' n c' 7 (fun b o j => ∀ t, (us.map Tm.inst0)[j]? = some t → TmP w' (FB w.heap.size w') (D + 1) b o t) ∧ Below w.heap.size w w' := by
  have hlu : us.length ≤ szs us := by
    clear hsz hdp hic hT hlen
    induction us with
    | nil => exact Nat.le_refl _
    | cons u us ih =>
      have h1 : szs (u :: us) = u.size + szs us := rfl
      have h2 : 0 < u.size := by rw [u.size_eq]; omega
      simp only [List.length_cons]
      omega
  have hn0 : n ≤ 65536 := by omega
  obtain ⟨A, eA, hbA, hsA, hcA, hhA⟩ := box_new w #[.map none, .int .i64 0, .bool false] 123
  have H0 := hide (And.intro (show MS A w.heap.size 0 from hhA) (And.intro hbA hsA))
  have HI := hide (And.intro hO (And.intro hlen (And.intro hn (And.intro hT (And.intro hB (And.intro hsz (And.intro hdp hic)))))))
  clear hO hlen hn hT hB hsz hdp hic hlu hbA hsA hcA hhA
  go_enter Tryd.func32, Tryd.ntmps32
  go_wp2
  clear eA
  go_loopw [13, 4] (fun iv tv wr => ∃ (i s : Nat), i ≤ n ∧ iv = .int .i64 (i : Int) ∧ tv = .int .i64 ((szs (us.take i) : Nat) : Int) ∧ MS wr w.heap.size s ∧ s ≤ szs (us.take i) ∧ But w.heap.size A wr) (fun iv _ _ => (n - (intOf iv).toNat))
  case atStart => exact ⟨0, 0, Nat.zero_le _, rfl, rfl, (unhide H0).1, Nat.le_refl _, But.refl _ _⟩
  case round =>
    obtain ⟨i, s, hi, rfl, rfl, hMi, hsi, hbi⟩ := hrel
    obtain ⟨hO, hlen, hn, hT, hB, hsz, hdp, hic⟩ := unhide HI
    obtain ⟨_, hbA, hsA⟩ := unhide H0
    by_cases hlt : i < n
    · have hip : i < ps.length := by omega
      have hiu : i < us.length := by omega
      have hdi : decide ((i : Int) < (n : Int)) = true := by simp; omega
      have hIi : (i : Int) < (n : Int) := by omega
      have hcap : (i : Int) < 281474976710656 := by omega
      obtain ⟨g, rfl, -, hgB, ⟨cur, hgc⟩, hcell⟩ := own_cell hO (List.getElem?_eq_getElem hip)
      have hgw : g < w.heap.size := (Array.getElem?_eq_some_iff.1 hgc).1
      have hcr : wr.cell? ⟨g, i, none⟩ = some (.pointer (some ⟨ps[i].1, ps[i].2, none⟩)) := (hbi.cell (p := ⟨g, i, none⟩) (by show g < _; omega) (by show g ≠ _; omega)).trans ((hbA.cell (p := ⟨g, i, none⟩) hgw).trans hcell)
      have hTi := hT i _ _ (List.getElem?_eq_getElem hip) (List.getElem?_eq_getElem hiu)
      have hTr : TmAt wr B D ps[i].1 ps[i].2 us[i] := hTi.more ((hbA.mono hB).trans (hbi.below hB (by omega))) (Nat.le_refl _) (Nat.le_refl _)
      have hmore := szs_take hiu
      have hle := szs_le us (i + 1)
      have hdu := (hdp us[i] (List.getElem_mem hiu)).1
      have HM := hide (mterm_any D B w.heap.size s wr ps[i].1 ps[i].2 us[i] 0 hTr hMi hB (by omega) (by omega))
      have HC := hide (capped_eq (szs (us.take i)) us[i].size)
      have HP := hide (And.intro hbi (And.intro hmore (And.intro hsi hle)))
      generalize hpi : ps[i] = pi at *
      obtain ⟨pb, po⟩ := pi
      generalize hus : us[i] = ui at *
      obtain ⟨si, esi⟩ : ∃ x, szs (us.take i) = x := ⟨_, rfl⟩
      have HSI := hide esi
      rw [esi] at HC
      have hfd : ∀ w : World, (Instr.field 74 (.agg #[.int .i64 (ui.size : Int), .int .i64 (ui.depth : Int), .bool ui.ground]) 0).run Tryd.prog w = .ok (.int .i64 (ui.size : Int)) w := fun _ => rfl
      clear hO hlen hn hT hB hsz hdp hic hbA hsA hgB hgc hcell hTi hTr hmore hle hdu hMi hsi hbi hpi hus esi
      go_wp2_with fail
      refine (unhide HM).mono ?_
      rintro e w2 ⟨rfl, hM2, hb2⟩
      obtain ⟨hbi, hmore, hsi, hle⟩ := unhide HP
      have hsz65 : szs us ≤ 65536 := (unhide HI).2.2.2.2.2.1
      have HC2 := hide (unhide HC w2 (by have := unhide HSI; omega))
      have H2 := hide (And.intro hM2 (hbi.trans hb2))
      clear hbi hmore hsi hle hM2 hb2 hsz65
      rw [unhide HSI]
      go_wp2_with fail
      refine (unhide HC2).mono ?_
      rintro e w3 ⟨rfl, rfl⟩
      go_wp2
      obtain ⟨hbi, hmore, hsi, hle⟩ := unhide HP
      refine ⟨⟨i + 1, _, by omega, rfl, ?_, (unhide H2).1, by omega, (unhide H2).2⟩, by simp only [intOf]; omega⟩
      rw [hmore, unhide HSI]
      simp
    · rename World => wq
      obtain rfl : i = n := by omega
      have hdi : decide ((i : Int) < (i : Int)) = false := by simp
      have htk : us.take i = us := List.take_of_length_le (by omega)
      rw [htk]
      obtain ⟨tot, etot⟩ : ∃ x, szs us = x := ⟨_, rfl⟩
      have hd3 : decide ((21474836 : Int) < ((tot : Nat) : Int)) = false := by simp; omega
      rw [etot]
      obtain ⟨E, eE, hbE, hsE, hcE, hhE⟩ := box_new wq #[.map none, .int .i64 0, .bool false] 90
      obtain ⟨cur0, km, hc0⟩ := mkTerms i E (by omega)
      obtain ⟨G, eG, hbG, hsG, hcG, hhG⟩ := box_new E cur0 25
      have hbw : Below w.heap.size w wq := hbA.trans (hbi.below (Nat.le_refl _) (by omega))
      have hwr : w.heap.size < wq.heap.size := by have := hbi.size; omega
      have HG0 : Hid (TB G (wq.heap.size + 1) i cur0 ∧ G.heap[wq.heap.size]? = some (CV (.map none) 0) ∧ Below w.heap.size w G) := by
        refine ⟨⟨by rw [← hsE]; exact hhG, hc0⟩, (hbG.block _ (by omega)).trans hhE, (hbw.trans (hbE.mono (by omega))).trans (hbG.mono (by omega))⟩
      rw [hsE] at km
      have HE := hide (And.intro eE eG)
      have hi65 : i ≤ 65536 := by omega
      clear hO hlen hn hT hB hsz hdp hic hbA hsA hMi hsi hbi htk etot hbE hsE hcE hhE hbG hsG hcG hhG hbw hc0
      go_wp2
      clear eE eG km
      go_loopw [30] (fun iv wv => ∃ (k : Nat) (cur : Array Value), k ≤ i ∧ iv = .int .i64 (k : Int) ∧ TB wv (wq.heap.size + 1) i cur ∧ wv.heap[wq.heap.size]? = some (CV (.map none) (icps (us.take k))) ∧ Below w.heap.size w wv ∧ Made wv (wq.heap.size + 1) D k (us.map Tm.inst0)) (fun iv _ => (i - (intOf iv).toNat))
      case atStart =>
        obtain ⟨h1, h2, h3⟩ := unhide HG0
        exact ⟨0, cur0, Nat.zero_le _, rfl, h1, h2, h3, fun j t hj => absurd hj (by omega)⟩
      case round =>
        obtain ⟨k, cur, hk, rfl, hTB, hCV, hbk, hMk⟩ := hrel
        obtain ⟨hO, hlen, hn, hT, hB, hsz, hdp, hic⟩ := unhide HI
        by_cases hlk : k < i
        · have hip : k < ps.length := by omega
          have hiu : k < us.length := by omega
          have hdk : decide ((k : Int) < (i : Int)) = true := by simp; omega
          have hIk : (k : Int) < (i : Int) := by omega
          have hcapk : (k : Int) < 281474976710656 := by omega
          obtain ⟨g, rfl, -, hgB, ⟨curg, hgc⟩, hcell⟩ := own_cell hO (List.getElem?_eq_getElem hip)
          have hgw : g < w.heap.size := (Array.getElem?_eq_some_iff.1 hgc).1
          have hcr : wr.cell? ⟨g, k, none⟩ = some (.pointer (some ⟨ps[k].1, ps[k].2, none⟩)) := (hbk.cell (p := ⟨g, k, none⟩) hgw).trans hcell
          have hTk := (hT k _ _ (List.getElem?_eq_getElem hip) (List.getElem?_eq_getElem hiu)).more (hbk.mono hB) (Nat.le_refl _) (Nat.le_refl _)
          have hmore := icps_take hiu
          have hle := icps_le us (k + 1)
          have hwu := (hdp us[k] (List.getElem_mem hiu)).2
          have HY := hide (yterm_no D B wq.heap.size wr ps[k].1 ps[k].2 us[k] (fun _ => 0) (icps (us.take k)) 0 hTk (.inl ⟨rfl, fun _ => rfl⟩) hCV (by omega) (by rw [icp_no hTk]; omega) (by omega) (fun _ => ⟨Int.le_refl _, by show (0 : Int) + (us[k].wt : Int) ≤ 400000; omega⟩))
          rw [icp_no hTk, inst_no hTk] at HY
          have hgi : (us.map Tm.inst0)[k]? = some us[k].inst0 := by rw [List.getElem?_map, List.getElem?_eq_getElem hiu]; rfl
          have HP := hide (And.intro hTB (And.intro hbk (And.intro hMk (And.intro hmore hgi))))
          generalize hpk : ps[k] = pk at *
          obtain ⟨pb, po⟩ := pk
          generalize hus : us[k] = uk at *
          clear hO hlen hn hT hB hsz hdp hic hgB hgc hcell hTk hmore hle hwu hTB hCV hbk hMk hpk hus hgi
          go_wp2_with fail
          refine (unhide HY).mono ?_
          rintro e w7 ⟨v, rfl, hI7, hW7, hS7, hX7, hB7⟩
          obtain ⟨hTB, hbk, hMk, hmore, hgi⟩ := unhide HP
          have hbut := hB7 trivial
          have hT7 : TB w7 (wq.heap.size + 1) i cur := ⟨hX7.blk hTB.1 (by omega) (by decide), hTB.2⟩
          have hgl : wq.heap.size + 1 < wr.heap.size := (Array.getElem?_eq_some_iff.1 hTB.1).1
          have hV : IsP w7 (FB wr.heap.size w7) D v uk.inst0 := hI7
          obtain ⟨h1', h2', aL, aV, aP, cL, cV, cP, rfl, hL, hV', hP'⟩ := hI7
          generalize hti : uk.inst0 = ti at *
          simp only [tcells, List.toArray] at hV ⊢
          obtain ⟨cur', hT9, hM9⟩ := hMk.next (a := .int .i64 ti.op) (b := .string ti.name) (c := .int .i64 ti.sort) (e := .string ti.num) (f := .slice aL ti.l.length cL) (h := .slice aV ti.vars.length cV) (k := .slice aP ti.pat.length cP) hgl hT7 (fun q hq => by
            rcases hq with hq | rfl
            · exact hbut.block q hq.2.1 (by have := hq.1; omega)
            · exact hbut.block _ hgl (by omega)) hX7.size hlk (fun t ht => by
            rw [hgi] at ht
            injection ht with ht
            rw [← ht]
            exact hV)
          have hb9 : Below w.heap.size w7 _ := put7_below (m := k * 7) (a := .int .i64 ti.op) (b := .string ti.name) (c := .int .i64 ti.sort) (d := .string ti.num) (e := .slice aL ti.l.length cL) (f := .slice aV ti.vars.length cV) (h := .slice aP ti.pat.length cP) (show w.heap.size ≤ wq.heap.size + 1 by omega)
          have hb09 := (hbk.trans (hbut.below (by omega) (by omega))).trans hb9
          have hW9 := (put7_far (w := w7) (g := wq.heap.size + 1) (m := k * 7) (a := .int .i64 ti.op) (b := .string ti.name) (c := .int .i64 ti.sort) (d := .string ti.num) (e := .slice aL ti.l.length cL) (f := .slice aV ti.vars.length cV) (h := .slice aP ti.pat.length cP) (show wq.heap.size ≠ wq.heap.size + 1 by omega)).trans hW7
          rw [← hmore] at hW9
          obtain ⟨x0, z0, f0⟩ := hT7.cell (k := k * 7) (by omega)
          obtain ⟨x1, z1, f1⟩ := hT7.cell (k := k * 7 + 1) (by omega)
          obtain ⟨x2, z2, f2⟩ := hT7.cell (k := k * 7 + 2) (by omega)
          obtain ⟨x3, z3, f3⟩ := hT7.cell (k := k * 7 + 3) (by omega)
          obtain ⟨x4, z4, f4⟩ := hT7.cell (k := k * 7 + 4) (by omega)
          obtain ⟨x5, z5, f5⟩ := hT7.cell (k := k * 7 + 5) (by omega)
          obtain ⟨x6, z6, f6⟩ := hT7.cell (k := k * 7 + 6) (by omega)
          have H9 := hide (And.intro hT9 (And.intro hW9 (And.intro hb09 hM9)))
          unfold put7 at H9
          clear hTB hbk hMk hmore hgi hbut hT7 hgl hV h1' h2' hL hV' hP' hti hT9 hM9 hb9 hb09 hW9 hW7 hS7 hX7 hB7 hcr
          generalize ti.l.length = nL at *
          generalize ti.vars.length = nV at *
          generalize ti.pat.length = nP at *
          go_wp2

          exact ⟨⟨k + 1, cur', by omega, rfl, unhide H9⟩, by simp only [intOf]; omega⟩
        · obtain rfl : k = i := by omega
          have hdk : decide ((k : Int) < (k : Int)) = false := by simp
          have hrow := hMk.row hTB (m := w.heap.size) (by omega) (by omega)
          have HF := hide (And.intro hrow hbk)
          clear hO hlen hn hT hB hsz hdp hic hTB hCV hbk hMk hrow
          go_wp2
          go_ret
          exact ⟨_, _, rfl, (unhide HF).1, (unhide HF).2⟩
end Go.Proofs.YtegmckpcchhmdaaDoor

/- Apps. -/
namespace Go.Proofs.YtegmckpcchhmdaaDoor
open Go Go.RowKit
/-- The ground applications in a term, bare. -/
def Tm.apps (t : Tm) : List Tm := (insAll t.gs []).filter isApp
theorem maxOf_le {l : List Nat} {n : Nat} (h : ∀ x ∈ l, x ≤ n) : maxOf l ≤ n := by
  unfold maxOf
  have : ∀ (l : List Nat) (a : Nat), a ≤ n → (∀ x ∈ l, x ≤ n) → l.foldl max a ≤ n := fun l => by
    induction l with
    | nil => intro a ha _; exact ha
    | cons x l ih =>
      intro a ha hl
      exact ih (max a x) (by have := hl x List.mem_cons_self; omega) (fun y hy => hl y (List.mem_cons_of_mem _ hy))
  exact this l 0 (Nat.zero_le _) h
theorem TmAt.depth_le {w : World} {B : Nat} : ∀ {d b o : Nat} {t : Tm}, TmAt w B d b o t → t.depth ≤ d
  | 0, _, _, _, h => h.elim
  | d + 1, b, o, t, ⟨_, _, _, aL, aV, aP, cL, cV, cP, _, hL, _, _, _⟩ => by
    rw [t.depth_eq]
    have := maxOf_le (l := t.l.map Tm.depth) (n := d) (fun x hx => by
      obtain ⟨u, hu, rfl⟩ := List.mem_map.1 hx
      obtain ⟨j, hj, rfl⟩ := List.getElem_of_mem hu
      obtain ⟨b', off, _, _, hjj⟩ := hL.2.2 (by omega)
      exact TmAt.depth_le (hjj j hj _ (List.getElem?_eq_getElem hj)))
    omega
theorem sizeL0 {l : List Tm} (h : ∀ u ∈ l, u.inst0.size = u.size) : l.map (Tm.size ∘ Tm.inst0) = l.map Tm.size := List.map_congr_left fun u hu => h u hu
theorem Tm.size_inst0 (t : Tm) : t.inst0.size = t.size := Tm.ind (p := fun t => t.inst0.size = t.size) (fun t hl _ => by
  rw [Tm.inst0_eq, Tm.size_eq, Tm.size_eq]
  simp only [List.map_map, sizeL0 hl]) t
theorem sizeL_inst0 (l : List Tm) : l.map (Tm.size ∘ Tm.inst0) = l.map Tm.size := sizeL0 fun u _ => u.size_inst0
theorem icpL0 {l : List Tm} (hi : ∀ u ∈ l, u.ground = true → u.icp0 + 1 = u.size) (h : ∀ u ∈ l, u.ground = true) : l.length + (l.map fun u => Tm.icp0 u).sum = (l.map Tm.size).sum := by
  induction l with
  | nil => rfl
  | cons t l ih =>
    have h1 := hi t List.mem_cons_self (h t List.mem_cons_self)
    have h2 := ih (fun u hu => hi u (List.mem_cons_of_mem _ hu)) (fun u hu => h u (List.mem_cons_of_mem _ hu))
    simp only [List.map_cons, List.sum_cons, List.length_cons]
    omega
/-- A ground term is copied, and weighs, as much as it has operators. -/
theorem Tm.icp_ground (t : Tm) : t.ground = true → t.icp0 + 1 = t.size := Tm.ind (p := fun t => t.ground = true → t.icp0 + 1 = t.size) (fun t hl _ h => by
  obtain ⟨_, h19, hg⟩ := (Tm.ground_iff _).1 h
  have h3 := icpL0 hl hg
  obtain ⟨op, name, sort, num, l, vars, pat⟩ := t
  rw [Tm.icp0, Tm.size_eq]
  simp only at h19 h3 ⊢
  rw [if_neg h19]
  omega) t
theorem icpL_ground (l : List Tm) (h : ∀ u ∈ l, u.ground = true) : l.length + (l.map fun u => Tm.icp0 u).sum = (l.map Tm.size).sum := icpL0 (fun u _ => u.icp_ground) h
theorem apps_pick {α β : Type} {R : α → β → Prop} : ∀ (ps : List α) (ts : List β) {γ : Type} {Q : α → γ → Prop} {f : γ → β}, ps.length = ts.length → (∀ (k : Nat) p t, ps[k]? = some p → ts[k]? = some t → ∃ u, Q p u ∧ f u = t) → ∃ us : List γ, us.length = ps.length ∧ (∀ (k : Nat) p u, ps[k]? = some p → us[k]? = some u → Q p u) ∧ us.map f = ts
  | [], [], _, _, _, _, _ => ⟨[], rfl, fun k p u h => by simp at h, rfl⟩
  | [], _ :: _, _, _, _, h, _ => by simp at h
  | _ :: _, [], _, _, _, h, _ => by simp at h
  | p :: ps, t :: ts, γ, Q, f, hl, h => by
    obtain ⟨u, hu, e⟩ := h 0 p t rfl rfl
    obtain ⟨us, h1, h2, h3⟩ := apps_pick (R := R) ps ts (Q := Q) (f := f) (by simpa using hl) (fun k p t hp ht => h (k + 1) p t (by simpa using hp) (by simpa using ht))
    refine ⟨u :: us, by simp [h1], fun k p' u' hp hu' => ?_, by simp [e, h3]⟩
    cases k with
    | zero =>
      simp at hp hu'
      subst hp hu'
      exact hu
    | succ k => exact h2 k p' u' (by simpa using hp) (by simpa using hu')
theorem IsP.boxed {w : World} {B d : Nat} {t : Tm} {cs : Array Value} (h : IsP w (LT B) d (.agg cs) t) (hB : B ≤ w.heap.size) : TmS (w.alloc (.cells cs 25)) (w.heap.size + 1) (d + 1) w.heap.size 0 t := by
  have hb : Below w.heap.size w (w.alloc (.cells cs 25)) := (Below.refl _ w).alloc (Nat.le_refl _) _
  have h2 : IsP (w.alloc (.cells cs 25)) (LT (w.heap.size + 1)) d (.agg cs) t := h.keep (fun k hk => ⟨by have : k < B := hk; show k < _; omega, hb.block k (Nat.lt_of_lt_of_le hk hB)⟩) (Nat.le_refl d)
  refine h2.laid (show w.heap.size < _ by omega) (clear_new w _ _) fun cs' e => ?_
  injection e with e
  subst e
  exact range_new w _ _
set_option maxRecDepth 1000000 in
set_option maxHeartbeats 16000000 in
theorem Apps_any {w : World} {B d : Nat} {v : Value} {t : Tm} (hT : IsP w (LT B) d v t) (hB : B ≤ w.heap.size) (hd : d + 1 ≤ 65536) (hs : t.size ≤ 65537) (hsz : szs t.apps ≤ 65536) (hwt : t.wt ≤ 400000) :
    Calls Tryd.prog 14 #[v] w fun e w' => ∃ a' c', e = .returned (.slice a' t.apps.length c') ∧ RowP (FB w.heap.size w') a' t.apps.length c' 7 (fun b o j => ∀ x, t.apps[j]? = some x → TmP w' (FB w.heap.size w') (d + 2) b o x) ∧ Below w.heap.size w w' := by
  obtain ⟨x0, x1, x2, x3, x4, x5, x6, rfl⟩ := (hT.isT (B := B) fun _ h => h).form
  obtain ⟨A, eA, hbA, hsA, hcA, hhA⟩ := box_new w #[x0, x1, x2, x3, x4, x5, x6] 25
  have hTA := hT.boxed hB
  rw [eA] at hTA
  have HGr := hide (groundApps_any hTA (by omega) hd (by omega) hwt)
  have HI := hide (And.intro hbA (And.intro hsA hsz))
  clear hT hbA hsA hcA hhA hTA hsz hwt
  go_enter Tryd.func14, Tryd.ntmps14
  go_wp2_with fail
  refine (unhide HGr).mono ?_
  rintro e w1 ⟨av, ps, rfl, hO, hAR, hb1⟩
  obtain ⟨hbA, hsA, hsz⟩ := unhide HI
  obtain ⟨us, hul, huT, hum⟩ := apps_pick (R := fun (_ : Nat × Nat) (_ : Tm) => True) ps t.apps (Q := fun p u => TmAt w1 A.heap.size (d + 1) p.1 p.2 u ∧ u.wt ≤ 400000) (f := Tm.inst0) hAR.1 (fun k p t hp ht => by
    obtain ⟨u, h1, h2, h3⟩ := hAR.2 k p t hp ht
    exact ⟨u, ⟨h1, h3⟩, h2⟩)
  have hmem : ∀ u ∈ us, u.inst0 ∈ t.apps := fun u hu => by rw [← hum]; exact List.mem_map_of_mem hu
  have hss : szs us = szs t.apps := by
    unfold szs
    rw [← hum, List.map_map, sizeL_inst0]
  have hgr : ∀ u ∈ us, u.ground = true := fun u hu => by
    have h1 : u.inst0 ∈ insAll t.gs [] := (List.mem_filter.1 (hmem u hu)).1
    have h2 := (insAll_mem (xs := t.gs) (S := []) (fun y hy => absurd hy List.not_mem_nil) t.gs_bg).2 _ h1
    rw [← u.ground_inst0]
    exact h2.2
  have hic : icps us ≤ 65536 := by
    have h1 := icpL_ground us hgr
    unfold icps
    unfold szs at hss hsz
    have : (us.map Tm.icp0).sum = (us.map fun u => Tm.icp0 u).sum := rfl
    omega
  obtain ⟨a, m, c, rfl, hm⟩ : ∃ a m c, av = .slice a m c ∧ m = ps.length := by
    rcases hO.2 with ⟨h, h0⟩ | ⟨g, cap, cur, h, _⟩
    · exact ⟨_, _, _, h, by omega⟩
    · exact ⟨_, _, _, h, rfl⟩
  have hpl : ps.length = t.apps.length := hAR.1
  have HC := hide (copies_any (w := w1) (B := A.heap.size) (D := d + 1) hO hul.symm hm (fun k p u hp hu => (huT k p u hp hu).1) hb1.size (by omega) (fun u hu => by
    obtain ⟨k, hk, rfl⟩ := List.getElem_of_mem hu
    have h := huT k _ _ (List.getElem?_eq_getElem (by omega)) (List.getElem?_eq_getElem hk)
    exact ⟨by have := h.1.depth_le; omega, h.2⟩) (by omega) hd)
  rw [hum] at HC
  have H1 := hide (And.intro hb1 (And.intro hm hpl))
  clear hbA hsA hsz hul huT hum hmem hss hgr hic hm hpl hO hAR hb1
  go_wp2_with fail
  refine (unhide HC).mono ?_
  rintro e w2 ⟨a', c', rfl, hR, hb2⟩
  have H2 := hide (And.intro hR hb2)
  clear hR hb2
  go_wp2
  go_ret
  obtain ⟨hb1, hm, hpl⟩ := unhide H1
  obtain ⟨hbA, hsA, hsz⟩ := unhide HI
  obtain ⟨hR, hb2⟩ := unhide H2
  rw [hm, hpl] at hR ⊢
  have hbb : Below w.heap.size w w2 := (hbA.trans (hb1.mono hbA.size)).trans (hb2.mono (Nat.le_trans hbA.size hb1.size))
  have hk : ∀ k, FB w1.heap.size w2 k → FB w.heap.size w2 k ∧ w2.heap[k]? = w2.heap[k]? := fun k hk => hk.keep (Nat.le_trans hbA.size hb1.size) (Nat.le_refl _) rfl
  exact ⟨a', c', rfl, hR.imp (fun k h => (hk k h).1) (fun b o j hb h x hx => (h x hx).keep hk (Nat.le_refl _)), hbb⟩
end Go.Proofs.YtegmckpcchhmdaaDoor

/- num.Parse at digits. -/
namespace Go.Proofs.YtegmckpcchhmdaaDoor
open Go Go.RowKit
theorem pc_digit (d : UInt8) (h : 48 ≤ d.toNat ∧ d.toNat ≤ 57) : PC (fun _ => true) ⟨#[d]⟩ := fun w => by
  refine (Nm.parse_yes false [d] w (fun b hb => by rw [List.mem_singleton.1 hb]; exact h) (by simp) (fun e => by simp at e; simp [e]) (by simp)).mono ?_
  rintro e w' ⟨r, rfl, hb, hI⟩
  rcases hI with ⟨rfl, _⟩ | ⟨b, off, cap, xs, rfl, _⟩
  · exact ⟨_, _, _, _, rfl, hb⟩
  · exact ⟨_, _, _, _, rfl, hb⟩
end Go.Proofs.YtegmckpcchhmdaaDoor

/- A region that draws its order, makes memory, and stores once. -/
namespace Go.Proofs.YtegmckpcchhmdaaDoor
open Go Go.RowKit
theorem arr_lit {a : Array Value} {n : Nat} (h : a.size = n) : a = ((List.range n).map fun i => a.getD i undef).toArray := by
  apply Array.ext
  · simp [h]
  · intro i h1 h2
    simp [Array.getD_eq_getD_getElem?, h1]
section
variable {P : Program} {Q : Exit → Act → World → Prop}
/-- Before the store: what each slot holds in memory that only grows; behind it: what the store left, and what hangs on no memory. -/
theorem one_store {l : List Oper} {a0 : Act} {w0 : World} {so : Oper} (N B s q : Nat) (kept pre : List Nat) (sp : Nat → World → Value → Prop) (pu : Nat → Value → Prop) (J : World → Value → Prop)
    (hg : fitF N 0 kept l = true) (hN : a0.tmps.size = N) (hB : B ≤ w0.heap.size) (hs : l[s]? = some so) (hsd : so.dst = none) (hsg : so.guard = none)
    (hsp : (pre.all fun i => (preds so).contains i) = true) (hqp : q ∈ pre) (hns : s ∉ pre)
    (hno : ((List.range l.length).all fun i => i == s || (match l[i]? with | some o => o.dst.isSome | none => false)) = true)
    (hmono : ∀ i w w' v, sp i w v → Below w.heap.size w w' → sp i w' v)
    (hpus : ∀ v, pu s v)
    (hstep : ∀ i o, l[i]? = some o → i ∈ pre → ∀ (a : Act) (w : World), Below B w0 w → a.tmps.size = N → (∀ k, k ∈ kept → a.tmps[k]? = a0.tmps[k]?) → (∀ j, (preds o).contains j = true → j ∈ pre → sp j w (slotOf l.toArray a j)) →
      if Region.wanted o (yielded l.toArray a.tmps) then o.wp P a w (fun a' w' => ∃ v, a' = a.put o.dst v ∧ Below w.heap.size w w' ∧ sp i w' v ∧ pu i v) Q else sp i w undef ∧ pu i undef)
    (hpure : ∀ i o, l[i]? = some o → i ∉ pre → i ≠ s → ∀ (a : Act) (w : World), a.tmps.size = N → (∀ k, k ∈ kept → a.tmps[k]? = a0.tmps[k]?) → (∀ j, (preds o).contains j = true → pu j (slotOf l.toArray a j)) →
      if Region.wanted o (yielded l.toArray a.tmps) then o.wp P a w (fun a' w' => ∃ v, a' = a.put o.dst v ∧ w' = w ∧ pu i v) Q else pu i undef)
    (hstore : ∀ (a : Act) (w : World), Below B w0 w → a.tmps.size = N → (∀ k, k ∈ kept → a.tmps[k]? = a0.tmps[k]?) → (∀ i, i ∈ pre → sp i w (slotOf l.toArray a i)) → so.wp P a w (fun a' w' => a' = a ∧ J w' (slotOf l.toArray a q)) Q)
    (hend : ∀ (a : Act) (w : World), a.defers = a0.defers → a.tmps.size = N → (∀ k, k ∈ kept → a.tmps[k]? = a0.tmps[k]?) → (∀ i, i < l.length → pu i (slotOf l.toArray a i)) → J w (slotOf l.toArray a q) → Q .normal a w) :
    wpAny P .any l.toArray Q l.toArray.size (Array.replicate l.toArray.size false) a0 w0 := by
  have hspec := fitF_spec l 0 kept hg
  have hdst : ∀ i o, l[i]? = some o → i ≠ s → ∃ d, o.dst = some d := fun i o ho hne => by
    have hi := (List.getElem?_eq_some_iff.1 ho).1
    have h := List.all_eq_true.1 hno i (List.mem_range.2 hi)
    simp only [ho, Bool.or_eq_true, beq_iff_eq] at h
    exact Option.isSome_iff_exists.1 (h.resolve_left hne)
  have hslot : ∀ i o k ok (a : Act) v, l[i]? = some o → l[k]? = some ok → k ≠ i → k ≠ s → slotOf l.toArray (a.put o.dst v) k = slotOf l.toArray a k := fun i o k ok a v ho hk hne hks => by
    obtain ⟨dk, hdk⟩ := hdst k ok hk hks
    have hk' : l.toArray[k]? = some ok := by simpa using hk
    cases hd : o.dst with
    | none => rfl
    | some d =>
      refine slot_put_other hk' hdk fun e => ?_
      subst e
      rcases Nat.lt_or_gt_of_ne hne with h | h
      · exact ((hspec i o ho).2 d hd).2.2 k ok h hk hdk
      · exact ((hspec k ok hk).2 d hdk).2.2 i o h ho hd
  have hget : ∀ (listed : Array Bool) (i j : Nat), i ≠ j → (listed.setIfInBounds i true).getD j false = listed.getD j false := fun listed i j e => getD_set_ne false e
  refine stepsF N kept pu (fun listed a w => (listed.getD s false = true → J w (slotOf l.toArray a q)) ∧ (listed.getD s false = false → Below B w0 w ∧ ∀ i, i ∈ pre → listed.getD i false = true → sp i w (slotOf l.toArray a i))) hg hN ?_ ?_ ?_ ?_
  · refine ⟨fun h => ?_, fun _ => ⟨Below.refl _ _, fun i _ h => ?_⟩⟩ <;>
    · exfalso
      simp only [Array.getD_eq_getD_getElem?, Array.getElem?_replicate] at h
      split at h <;> cases h
  · intro i o ho listed a w hsz hun hdown hdf hn hk hpr hJ
    have hi := (List.getElem?_eq_some_iff.1 ho).1
    by_cases his : i = s
    · subst his
      rw [hs] at ho
      injection ho with ho
      subst ho
      have hw : Region.wanted so (yielded l.toArray a.tmps) = true := by simp [Region.wanted, hsg]
      have hl0 : listed.getD i false = false := by
        have h1 : i < listed.size := by omega
        simpa [h1] using hun
      obtain ⟨hb, hsps⟩ := hJ.2 hl0
      rw [if_pos hw]
      have hall : ∀ j, j ∈ pre → listed.getD j false = true := fun j hj => (hpr j (List.all_eq_true.1 hsp j hj)).1
      refine Oper.wp_mono ?_ (hstore a w hb hn hk fun j hj => hsps j hj (hall j hj))
      rintro a' w' ⟨rfl, hJ'⟩
      refine ⟨undef, (by rw [hsd]; rfl), (fun h => by rw [hsd] at h; cases h), (fun _ => hJ'), fun h => ?_⟩
      have h1 : i < listed.size := by omega
      simp [h1] at h
    · have hsame : (listed.setIfInBounds i true).getD s false = listed.getD s false := hget listed i s his
      have hoq : ∃ oq, l[q]? = some oq := by
        have h1 := List.all_eq_true.1 hsp q hqp
        obtain ⟨e, he, hon⟩ := preds_spec h1
        have h2 := (hspec s so hs).1 e he.1 he.2
        have h3 := (List.getElem?_eq_some_iff.1 hs).1
        exact ⟨_, List.getElem?_eq_getElem (by omega)⟩
      have hqs : q ≠ s := fun e => hns (e ▸ hqp)
      obtain ⟨oq, hoq⟩ := hoq
      by_cases hip : i ∈ pre
      · have hl0 : listed.getD s false = false := by
          cases h : listed.getD s false with
          | false => rfl
          | true =>
            have h2 := hdown s so hs h i (List.all_eq_true.1 hsp i hip)
            have h1 : i < listed.size := by omega
            simp only [Array.getD_eq_getD_getElem?, Array.getElem?_eq_getElem h1, Option.getD_some] at h2 hun
            rw [h2] at hun
            cases hun
        obtain ⟨hb, hsps⟩ := hJ.2 hl0
        have hkeep : ∀ w' v, Below w.heap.size w w' → sp i w' v → ((listed.setIfInBounds i true).getD s false = true → J w' (slotOf l.toArray (a.put o.dst v) q)) ∧ ((listed.setIfInBounds i true).getD s false = false → Below B w0 w' ∧ ∀ j, j ∈ pre → (listed.setIfInBounds i true).getD j false = true → sp j w' (slotOf l.toArray (a.put o.dst v) j)) := fun w' v hb' hv => by
          refine ⟨(fun h => by rw [hsame, hl0] at h; cases h), fun _ => ⟨hb.trans (hb'.mono (Nat.le_trans hB hb.size)), fun j hj hlj => ?_⟩⟩
          by_cases e : i = j
          · subst e
            obtain ⟨d, hd⟩ := hdst i o ho his
            have ho' : l.toArray[i]? = some o := by simpa using ho
            have h1 := slot_put_same (a := a) (v := v) ho' hd (by have := ((hspec i o ho).2 d hd).2.1; omega)
            rw [h1]
            exact hv
          · rw [hget listed i j e] at hlj
            have hjl : j < l.length := by
              rcases Nat.lt_or_ge j listed.size with h | h
              · omega
              · simp [Array.getElem?_eq_none h] at hlj
            rw [hslot i o j l[j] a v ho (List.getElem?_eq_getElem hjl) (Ne.symm e) (fun e' => hns (e' ▸ hj))]
            exact hmono _ _ _ _ (hsps j hj hlj) hb'
        have h := hstep i o ho hip a w hb hn hk fun j hj hjp => hsps j hjp (hpr j hj).1
        split at h
        · rename_i hw
          rw [if_pos hw]
          refine Oper.wp_mono ?_ h
          rintro a' w' ⟨v, rfl, hb', hv, hpv⟩
          exact ⟨v, rfl, fun _ => hpv, hkeep w' v hb' hv⟩
        · rename_i hw
          rw [if_neg hw]
          exact ⟨fun _ => h.2, hkeep w undef (Below.refl _ _) h.1⟩
      · have hkeep : ∀ v, ((listed.setIfInBounds i true).getD s false = true → J w (slotOf l.toArray (a.put o.dst v) q)) ∧ ((listed.setIfInBounds i true).getD s false = false → Below B w0 w ∧ ∀ j, j ∈ pre → (listed.setIfInBounds i true).getD j false = true → sp j w (slotOf l.toArray (a.put o.dst v) j)) := fun v => by
          rw [hsame]
          refine ⟨fun h => ?_, fun h => ⟨(hJ.2 h).1, fun j hj hlj => ?_⟩⟩
          · rw [hslot i o q oq a v ho hoq (fun e => hip (e ▸ hqp)) hqs]
            exact hJ.1 h
          · have e : i ≠ j := fun e => hip (e ▸ hj)
            rw [hget listed i j e] at hlj
            have hjl : j < l.length := by
              rcases Nat.lt_or_ge j listed.size with h | h
              · omega
              · simp [Array.getElem?_eq_none h] at hlj
            rw [hslot i o j l[j] a v ho (List.getElem?_eq_getElem hjl) (Ne.symm e) (fun e' => hns (e' ▸ hj))]
            exact (hJ.2 h).2 j hj hlj
        have h := hpure i o ho hip his a w hn hk fun j hj => (hpr j hj).2
        split at h
        · rename_i hw
          rw [if_pos hw]
          refine Oper.wp_mono ?_ h
          rintro a' w' ⟨v, rfl, rfl, hpv⟩
          exact ⟨v, rfl, fun _ => hpv, hkeep v⟩
        · rename_i hw
          rw [if_neg hw]
          exact ⟨fun _ => h, hkeep undef⟩
  · intro i o ho hd v
    by_cases his : i = s
    · subst his; exact hpus v
    · obtain ⟨d, hd'⟩ := hdst i o ho his
      rw [hd'] at hd
      cases hd
  · intro listed a w hsz hall hdf hn hk hpu hJ
    exact hend a w hdf hn hk hpu (hJ.1 (hall s (List.getElem?_eq_some_iff.1 hs).1))
end
end Go.Proofs.YtegmckpcchhmdaaDoor

/- Terms being built: a step an operation. -/
namespace Go.Proofs.YtegmckpcchhmdaaDoor
open Go Go.RowKit
def regionsOf : Code → List (Nat × List Oper)
  | .region id ops _ => [(id, ops.toList)]
  | .seq a b => regionsOf a ++ regionsOf b
  | .cond _ a b => regionsOf a ++ regionsOf b
  | .block _ c => regionsOf c
  | .loop c => regionsOf c
  | .scope c => regionsOf c
  | .rangeFunc _ _ a b => regionsOf a ++ regionsOf b
  | _ => []
def regionOf (f : Func) (k : Nat) : List Oper := ((f.body.map regionsOf).getD []).findSome? (fun p => if p.1 == k then some p.2 else none) |>.getD []
/-- What is said of a slot; it stands when memory grows. -/
structure Mx where
  ok : World → Value → Prop
  mono : ∀ w w' v, ok w v → Below w.heap.size w w' → ok w' v
def Mx.any : Mx := ⟨fun _ _ => True, fun _ _ _ h _ => h⟩
def Mx.val (u : Value) : Mx := ⟨fun _ v => v = u, fun _ _ _ h _ => h⟩
def Mx.tm (d : Nat) (t : Tm) : Mx := ⟨fun w v => IsT w w.heap.size d v t, fun _ _ _ h hb => h.more hb hb.size (Nat.le_refl _)⟩
def RT7 (w : World) (B d : Nat) (l : List Tm) (b o j : Nat) : Prop := ∀ u, l[j]? = some u → TmAt w B d b o u
def Mx.ls (d : Nat) (l : List Tm) : Mx := ⟨fun w v => ∃ a c, v = .slice a l.length c ∧ Row w.heap.size a l.length c 7 (RT7 w w.heap.size d l), fun w w' v ⟨a, c, e, h⟩ hb => ⟨a, c, e, h.mono hb.size fun b o j _ hj u hu => (hj u hu).more hb hb.size (Nat.le_refl _)⟩⟩
def Mx.vs (x : List (ByteArray × Int)) : Mx := ⟨fun w v => ∃ a c, v = .slice a x.length c ∧ Row w.heap.size a x.length c 2 (BR w x), fun w w' v ⟨a, c, e, h⟩ hb => ⟨a, c, e, h.mono hb.size fun b o j hb2 hj u hu => ⟨rangeAt_below (hj u hu).1 hb2 hb, (hj u hu).2⟩⟩⟩
def zeroC : Array Value := #[.int .i64 0, .string ⟨#[]⟩, .int .i64 0, .string ⟨#[]⟩, .slice none 0 0, .slice none 0 0, .slice none 0 0]
def Mx.bx (B : Nat) : Mx := ⟨fun w v => ∃ r, v = .pointer (some ⟨r, 0, none⟩) ∧ B ≤ r ∧ w.heap[r]? = some (.cells zeroC 25), fun w w' v ⟨r, e, h1, h2⟩ hb => ⟨r, e, h1, (hb.block r (Array.getElem?_eq_some_iff.1 h2).1).trans h2⟩⟩
theorem IsT.at {w w' : World} {B B' d b o : Nat} {v : Value} {t : Tm} (h : IsT w B d v t) (hw : Below B w w') (hB : B ≤ B') (hb : b < B') (hr : ∀ cs, v = .agg cs.toArray → w'.rangeAt b o cs) : TmAt w' B' (d + 1) b o t := by
  obtain ⟨h1, h2, aL, aV, aP, cL, cV, cP, e, hL, hV, hP⟩ := h.more hw hB (Nat.le_refl d)
  exact ⟨hb, h1, h2, aL, aV, aP, cL, cV, cP, hr _ e, hL, hV, hP, trivial⟩
theorem IsT.mk {w : World} {B d : Nat} {t : Tm} {aL aV aP : Option Addr} {cL cV cP : Nat} (h1 : fits t.op) (h2 : fits t.sort) (hL : Row B aL t.l.length cL 7 (RT7 w B d t.l)) (hV : Row B aV t.vars.length cV 2 (BR w t.vars)) (hP : Row B aP t.pat.length cP 7 (RT7 w B d t.pat)) : IsT w B d (.agg (tcells t aL aV aP cL cV cP).toArray) t := ⟨h1, h2, aL, aV, aP, cL, cV, cP, rfl, hL, hV, hP⟩
theorem row_nil {B k : Nat} {p : Nat → Nat → Nat → Prop} : Row B none 0 0 k p := ⟨Nat.le_refl _, by omega, fun h => absurd rfl h⟩
theorem IsT.seven {w : World} {B d : Nat} {v : Value} {t : Tm} (h : IsT w B d v t) : ∃ (i0 i2 : Int) (s1 s3 : ByteArray) (a4 a5 a6 : Option Addr) (n4 n5 n6 c4 c5 c6 : Nat), v = .agg #[.int .i64 i0, .string s1, .int .i64 i2, .string s3, .slice a4 n4 c4, .slice a5 n5 c5, .slice a6 n6 c6] := by
  obtain ⟨_, _, aL, aV, aP, cL, cV, cP, e, _⟩ := h
  exact ⟨_, _, _, _, _, _, _, _, _, _, _, _, _, e⟩
section
variable {a : Act} {w : World} {K : Act → World → Prop} {Q : Exit → Act → World → Prop} {dst : Option Tmp} {ty : TypeId} {pos : String} {af : Array Edge} {gd : Option (Nat × Bool)} {k k2 k3 d : Nat} {t u : Tm}
set_option maxRecDepth 100000 in
set_option maxHeartbeats 4000000 in
theorem op_bs1 (hv : (Mx.tm d t).ok w (a.tmps.getD k undef)) (h : ∀ v w', Below w.heap.size w w' → (Mx.ls (d + 1) [t]).ok w' v → K (a.put dst v) w') : Oper.wp Tryd.prog ⟨dst, .buildSlice 22 1 #[(0, .tmp k)], ty, pos, af, gd⟩ a w K Q := by
  have hv0 : IsT w w.heap.size d (a.tmps.getD k undef) t := hv
  obtain ⟨i0, i2, s1, s3, a4, a5, a6, n4, n5, n6, c4, c5, c6, e⟩ := hv0.seven
  rw [e] at hv0
  have he : a.eval (.tmp k) = .agg #[.int .i64 i0, .string s1, .int .i64 i2, .string s3, .slice a4 n4 c4, .slice a5 n5 c5, .slice a6 n6 c6] := e
  unfold Oper.wp
  simp only [execOp, List.map_toArray, List.map_cons, List.map_nil, he]
  go_simp
  refine h _ _ ((Below.refl _ w).alloc (Nat.le_refl _) _) ⟨some ⟨w.heap.size, 0, none⟩, 1, rfl, Nat.le_refl _, by simp, fun _ => ⟨w.heap.size, 0, rfl, by simp, fun j hj x hx => ?_⟩⟩
  have hj0 : j = 0 := by simp at hj; omega
  subst hj0
  simp at hx
  subst hx
  have := hv0.boxed (Nat.le_refl _)
  simpa using this
set_option maxRecDepth 100000 in
set_option maxHeartbeats 4000000 in
theorem op_bs2 (hv : (Mx.tm d t).ok w (a.tmps.getD k undef)) (hv2 : (Mx.tm d u).ok w (a.tmps.getD k2 undef)) (h : ∀ v w', Below w.heap.size w w' → (Mx.ls (d + 1) [t, u]).ok w' v → K (a.put dst v) w') : Oper.wp Tryd.prog ⟨dst, .buildSlice 22 2 #[(0, .tmp k), (1, .tmp k2)], ty, pos, af, gd⟩ a w K Q := by
  have hv0 : IsT w w.heap.size d (a.tmps.getD k undef) t := hv
  have hu0 : IsT w w.heap.size d (a.tmps.getD k2 undef) u := hv2
  obtain ⟨i0, i2, s1, s3, a4, a5, a6, n4, n5, n6, c4, c5, c6, e⟩ := hv0.seven
  obtain ⟨j0, j2, r1, r3, b4, b5, b6, m4, m5, m6, d4, d5, d6, e2⟩ := hu0.seven
  rw [e] at hv0
  rw [e2] at hu0
  have he : a.eval (.tmp k) = .agg #[.int .i64 i0, .string s1, .int .i64 i2, .string s3, .slice a4 n4 c4, .slice a5 n5 c5, .slice a6 n6 c6] := e
  have he2 : a.eval (.tmp k2) = .agg #[.int .i64 j0, .string r1, .int .i64 j2, .string r3, .slice b4 m4 d4, .slice b5 m5 d5, .slice b6 m6 d6] := e2
  unfold Oper.wp
  simp only [execOp, List.map_toArray, List.map_cons, List.map_nil, he, he2]
  go_simp
  have hbel := fun o => (Below.refl w.heap.size w).alloc (Nat.le_refl _) o
  have hrg := range_new w [.int .i64 i0, .string s1, .int .i64 i2, .string s3, .slice a4 n4 c4, .slice a5 n5 c5, .slice a6 n6 c6, .int .i64 j0, .string r1, .int .i64 j2, .string r3, .slice b4 m4 d4, .slice b5 m5 d5, .slice b6 m6 d6] 25
  refine h _ _ (hbel _) ⟨some ⟨w.heap.size, 0, none⟩, 2, rfl, Nat.le_refl _, by simp, fun _ => ⟨w.heap.size, 0, rfl, by simp, fun j hj x hx => ?_⟩⟩
  have hj2 : j = 0 ∨ j = 1 := by simp at hj; omega
  rcases hj2 with rfl | rfl
  · simp at hx
    subst hx
    refine hv0.at (hbel _) (by simp) (by simp) fun cs hcs => ?_
    injection hcs with hcs
    have hcs2 : cs = [.int .i64 i0, .string s1, .int .i64 i2, .string s3, .slice a4 n4 c4, .slice a5 n5 c5, .slice a6 n6 c6] := by have := congrArg Array.toList hcs; simpa using this.symm
    subst hcs2
    intro i y hy
    refine hrg i y ?_
    have hi := (List.getElem?_eq_some_iff.1 hy).1
    rw [show [Value.int .i64 i0, .string s1, .int .i64 i2, .string s3, .slice a4 n4 c4, .slice a5 n5 c5, .slice a6 n6 c6, .int .i64 j0, .string r1, .int .i64 j2, .string r3, .slice b4 m4 d4, .slice b5 m5 d5, .slice b6 m6 d6] = [Value.int .i64 i0, .string s1, .int .i64 i2, .string s3, .slice a4 n4 c4, .slice a5 n5 c5, .slice a6 n6 c6] ++ [.int .i64 j0, .string r1, .int .i64 j2, .string r3, .slice b4 m4 d4, .slice b5 m5 d5, .slice b6 m6 d6] from rfl, List.getElem?_append_left hi]
    exact hy
  · simp at hx
    subst hx
    refine hu0.at (hbel _) (by simp) (by simp) fun cs hcs => ?_
    injection hcs with hcs
    have hcs2 : cs = [.int .i64 j0, .string r1, .int .i64 j2, .string r3, .slice b4 m4 d4, .slice b5 m5 d5, .slice b6 m6 d6] := by have := congrArg Array.toList hcs; simpa using this.symm
    subst hcs2
    intro i y hy
    have := hrg (7 + i) y (by
      rw [show [Value.int .i64 i0, .string s1, .int .i64 i2, .string s3, .slice a4 n4 c4, .slice a5 n5 c5, .slice a6 n6 c6, .int .i64 j0, .string r1, .int .i64 j2, .string r3, .slice b4 m4 d4, .slice b5 m5 d5, .slice b6 m6 d6] = [Value.int .i64 i0, .string s1, .int .i64 i2, .string s3, .slice a4 n4 c4, .slice a5 n5 c5, .slice a6 n6 c6] ++ [.int .i64 j0, .string r1, .int .i64 j2, .string r3, .slice b4 m4 d4, .slice b5 m5 d5, .slice b6 m6 d6] from rfl, List.getElem?_append_right (by simp)]
      simpa using hy)
    rw [show 0 + 1 * 7 + i = 0 + (7 + i) by omega]
    exact this
set_option maxRecDepth 100000 in
set_option maxHeartbeats 4000000 in
theorem op_bsV {s : ByteArray} {n : Int} (hn : fits n) (hv : (Mx.val (.agg #[.string s, .int .i64 n])).ok w (a.tmps.getD k undef)) (h : ∀ v w', Below w.heap.size w w' → (Mx.vs [(s, n)]).ok w' v → K (a.put dst v) w') : Oper.wp Tryd.prog ⟨dst, .buildSlice 23 1 #[(0, .tmp k)], ty, pos, af, gd⟩ a w K Q := by
  have he : a.eval (.tmp k) = .agg #[.string s, .int .i64 n] := hv
  unfold Oper.wp
  simp only [execOp, List.map_toArray, List.map_cons, List.map_nil, he]
  go_simp
  refine h _ _ ((Below.refl _ w).alloc (Nat.le_refl _) _) ⟨some ⟨w.heap.size, 0, none⟩, 1, rfl, Nat.le_refl _, by simp, fun _ => ⟨w.heap.size, 0, rfl, by simp, fun j hj x hx => ?_⟩⟩
  have hj0 : j = 0 := by simp at hj; omega
  subst hj0
  simp at hx
  subst hx
  exact ⟨range_new w [.string s, .int .i64 n] _, hn⟩
set_option maxRecDepth 100000 in
set_option maxHeartbeats 4000000 in
theorem op_bldV {s : ByteArray} {n : Int} (h : K (a.put dst (.agg #[.string s, .int .i64 n])) w) : Oper.wp Tryd.prog ⟨dst, .build 36 #[(0, .const (.string s)), (1, .const (.int .i64 n))], ty, pos, af, gd⟩ a w K Q := by
  unfold Oper.wp
  simp only [execOp, List.map_toArray, List.map_cons, List.map_nil, Act.eval]
  go_simp
  exact h
set_option maxRecDepth 100000 in
set_option maxHeartbeats 4000000 in
theorem op_bldL {op : Int} {l : List Tm} (hop : fits op) (hv : (Mx.ls d l).ok w (a.tmps.getD k undef)) (h : ∀ v, (Mx.tm d ⟨op, .empty, 0, .empty, l, [], []⟩).ok w v → K (a.put dst v) w) : Oper.wp Tryd.prog ⟨dst, .build 25 #[(0, .const (.int .i64 op)), (4, .tmp k)], ty, pos, af, gd⟩ a w K Q := by
  obtain ⟨aL, cL, e, hR⟩ := hv
  have he : a.eval (.tmp k) = .slice aL l.length cL := e
  unfold Oper.wp
  simp only [execOp, List.map_toArray, List.map_cons, List.map_nil, he, Act.eval]
  go_simp
  exact h _ (IsT.mk (t := ⟨op, .empty, 0, .empty, l, [], []⟩) hop (show fits 0 by unfold fits; omega) hR row_nil row_nil)
set_option maxRecDepth 100000 in
set_option maxHeartbeats 4000000 in
theorem op_bldA {l p : List Tm} {x : List (ByteArray × Int)} (hx : (Mx.vs x).ok w (a.tmps.getD k undef)) (hp : (Mx.ls d p).ok w (a.tmps.getD k2 undef)) (hl : (Mx.ls d l).ok w (a.tmps.getD k3 undef)) (h : ∀ v, (Mx.tm d ⟨19, .empty, 0, .empty, l, x, p⟩).ok w v → K (a.put dst v) w) : Oper.wp Tryd.prog ⟨dst, .build 25 #[(0, .const (.int .i64 19)), (5, .tmp k), (6, .tmp k2), (4, .tmp k3)], ty, pos, af, gd⟩ a w K Q := by
  obtain ⟨aV, cV, e, hV⟩ := hx
  obtain ⟨aP, cP, e2, hP⟩ := hp
  obtain ⟨aL, cL, e3, hL⟩ := hl
  have he : a.eval (.tmp k) = .slice aV x.length cV := e
  have he2 : a.eval (.tmp k2) = .slice aP p.length cP := e2
  have he3 : a.eval (.tmp k3) = .slice aL l.length cL := e3
  unfold Oper.wp
  simp only [execOp, List.map_toArray, List.map_cons, List.map_nil, he, he2, he3, Act.eval]
  go_simp
  exact h _ (IsT.mk (t := ⟨19, .empty, 0, .empty, l, x, p⟩) (show fits 19 by unfold fits; omega) (show fits 0 by unfold fits; omega) hL hV hP)
set_option maxRecDepth 100000 in
set_option maxHeartbeats 4000000 in
theorem op_box (h : ∀ v w', Below w.heap.size w w' → (Mx.bx w.heap.size).ok w' v → K (a.put dst v) w') : Oper.wp Tryd.prog ⟨dst, .alloc 25, ty, pos, af, gd⟩ a w K Q := by
  unfold Oper.wp
  simp only [execOp]
  go_simp
  exact h _ _ ((Below.refl _ w).alloc (Nat.le_refl _) _) ⟨w.heap.size, rfl, Nat.le_refl _, new_block w _ _⟩
theorem set7 (w : World) (r : Nat) (x0 x1 x2 x3 x4 x5 x6 : Value) : w.setCells r 0 [x0, x1, x2, x3, x4, x5, x6] = put7 w r 0 x0 x1 x2 x3 x4 x5 x6 := rfl
theorem infT7 : (Tryd.prog.info? 25).map (·.size) = some 7 := by kernel_rfl
theorem PutAt.set {w w' : World} {r : Nat} (h : PutAt r w w') (o : Nat) (v : Value) : PutAt r w (w'.setCell ⟨r, o, none⟩ v) := ⟨h.os, h.tape, h.output, by simp [h.size], fun j hj => (Below.heap_setCell w' ⟨r, o, none⟩ v j hj).trans (h.block j hj)⟩
theorem put7_only (w : World) (r : Nat) (x0 x1 x2 x3 x4 x5 x6 : Value) : PutAt r w (put7 w r 0 x0 x1 x2 x3 x4 x5 x6) := by
  unfold put7
  exact (((((((⟨rfl, rfl, rfl, rfl, fun _ _ => rfl⟩ : PutAt r w w).set 0 x0).set (0 + 1) x1).set (0 + 2) x2).set (0 + 3) x3).set (0 + 4) x4).set (0 + 5) x5).set (0 + 6) x6
theorem there7 {w : World} {r : Nat} {ty : TypeId} (hb : w.heap[r]? = some (.cells zeroC ty)) : w.there r 0 7 := fun j hj => by
  have hs : zeroC.size = 7 := rfl
  have h1 := (blk hb).2.1 j _ (Array.getElem?_eq_getElem (by omega))
  rw [Nat.zero_add, h1]
  exact ⟨rfl, (blk hb).2.2 j⟩
theorem op_storeT {r : Nat} (hb : w.heap[r]? = some (.cells zeroC 25)) (hr : a.tmps.getD k undef = .pointer (some ⟨r, 0, none⟩)) (hv : (Mx.tm d t).ok w (a.tmps.getD k2 undef)) (h : ∀ w' cs, a.tmps.getD k2 undef = .agg cs → PutAt r w w' → w'.heap[r]? = some (.cells cs 25) → K (a.put dst undef) w') : Oper.wp Tryd.prog ⟨dst, .store 25 (.tmp k) (.tmp k2), ty, pos, af, gd⟩ a w K Q := by
  have hv0 : IsT w w.heap.size d (a.tmps.getD k2 undef) t := hv
  obtain ⟨i0, i2, s1, s3, a4, a5, a6, n4, n5, n6, c4, c5, c6, e⟩ := hv0.seven
  have he : a.eval (.tmp k2) = .agg #[.int .i64 i0, .string s1, .int .i64 i2, .string s3, .slice a4 n4 c4, .slice a5 n5 c5, .slice a6 n6 c6] := e
  have hp : a.eval (.tmp k) = .pointer (some ⟨r, 0, none⟩) := hr
  have hK := h _ _ e (put7_only w r (.int .i64 i0) (.string s1) (.int .i64 i2) (.string s3) (.slice a4 n4 c4) (.slice a5 n5 c5) (.slice a6 n6 c6)) (fill7 hb)
  rw [← set7] at hK
  exact wp_store_mid (op := ⟨dst, .store 25 (.tmp k) (.tmp k2), ty, pos, af, gd⟩) 25 (.tmp k) (.tmp k2) rfl r 0 #[.int .i64 i0, .string s1, .int .i64 i2, .string s3, .slice a4 n4 c4, .slice a5 n5 c5, .slice a6 n6 c6] hp he (there7 hb) infT7 (by simp [Value.oneCell']) hK
end
end Go.Proofs.YtegmckpcchhmdaaDoor

namespace Go.Proofs.YtegmckpcchhmdaaDoor
open Go.ChangeShapes Go.WideShapes Go.ChangeAt Go.RowKit
section
variable {H : Type} {enc : TypeId × Value → H} {P : Program} {W : World} {base : Nat} {sp : Nat → Bool} {held : Bool}
theorem trod_i {n : Nat} {t : TypeId} {c : Value} {x : DataW H × List MemPlace} (ht : P.underlying t = some (.int .i64)) (h : DataW.trod enc P W base sp held n t [c] = some x) : ∃ z, c = .int .i64 z ∧ fits z := by
  cases n with
  | zero => simp [DataW.trod] at h
  | succ n =>
    unfold DataW.trod at h
    rw [ht] at h
    cases c <;> simp at h
    obtain ⟨⟨rfl, h2⟩, _⟩ := h
    refine ⟨_, rfl, ?_⟩
    simp only [Lit.wf, Bool.and_eq_true, decide_eq_true_eq] at h2
    have h3 : IntKind.i64.min = -9223372036854775808 := by kernel_rfl
    have h4 : IntKind.i64.max = 9223372036854775807 := by kernel_rfl
    unfold fits
    omega
theorem trod_s {n : Nat} {t : TypeId} {c : Value} {x : DataW H × List MemPlace} (ht : P.underlying t = some .string) (h : DataW.trod enc P W base sp held n t [c] = some x) : ∃ s, c = .string s ∧ s.size ≤ maxLen := by
  cases n with
  | zero => simp [DataW.trod] at h
  | succ n =>
    unfold DataW.trod at h
    rw [ht] at h
    cases c <;> simp at h
    exact ⟨_, rfl, h.1⟩
theorem cells_at {a : Addr} {n : Nat} {l : List Value} (h : W.cells? base a n = some l) : l.length = n ∧ ∀ (i : Nat) v, l[i]? = some v → W.cell? (a.add i) = some v := by
  unfold World.cells? at h
  split at h
  · refine ⟨by simpa using mapM_some_length h, fun i v hv => ?_⟩
    have hl : l.length = n := by simpa using mapM_some_length h
    have hi : i < n := by have := (List.getElem?_eq_some_iff.1 hv).1; omega
    have := mapM_some_get h i i (by simp [hi])
    rw [this, hv]
  · cases h
theorem all_of {e : TypeId} {d : DataW H} {n : Nat} : ∀ {l : List (DataW H)}, d ∈ l → n ∈ d.weights P e → n ∈ DataW.weightsAll P e l
  | x :: l, h, hn => by
    simp only [DataW.weightsAll, List.mem_append]
    rcases List.mem_cons.1 h with rfl | h
    · exact .inl hn
    · exact .inr (all_of h hn)
theorem each_of {t : TypeId} {d : DataW H} {n : Nat} : ∀ {ts : List TypeId} {l : List (DataW H)} {i : Nat}, ts[i]? = some t → l[i]? = some d → n ∈ d.weights P t → n ∈ DataW.weightsEach P ts l
  | [], _, _, h, _, _ => by simp at h
  | _ :: _, [], _, _, h, _ => by simp at h
  | t' :: ts, d' :: l, 0, h1, h2, hn => by
    simp at h1 h2
    subst h1 h2
    simp only [DataW.weightsEach, List.mem_append]
    exact .inl hn
  | t' :: ts, d' :: l, i + 1, h1, h2, hn => by
    simp only [DataW.weightsEach, List.mem_append]
    exact .inr (each_of (i := i) (by simpa using h1) (by simpa using h2) hn)
theorem addr_add (b off j : Nat) : (⟨b, off, none⟩ : Addr).add j = ⟨b, off + j, none⟩ := by simp [Addr.add]
/-- A slice, each of whose elements lies in so many cells. -/
theorem row_of {e t : TypeId} {n k : Nat} {c : Value} {x : DataW H × List MemPlace} (ht : P.underlying t = some (.slice e)) (hk : P.cellsOf e = k) (hk0 : 0 < k) (hby : 0 < P.bytesOf e) (h : DataW.trod enc P W base sp held n t [c] = some x) (hz : ∀ m ∈ x.1.weights P t, m ≤ reachBytes)
    {q : List Value → Nat → Prop} (hp : ∀ (m j : Nat) (l : List Value) (y : DataW H × List MemPlace), m < n → DataW.trod enc P W base sp held m e l = some y → l.length = k → (∀ m ∈ y.1.weights P e, m ≤ reachBytes) → q l j) :
    ∃ a len cap, c = .slice a len cap ∧ len ≤ cap ∧ len ≤ 281474976710656 ∧ (len ≠ 0 → ∃ b off, a = some ⟨b, off, none⟩ ∧ b < W.heap.size ∧ ∀ j, j < len → ∃ l, l.length = k ∧ W.rangeAt b (off + j * k) l ∧ q l j) := by
  rcases DataW.trod_slice ht h with ⟨hcs, _⟩ | ⟨a, len, cap, elems, rest, m, hm, hcs, hx, _, hl, hcap, hlen, hel, _⟩
  · injection hcs with hcs
    exact ⟨none, 0, 0, hcs, Nat.le_refl _, by omega, fun h => absurd rfl h⟩
  · injection hcs with hcs
    rw [hx] at hz
    have hz1 := hz _ (by simp only [DataW.weights, ht]; exact List.mem_cons_self ..)
    have hlz : len ≤ 281474976710656 := by
      simp only [List.length_map, reachBytes] at hz1
      have : len * 1 ≤ (elems.length + rest.length) * P.bytesOf e := Nat.mul_le_mul (by omega) hby
      omega
    refine ⟨some a, len, cap, hcs, hl, hlz, fun h0 => ?_⟩
    have hE : ∀ i, i < len → ∃ l y, DataW.trod enc P W base sp held m e l = some y ∧ l.length = k ∧ (∀ (j : Nat) v, l[j]? = some v → W.cell? ((a.add (i * k)).add j) = some v) ∧ ∀ m ∈ y.1.weights P e, m ≤ reachBytes := fun i hi => by
      have h1 := hel i hi
      rw [hk, List.getElem?_eq_getElem (show i < elems.length by omega)] at h1
      obtain ⟨l, hl1, hl2⟩ := Option.bind_eq_some_iff.1 h1
      obtain ⟨h3, h4⟩ := cells_at hl1
      refine ⟨l, _, hl2, h3, h4, fun m hm => hz m ?_⟩
      simp only [DataW.weights, ht, List.mem_cons, List.mem_append]
      exact .inr (.inl (all_of (List.mem_map.2 ⟨_, List.getElem_mem _, rfl⟩) hm))
    obtain ⟨b, off, spot⟩ := a
    have hs : spot = none ∧ b < W.heap.size := by
      obtain ⟨l, y, _, h3, h4, _⟩ := hE 0 (by omega)
      have h5 := h4 0 _ (List.getElem?_eq_getElem (by omega))
      refine ⟨by simpa [Addr.add] using World.cell?_spot h5, ?_⟩
      have := World.block_lt_of_cell? _ _ h5
      simpa [Addr.add] using this
    obtain ⟨rfl, hb⟩ := hs
    refine ⟨b, off, rfl, hb, fun j hj => ?_⟩
    obtain ⟨l, y, h2, h3, h4, h5⟩ := hE j hj
    refine ⟨l, h3, fun i v hv => ?_, hp m j l y (by omega) h2 h3 h5⟩
    have := h4 i v hv
    rw [addr_add, addr_add] at this
    exact this
end
end Go.Proofs.YtegmckpcchhmdaaDoor
