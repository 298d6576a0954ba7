/- known: what Inst makes of its term. -/
import Derived.Test.YtegmckpcchhmdaaDoorZAQ
set_option linter.unusedVariables false
set_option linter.unusedSimpArgs false

/- Arguments of type api.Term: the tree that lies there. -/
namespace Go.Proofs.YtegmckpcchhmdaaDoor
open Go.ChangeShapes Go.WideShapes Go.ChangeAt Go.RowKit
theorem cells_term : Tryd.prog.cellsOf 25 = 7 := by kernel_rfl
theorem cells_bound : Tryd.prog.cellsOf 36 = 2 := by kernel_rfl
theorem cells_i : Tryd.prog.cellsOf 3 = 1 := by kernel_rfl
theorem cells_s : Tryd.prog.cellsOf 9 = 1 := by kernel_rfl
theorem cells_l : Tryd.prog.cellsOf 22 = 1 := by kernel_rfl
theorem cells_v : Tryd.prog.cellsOf 23 = 1 := by kernel_rfl
theorem bytes_term : 0 < Tryd.prog.bytesOf 25 := by
  have : Tryd.prog.bytesOf 25 = 120 := by kernel_rfl
  omega
theorem bytes_bound : 0 < Tryd.prog.bytesOf 36 := by
  have : Tryd.prog.bytesOf 36 = 24 := by kernel_rfl
  omega
/-- All texts of a term are of lengths that Go has. -/
def NmOk : Nat → Tm → Prop
  | 0, _ => False
  | e + 1, t => t.name.size ≤ maxLen ∧ t.num.size ≤ maxLen ∧ (∀ v ∈ t.vars, v.1.size ≤ maxLen) ∧ (∀ u ∈ t.l, NmOk e u) ∧ ∀ u ∈ t.pat, NmOk e u
theorem NmOk.mono : ∀ {e e' : Nat} {t : Tm}, NmOk e t → e ≤ e' → NmOk e' t
  | 0, _, _, h, _ => h.elim
  | e + 1, 0, _, _, h => by omega
  | e + 1, e' + 1, t, ⟨h1, h2, h3, h4, h5⟩, h => ⟨h1, h2, h3, fun u hu => (h4 u hu).mono (by omega), fun u hu => (h5 u hu).mono (by omega)⟩
theorem len2 : ∀ {l : List Value}, l.length = 2 → ∃ c0 c1, l = [c0, c1]
  | [c0, c1], _ => ⟨c0, c1, rfl⟩
theorem len7 : ∀ {l : List Value}, l.length = 7 → ∃ c0 c1 c2 c3 c4 c5 c6, l = [c0, c1, c2, c3, c4, c5, c6]
  | [c0, c1, c2, c3, c4, c5, c6], _ => ⟨c0, c1, c2, c3, c4, c5, c6, rfl⟩
theorem pick_list {α : Type} (x0 : α) {len : Nat} {p : Nat → α → Prop} (h : ∀ j, j < len → ∃ u, p j u) : ∃ ls : List α, ls.length = len ∧ ∀ (j : Nat) u, ls[j]? = some u → p j u := by
  refine ⟨(List.range len).map fun j => if hj : j < len then Classical.choose (h j hj) else x0, by simp, fun j u hu => ?_⟩
  have hj : j < len := by have := (List.getElem?_eq_some_iff.1 hu).1; simpa using this
  rw [List.getElem?_map, List.getElem?_range hj, Option.map_some, dif_pos hj] at hu
  injection hu with hu
  rw [← hu]
  exact Classical.choose_spec (h j hj)
section
variable {H : Type} {enc : TypeId × Value → H} {W : World} {base : Nat} {sp : Nat → Bool} {held : Bool}
set_option maxRecDepth 100000 in
theorem open_bound {n : Nat} {l : List Value} {x : DataW H × List MemPlace} (h : DataW.trod enc Tryd.prog W base sp held n 36 l = some x) (hl : l.length = 2) : ∃ s z, l = [.string s, .int .i64 z] ∧ fits z ∧ s.size ≤ maxLen := by
  obtain ⟨xs, m, rfl, _, _, hxs, hf⟩ := DataW.trod_struct Tryd.underlying36 h
  obtain ⟨c0, c1, rfl⟩ := len2 hl
  have h0 : DataW.trod enc Tryd.prog W base sp held m 9 (List.take (Tryd.prog.cellsOf 9) (List.drop 0 [c0, c1])) = xs[0]? := hf 0 _ rfl
  have h1 : DataW.trod enc Tryd.prog W base sp held m 3 (List.take (Tryd.prog.cellsOf 3) (List.drop 1 [c0, c1])) = xs[1]? := hf 1 _ rfl
  rw [cells_s] at h0
  rw [cells_i] at h1
  have hs : xs.length = 2 := hxs
  rw [List.getElem?_eq_getElem (by omega)] at h0 h1
  obtain ⟨s, rfl, hsz⟩ := trod_s Tryd.underlying9 h0
  obtain ⟨z, rfl, hz⟩ := trod_i Tryd.underlying3 h1
  exact ⟨s, z, rfl, hz, hsz⟩
theorem open_list {n : Nat} {c : Value} {x : DataW H × List MemPlace} (h : DataW.trod enc Tryd.prog W base sp held n 22 [c] = some x) (hz : ∀ m ∈ x.1.weights Tryd.prog 22, m ≤ reachBytes)
    (ih : ∀ (m : Nat) (l : List Value) (y : DataW H × List MemPlace), m < n → DataW.trod enc Tryd.prog W base sp held m 25 l = some y → l.length = 7 → (∀ m ∈ y.1.weights Tryd.prog 25, m ≤ reachBytes) → ∃ u, IsT W W.heap.size m (.agg l.toArray) u ∧ NmOk m u) :
    ∃ a cap, ∃ ls : List Tm, c = .slice a ls.length cap ∧ Row W.heap.size a ls.length cap 7 (RT7 W W.heap.size n ls) ∧ ∀ u ∈ ls, NmOk n u := by
  obtain ⟨a, len, cap, rfl, hl, hz2, hr⟩ := row_of (k := 7) (q := fun l _ => ∃ m u, m < n ∧ IsT W W.heap.size m (.agg l.toArray) u ∧ NmOk m u) Tryd.underlying22 cells_term (by omega) bytes_term h hz fun m j l y hm hy hl7 hzy => by
    obtain ⟨u, hu⟩ := ih m l y hm hy hl7 hzy
    exact ⟨m, u, hm, hu⟩
  by_cases h0 : len = 0
  · subst h0
    exact ⟨a, cap, [], rfl, ⟨hl, by simp, fun h => absurd rfl h⟩, by simp⟩
  · obtain ⟨b, off, rfl, hb, hj⟩ := hr h0
    obtain ⟨ls, hls, hp⟩ := pick_list (p := fun j u => TmAt W W.heap.size n b (off + j * 7) u ∧ NmOk n u) ⟨0, .empty, 0, .empty, [], [], []⟩ (len := len) fun j hjl => by
      obtain ⟨l, hl7, hra, m, u, hm, hI, hN⟩ := hj j hjl
      have h2 : TmAt W W.heap.size (m + 1) b (off + j * 7) u := hI.at (Below.refl _ _) (Nat.le_refl _) hb fun cs e => by
        injection e with e
        have e2 : l = cs := by simpa using congrArg Array.toList e
        rw [← e2]
        exact hra
      exact ⟨u, h2.more (Below.refl _ _) (Nat.le_refl _) (by omega), hN.mono (by omega)⟩
    subst hls
    refine ⟨_, cap, ls, rfl, ⟨hl, hz2, fun _ => ⟨b, off, rfl, hb, fun j _ u hu => (hp j u hu).1⟩⟩, fun u hu => ?_⟩
    obtain ⟨j, hj⟩ := List.mem_iff_getElem?.1 hu
    exact (hp j u hj).2
theorem open_vars {n : Nat} {c : Value} {x : DataW H × List MemPlace} (h : DataW.trod enc Tryd.prog W base sp held n 23 [c] = some x) (hz : ∀ m ∈ x.1.weights Tryd.prog 23, m ≤ reachBytes) : ∃ a cap, ∃ vs : List (ByteArray × Int), c = .slice a vs.length cap ∧ Row W.heap.size a vs.length cap 2 (BR W vs) ∧ ∀ v ∈ vs, v.1.size ≤ maxLen := by
  obtain ⟨a, len, cap, rfl, hl, hz2, hr⟩ := row_of (k := 2) (q := fun l _ => ∃ s z, l = [.string s, .int .i64 z] ∧ fits z ∧ s.size ≤ maxLen) Tryd.underlying23 cells_bound (by omega) bytes_bound h hz fun m j l y _ hy hl2 _ => open_bound hy hl2
  by_cases h0 : len = 0
  · subst h0
    exact ⟨a, cap, [], rfl, ⟨hl, by simp, fun h => absurd rfl h⟩, by simp⟩
  · obtain ⟨b, off, rfl, hb, hj⟩ := hr h0
    obtain ⟨vs, hvs, hp⟩ := pick_list (p := fun j (u : ByteArray × Int) => (W.rangeAt b (off + j * 2) [.string u.1, .int .i64 u.2] ∧ fits u.2) ∧ u.1.size ≤ maxLen) (.empty, 0) (len := len) fun j hjl => by
      obtain ⟨l, _, hra, s, z, rfl, hz, hsz⟩ := hj j hjl
      exact ⟨(s, z), ⟨hra, hz⟩, hsz⟩
    subst hvs
    refine ⟨_, cap, vs, rfl, ⟨hl, hz2, fun _ => ⟨b, off, rfl, hb, fun j _ u hu => (hp j u hu).1⟩⟩, fun u hu => ?_⟩
    obtain ⟨j, hj⟩ := List.mem_iff_getElem?.1 hu
    exact (hp j u hj).2
set_option maxRecDepth 100000 in
theorem open_term : ∀ (n : Nat) (l : List Value) (x : DataW H × List MemPlace), DataW.trod enc Tryd.prog W base sp held n 25 l = some x → l.length = 7 → (∀ m ∈ x.1.weights Tryd.prog 25, m ≤ reachBytes) → ∃ t, IsT W W.heap.size n (.agg l.toArray) t ∧ NmOk n t := fun n => by
  induction n using Nat.strongRecOn with
  | _ n ih =>
  intro l x h hl hz
  obtain ⟨xs, m, rfl, hx, _, hxs, hf⟩ := DataW.trod_struct Tryd.underlying25 h
  have hs : xs.length = 7 := hxs
  have hzi : ∀ (i : Nat) (f : TypeId) (hi : i < xs.length), ([3, 9, 3, 9, 22, 23, 22] : List TypeId)[i]? = some f → ∀ m ∈ (xs[i]).1.weights Tryd.prog f, m ≤ reachBytes := fun i f hi hfi k hk => by
    refine hz k ?_
    rw [hx]
    simp only [DataW.weights, Tryd.underlying25]
    exact each_of (i := i) hfi (by rw [List.getElem?_map, List.getElem?_eq_getElem hi]; rfl) hk
  obtain ⟨c0, c1, c2, c3, c4, c5, c6, rfl⟩ := len7 hl
  have h0 : DataW.trod enc Tryd.prog W base sp held m 3 (List.take (Tryd.prog.cellsOf 3) (List.drop 0 [c0, c1, c2, c3, c4, c5, c6])) = xs[0]? := hf 0 _ rfl
  have h1 : DataW.trod enc Tryd.prog W base sp held m 9 (List.take (Tryd.prog.cellsOf 9) (List.drop 1 [c0, c1, c2, c3, c4, c5, c6])) = xs[1]? := hf 1 _ rfl
  have h2 : DataW.trod enc Tryd.prog W base sp held m 3 (List.take (Tryd.prog.cellsOf 3) (List.drop 2 [c0, c1, c2, c3, c4, c5, c6])) = xs[2]? := hf 2 _ rfl
  have h3 : DataW.trod enc Tryd.prog W base sp held m 9 (List.take (Tryd.prog.cellsOf 9) (List.drop 3 [c0, c1, c2, c3, c4, c5, c6])) = xs[3]? := hf 3 _ rfl
  have h4 : DataW.trod enc Tryd.prog W base sp held m 22 (List.take (Tryd.prog.cellsOf 22) (List.drop 4 [c0, c1, c2, c3, c4, c5, c6])) = xs[4]? := hf 4 _ rfl
  have h5 : DataW.trod enc Tryd.prog W base sp held m 23 (List.take (Tryd.prog.cellsOf 23) (List.drop 5 [c0, c1, c2, c3, c4, c5, c6])) = xs[5]? := hf 5 _ rfl
  have h6 : DataW.trod enc Tryd.prog W base sp held m 22 (List.take (Tryd.prog.cellsOf 22) (List.drop 6 [c0, c1, c2, c3, c4, c5, c6])) = xs[6]? := hf 6 _ rfl
  rw [cells_i] at h0 h2
  rw [cells_s] at h1 h3
  rw [cells_l] at h4 h6
  rw [cells_v] at h5
  rw [List.getElem?_eq_getElem (by omega)] at h0 h1 h2 h3 h4 h5 h6
  obtain ⟨op, rfl, hop⟩ := trod_i Tryd.underlying3 h0
  obtain ⟨name, rfl, hna⟩ := trod_s Tryd.underlying9 h1
  obtain ⟨sort, rfl, hso⟩ := trod_i Tryd.underlying3 h2
  obtain ⟨num, rfl, hnu⟩ := trod_s Tryd.underlying9 h3
  obtain ⟨aL, cL, ls, rfl, hL, hLn⟩ := open_list h4 (hzi 4 _ (by omega) rfl) fun k l y hk hy hl7 hzy => ih k (by omega) l y hy hl7 hzy
  obtain ⟨aV, cV, vs, rfl, hV, hVn⟩ := open_vars h5 (hzi 5 _ (by omega) rfl)
  obtain ⟨aP, cP, ps, rfl, hP, hPn⟩ := open_list h6 (hzi 6 _ (by omega) rfl) fun k l y hk hy hl7 hzy => ih k (by omega) l y hy hl7 hzy
  refine ⟨⟨op, name, sort, num, ls, vs, ps⟩, ?_⟩
  have hI : IsT W W.heap.size m (.agg (tcells ⟨op, name, sort, num, ls, vs, ps⟩ aL aV aP cL cV cP).toArray) ⟨op, name, sort, num, ls, vs, ps⟩ := IsT.mk hop hso hL hV hP
  exact ⟨hI.more (Below.refl _ _) (Nat.le_refl _) (by omega), hna, hnu, hVn, hLn, hPn⟩
end
end Go.Proofs.YtegmckpcchhmdaaDoor

/- A term laid into a box that held nothing. -/
namespace Go.Proofs.YtegmckpcchhmdaaDoor
open Go Go.RowKit
/-- No operator that is none, no name that is empty. -/
def NZ : Nat → Tm → Prop
  | 0, _ => False
  | e + 1, t => t.op ≠ 0 ∧ (∀ v ∈ t.vars, v.1 ≠ ⟨#[]⟩) ∧ (∀ u ∈ t.l, NZ e u) ∧ ∀ u ∈ t.pat, NZ e u
theorem NZ.op {e : Nat} {t : Tm} (h : NZ e t) : t.op ≠ 0 := by
  cases e with
  | zero => exact h.elim
  | succ e => exact h.1
theorem zero_cell {w : World} {r o : Nat} {v : Value} (hz : w.heap[r]? = some (.cells zeroC 25)) (h : w.cell? ⟨r, o, none⟩ = some v) : v = .int .i64 0 ∨ v = .string ⟨#[]⟩ ∨ v = .slice none 0 0 := by
  have hs : zeroC.size = 7 := rfl
  have ho : o < 7 := by
    rcases Nat.lt_or_ge o 7 with hlt | hge
    · exact hlt
    · simp only [World.cell?, hz] at h
      rw [Array.getElem?_eq_none (by omega)] at h
      cases h
  have hc : ∀ u, zeroC[o]? = some u → v = u := fun u hu => by
    have := (blk hz).2.1 o u hu
    rw [h] at this
    exact Option.some.inj this
  rcases (by omega : o = 0 ∨ o = 1 ∨ o = 2 ∨ o = 3 ∨ o = 4 ∨ o = 5 ∨ o = 6) with rfl | rfl | rfl | rfl | rfl | rfl | rfl
  · exact .inl (hc (.int .i64 0) rfl)
  · exact .inr (.inl (hc (.string ⟨#[]⟩) rfl))
  · exact .inl (hc (.int .i64 0) rfl)
  · exact .inr (.inl (hc (.string ⟨#[]⟩) rfl))
  · exact .inr (.inr (hc (.slice none 0 0) rfl))
  · exact .inr (.inr (hc (.slice none 0 0) rfl))
  · exact .inr (.inr (hc (.slice none 0 0) rfl))
theorem Row.off {B r n cap k : Nat} {a : Option Addr} {p q : Nat → Nat → Nat → Prop} (h : Row B a n cap k p) (hp : ∀ b o j, j < n → p b o j → b ≠ r ∧ q b o j) : RowP (fun b => b < B ∧ b ≠ r) a n cap k q := by
  refine ⟨h.1, h.2.1, fun hn => ?_⟩
  obtain ⟨b, off, e, hb, hj⟩ := h.2.2 hn
  exact ⟨b, off, e, ⟨hb, (hp b _ 0 (by omega) (hj 0 (by omega))).1⟩, fun j hjn => (hp b _ j hjn (hj j hjn)).2⟩
theorem TmAt.op0 {w : World} {B d b o r : Nat} {t : Tm} (hz : w.heap[r]? = some (.cells zeroC 25)) (h : TmAt w B d b o t) (h0 : t.op ≠ 0) : b ≠ r := by
  cases d with
  | zero => exact h.elim
  | succ d =>
    obtain ⟨_, _, _, _, _, _, _, _, _, hr, _⟩ := h
    rintro rfl
    have h1 : w.cell? ⟨b, o, none⟩ = some (.int .i64 t.op) := hr 0 _ rfl
    rcases zero_cell hz h1 with e | e | e
    · injection e with _ e
      exact h0 e
    · cases e
    · cases e
theorem vars_off {w : World} {b o r j : Nat} {x : List (ByteArray × Int)} (hz : w.heap[r]? = some (.cells zeroC 25)) (hn : ∀ v ∈ x, v.1 ≠ ⟨#[]⟩) (hj : j < x.length) (h : BR w x b o j) : b ≠ r := by
  rintro rfl
  have h1 : w.cell? ⟨b, o, none⟩ = some (.string x[j].1) := (h _ (List.getElem?_eq_getElem hj)).1 0 _ rfl
  rcases zero_cell hz h1 with e | e | e
  · cases e
  · injection e with e
    exact hn _ (List.getElem_mem hj) e
  · cases e
/-- A term lies in blocks of which P holds. -/
def TmO (w : World) (P : Nat → Prop) : Nat → Nat → Nat → Tm → Prop
  | 0, _, _, _ => False
  | d + 1, b, o, t => P b ∧ fits t.op ∧ fits t.sort ∧ ∃ aL aV aP cL cV cP, w.rangeAt b o (tcells t aL aV aP cL cV cP)
      ∧ RowP P aL t.l.length cL 7 (fun b o j => ∀ u, t.l[j]? = some u → TmO w P d b o u)
      ∧ RowP P aV t.vars.length cV 2 (fun b o j => ∀ u, t.vars[j]? = some u → w.rangeAt b o [.string u.1, .int .i64 u.2] ∧ fits u.2)
      ∧ RowP P aP t.pat.length cP 7 (fun b o j => ∀ u, t.pat[j]? = some u → TmO w P d b o u)
      ∧ True
/-- A term as a value, whose lists lie in such blocks. -/
def IsO (w : World) (P : Nat → Prop) (d : Nat) (v : Value) (t : Tm) : Prop := fits t.op ∧ fits t.sort ∧ ∃ aL aV aP cL cV cP, v = .agg (tcells t aL aV aP cL cV cP).toArray
      ∧ RowP P aL t.l.length cL 7 (fun b o j => ∀ u, t.l[j]? = some u → TmO w P d b o u)
      ∧ RowP P aV t.vars.length cV 2 (fun b o j => ∀ u, t.vars[j]? = some u → w.rangeAt b o [.string u.1, .int .i64 u.2] ∧ fits u.2)
      ∧ RowP P aP t.pat.length cP 7 (fun b o j => ∀ u, t.pat[j]? = some u → TmO w P d b o u)
theorem TmO.keep {P Q : Nat → Prop} {w w' : World} (hk : ∀ k, P k → Q k ∧ w'.heap[k]? = w.heap[k]?) : ∀ {d d' b o : Nat} {t : Tm}, d ≤ d' → TmO w P d b o t → TmO w' Q d' b o t
  | 0, _, _, _, _, _, h => h.elim
  | d + 1, 0, _, _, _, hd, _ => absurd hd (by omega)
  | d + 1, d' + 1, b, o, t, hd, ⟨hb, h1, h2, aL, aV, aP, cL, cV, cP, hr, hL, hV, hP, hPl⟩ =>
    ⟨(hk b hb).1, h1, h2, aL, aV, aP, cL, cV, cP, range_same hr (hk b hb).2,
      hL.imp (fun b h => (hk b h).1) fun b o j hb h u hu => TmO.keep hk (by omega) (h u hu),
      hV.imp (fun b h => (hk b h).1) fun b o j hb h u hu => ⟨range_same (h u hu).1 (hk b hb).2, (h u hu).2⟩,
      hP.imp (fun b h => (hk b h).1) fun b o j hb h u hu => TmO.keep hk (by omega) (h u hu), hPl⟩
theorem IsO.keep {P Q : Nat → Prop} {w w' : World} (hk : ∀ k, P k → Q k ∧ w'.heap[k]? = w.heap[k]?) {d d' : Nat} {v : Value} {t : Tm} (hd : d ≤ d') (h : IsO w P d v t) : IsO w' Q d' v t := by
  obtain ⟨h1, h2, aL, aV, aP, cL, cV, cP, hr, hL, hV, hP⟩ := h
  exact ⟨h1, h2, aL, aV, aP, cL, cV, cP, hr, hL.imp (fun b h => (hk b h).1) fun b o j hb h u hu => (h u hu).keep hk hd,
    hV.imp (fun b h => (hk b h).1) fun b o j hb h u hu => ⟨range_same (h u hu).1 (hk b hb).2, (h u hu).2⟩,
    hP.imp (fun b h => (hk b h).1) fun b o j hb h u hu => (h u hu).keep hk hd⟩
theorem TmO.at {P : Nat → Prop} {w : World} {B : Nat} (hP : ∀ k, P k → k < B) : ∀ {d b o : Nat} {t : Tm}, TmO w P d b o t → TmAt w B d b o t
  | 0, _, _, _, h => h.elim
  | d + 1, b, o, t, ⟨hb, h1, h2, aL, aV, aP, cL, cV, cP, hr, hL, hV, hPt, hPl⟩ =>
    ⟨hP b hb, h1, h2, aL, aV, aP, cL, cV, cP, hr, hL.row hP fun b o j hb h u hu => TmO.at hP (h u hu), hV.row hP fun b o j hb h => h, hPt.row hP fun b o j hb h u hu => TmO.at hP (h u hu), hPl⟩
theorem IsO.isT {P : Nat → Prop} {w : World} {B d : Nat} {v : Value} {t : Tm} (hP : ∀ k, P k → k < B) (h : IsO w P d v t) : IsT w B d v t := by
  obtain ⟨h1, h2, aL, aV, aP, cL, cV, cP, hr, hL, hV, hPt⟩ := h
  exact ⟨h1, h2, aL, aV, aP, cL, cV, cP, hr, hL.row hP fun b o j hb h u hu => (h u hu).at hP, hV.row hP fun b o j hb h => h, hPt.row hP fun b o j hb h u hu => (h u hu).at hP⟩
theorem TmAt.off {w : World} {B r : Nat} (hz : w.heap[r]? = some (.cells zeroC 25)) : ∀ {d e b o : Nat} {t : Tm}, TmAt w B d b o t → NZ e t → TmO w (fun k => k < B ∧ k ≠ r) d b o t
  | 0, _, _, _, _, h, _ => h.elim
  | d + 1, 0, _, _, _, _, h => h.elim
  | d + 1, e + 1, b, o, t, h, hn => by
    have hb := h.op0 hz hn.1
    obtain ⟨h0, h1, h2, aL, aV, aP, cL, cV, cP, hr, hL, hV, hP, hPl⟩ := h
    refine ⟨⟨h0, hb⟩, h1, h2, aL, aV, aP, cL, cV, cP, hr, hL.off ?_, hV.off ?_, hP.off ?_, hPl⟩
    · intro b o j hj h
      exact ⟨(h _ (List.getElem?_eq_getElem hj)).op0 hz (hn.2.2.1 _ (List.getElem_mem hj)).op, fun u hu => TmAt.off hz (h u hu) (hn.2.2.1 u (List.mem_of_getElem? hu))⟩
    · intro b o j hj h
      exact ⟨vars_off hz hn.2.1 hj h, h⟩
    · intro b o j hj h
      exact ⟨(h _ (List.getElem?_eq_getElem hj)).op0 hz (hn.2.2.2 _ (List.getElem_mem hj)).op, fun u hu => TmAt.off hz (h u hu) (hn.2.2.2 u (List.mem_of_getElem? hu))⟩
theorem IsT.off {w : World} {B r d e : Nat} {v : Value} {t : Tm} (hz : w.heap[r]? = some (.cells zeroC 25)) (h : IsT w B d v t) (hn : NZ (e + 1) t) : IsO w (fun k => k < B ∧ k ≠ r) d v t := by
  obtain ⟨h1, h2, aL, aV, aP, cL, cV, cP, hr, hL, hV, hP⟩ := h
  refine ⟨h1, h2, aL, aV, aP, cL, cV, cP, hr, hL.off ?_, hV.off ?_, hP.off ?_⟩
  · intro b o j hj h
    exact ⟨(h _ (List.getElem?_eq_getElem hj)).op0 hz (hn.2.2.1 _ (List.getElem_mem hj)).op, fun u hu => TmAt.off hz (h u hu) (hn.2.2.1 u (List.mem_of_getElem? hu))⟩
  · intro b o j hj h
    exact ⟨vars_off hz hn.2.1 hj h, h⟩
  · intro b o j hj h
    exact ⟨(h _ (List.getElem?_eq_getElem hj)).op0 hz (hn.2.2.2 _ (List.getElem_mem hj)).op, fun u hu => TmAt.off hz (h u hu) (hn.2.2.2 u (List.mem_of_getElem? hu))⟩
/-- A term laid into a box that held nothing. -/
theorem IsT.put {w w' : World} {r d e : Nat} {cs : Array Value} {t : Tm} (hz : w.heap[r]? = some (.cells zeroC 25)) (h : IsT w w.heap.size d (.agg cs) t) (hn : NZ (e + 1) t) (hput : PutAt r w w') (hh : w'.heap[r]? = some (.cells cs 25)) : TmAt w' w'.heap.size (d + 1) r 0 t := by
  have hP := (h.off hz hn).keep (Q := fun k => k < w.heap.size ∧ k ≠ r) (w' := w') (fun k hk => ⟨hk, hput.block k hk.2⟩) (Nat.le_refl d)
  have hI : IsT w' w'.heap.size d (.agg cs) t := hP.isT fun k hk => by rw [hput.size]; exact hk.1
  refine hI.at (Below.refl _ _) (Nat.le_refl _) (by rw [hput.size]; exact (Array.getElem?_eq_some_iff.1 hz).1) fun cs' e => ?_
  injection e with e
  subst e
  exact range_block hh
theorem RowP.off {P : Nat → Prop} {r n cap k : Nat} {a : Option Addr} {p q : Nat → Nat → Nat → Prop} (h : RowP P a n cap k p) (hp : ∀ b o j, j < n → p b o j → b ≠ r ∧ q b o j) : RowP (fun b => P b ∧ b ≠ r) a n cap k q := by
  refine ⟨h.1, h.2.1, fun hn => ?_⟩
  obtain ⟨b, off, e, hb, hj⟩ := h.2.2 hn
  exact ⟨b, off, e, ⟨hb, (hp b _ 0 (by omega) (hj 0 (by omega))).1⟩, fun j hjn => (hp b _ j hjn (hj j hjn)).2⟩
theorem TmS.op0 {w : World} {B d b o r : Nat} {t : Tm} (hz : w.heap[r]? = some (.cells zeroC 25)) (h : TmP w (LT B) d b o t) (h0 : t.op ≠ 0) : b ≠ r := TmAt.op0 hz (TmS.tm h) h0
theorem TmS.off {w : World} {B r : Nat} (hz : w.heap[r]? = some (.cells zeroC 25)) : ∀ {d e b o : Nat} {t : Tm}, TmP w (LT B) d b o t → NZ e t → TmP w (fun k => LT B k ∧ k ≠ r) d b o t
  | 0, _, _, _, _, h, _ => h.elim
  | d + 1, 0, _, _, _, _, h => h.elim
  | d + 1, e + 1, b, o, t, h, hn => by
    have hb := TmS.op0 hz h hn.1
    obtain ⟨h0, h1, h2, aL, aV, aP, cL, cV, cP, hr, hL, hV, hP, hPl⟩ := h
    refine ⟨⟨h0, hb⟩, h1, h2, aL, aV, aP, cL, cV, cP, hr, hL.off ?_, hV.off ?_, hP.off ?_, hPl⟩
    · intro b o j hj h
      exact ⟨TmS.op0 hz (h _ (List.getElem?_eq_getElem hj)) (hn.2.2.1 _ (List.getElem_mem hj)).op, fun u hu => TmS.off hz (h u hu) (hn.2.2.1 u (List.mem_of_getElem? hu))⟩
    · intro b o j hj h
      exact ⟨vars_off hz hn.2.1 hj h, h⟩
    · intro b o j hj h
      exact ⟨TmS.op0 hz (h _ (List.getElem?_eq_getElem hj)) (hn.2.2.2 _ (List.getElem_mem hj)).op, fun u hu => TmS.off hz (h u hu) (hn.2.2.2 u (List.mem_of_getElem? hu))⟩
theorem IsP.off {w : World} {B r d e : Nat} {v : Value} {t : Tm} (hz : w.heap[r]? = some (.cells zeroC 25)) (h : IsP w (LT B) d v t) (hn : NZ (e + 1) t) : IsP w (fun k => LT B k ∧ k ≠ r) d v t := by
  obtain ⟨h1, h2, aL, aV, aP, cL, cV, cP, hr, hL, hV, hP⟩ := h
  refine ⟨h1, h2, aL, aV, aP, cL, cV, cP, hr, hL.off ?_, hV.off ?_, hP.off ?_⟩
  · intro b o j hj h
    exact ⟨TmS.op0 hz (h _ (List.getElem?_eq_getElem hj)) (hn.2.2.1 _ (List.getElem_mem hj)).op, fun u hu => TmS.off hz (h u hu) (hn.2.2.1 u (List.mem_of_getElem? hu))⟩
  · intro b o j hj h
    exact ⟨vars_off hz hn.2.1 hj h, h⟩
  · intro b o j hj h
    exact ⟨TmS.op0 hz (h _ (List.getElem?_eq_getElem hj)) (hn.2.2.2 _ (List.getElem_mem hj)).op, fun u hu => TmS.off hz (h u hu) (hn.2.2.2 u (List.mem_of_getElem? hu))⟩
/-- The same, of a term in blocks that bear no mark. -/
theorem IsP.put {w w' : World} {r d e : Nat} {cs : Array Value} {t : Tm} (hz : w.heap[r]? = some (.cells zeroC 25)) (h : IsP w (LT w.heap.size) d (.agg cs) t) (hn : NZ (e + 1) t) (hput : PutAt r w w') (hh : w'.heap[r]? = some (.cells cs 25)) : TmS w' w'.heap.size (d + 1) r 0 t := by
  have hP := (h.off hz hn).keep (Q := LT w'.heap.size) (w' := w') (fun k hk => ⟨by have : k < w.heap.size := hk.1; show k < _; rw [hput.size]; exact this, hput.block k hk.2⟩) (Nat.le_refl d)
  refine hP.laid (show r < _ by rw [hput.size]; exact (Array.getElem?_eq_some_iff.1 hz).1) ⟨_, _, hh⟩ fun cs' e => ?_
  injection e with e
  subst e
  exact range_block hh
end Go.Proofs.YtegmckpcchhmdaaDoor

/- known: the terms that it makes. -/
namespace Go.Proofs.YtegmckpcchhmdaaDoor
open Go Go.RowKit
def bX : ByteArray := ⟨#[120]⟩
def bF : ByteArray := ⟨#[102]⟩
def tX : Tm := ⟨18, bX, 1, .empty, [], [], []⟩
def tFX : Tm := ⟨17, bF, 0, .empty, [tX], [], []⟩
def t0 : Tm := ⟨1, .empty, 0, ⟨#[48]⟩, [], [], []⟩
def t3 : Tm := ⟨1, .empty, 0, ⟨#[51]⟩, [], [], []⟩
def tLe : Tm := ⟨10, .empty, 0, .empty, [t0, tFX], [], []⟩
def tAll : Tm := ⟨19, .empty, 0, .empty, [tLe], [(bX, 1)], [tFX]⟩
def xC : Array Value := #[.int .i64 18, .string bX, .int .i64 1, .string ⟨#[]⟩, .slice none 0 0, .slice none 0 0, .slice none 0 0]
theorem isX (w : World) (B d : Nat) : IsT w B d (.agg xC) tX := IsT.mk (t := tX) (show fits 18 by unfold fits; omega) (show fits 1 by unfold fits; omega) row_nil row_nil row_nil
theorem isN (s : ByteArray) (w : World) (B d : Nat) : IsT w B d (.agg #[.int .i64 1, .string .empty, .int .i64 0, .string s, .slice none 0 0, .slice none 0 0, .slice none 0 0]) ⟨1, .empty, 0, s, [], [], []⟩ := IsT.mk (t := ⟨1, .empty, 0, s, [], [], []⟩) (show fits 1 by unfold fits; omega) (show fits 0 by unfold fits; omega) row_nil row_nil row_nil
theorem enter_app : Enters Tryd.prog 9 := ⟨fun xs w => by go_simp⟩
theorem enter_n : Enters Tryd.prog 10 := ⟨fun xs w => by go_simp⟩
section
variable {P : Program} {Q : Exit → Act → World → Prop}
/-- As one_store, by the operation's number. -/
theorem one_store2 {l : List Oper} {a0 : Act} {w0 : World} (N B s q : Nat) (kept pre : List Nat) (sp : Nat → World → Value → Prop) (pu : Nat → Value → Prop) (J : World → Value → Prop)
    (hg : fitF N 0 kept l = true) (hN : a0.tmps.size = N) (hB : B ≤ w0.heap.size) (hsl : s < l.length) (hsd : (l.getD s default).dst = none) (hsg : (l.getD s default).guard = none)
    (hsp : (pre.all fun i => (preds (l.getD s default)).contains i) = true) (hqp : q ∈ pre) (hns : s ∉ pre)
    (hno : ((List.range l.length).all fun i => i == s || (match l[i]? with | some o => o.dst.isSome | none => false)) = true)
    (hmono : ∀ i w w' v, sp i w v → Below w.heap.size w w' → sp i w' v)
    (hpus : ∀ v, pu s v)
    (hstep : ∀ i, i ∈ pre → ∀ (a : Act) (w : World), Below B w0 w → a.tmps.size = N → (∀ k, k ∈ kept → a.tmps[k]? = a0.tmps[k]?) → (∀ j, (preds (l.getD i default)).contains j = true → j ∈ pre → sp j w (slotOf l.toArray a j)) →
      if Region.wanted (l.getD i default) (yielded l.toArray a.tmps) then (l.getD i default).wp P a w (fun a' w' => ∃ v, a' = a.put (l.getD i default).dst v ∧ Below w.heap.size w w' ∧ sp i w' v ∧ pu i v) Q else sp i w undef ∧ pu i undef)
    (hpure : ∀ i, i < l.length → i ∉ pre → i ≠ s → ∀ (a : Act) (w : World), a.tmps.size = N → (∀ k, k ∈ kept → a.tmps[k]? = a0.tmps[k]?) → (∀ j, (preds (l.getD i default)).contains j = true → pu j (slotOf l.toArray a j)) →
      if Region.wanted (l.getD i default) (yielded l.toArray a.tmps) then (l.getD i default).wp P a w (fun a' w' => ∃ v, a' = a.put (l.getD i default).dst v ∧ w' = w ∧ pu i v) Q else pu i undef)
    (hstore : ∀ (a : Act) (w : World), Below B w0 w → a.tmps.size = N → (∀ k, k ∈ kept → a.tmps[k]? = a0.tmps[k]?) → (∀ i, i ∈ pre → sp i w (slotOf l.toArray a i)) → (l.getD s default).wp P a w (fun a' w' => a' = a ∧ J w' (slotOf l.toArray a q)) Q)
    (hend : ∀ (a : Act) (w : World), a.defers = a0.defers → a.tmps.size = N → (∀ k, k ∈ kept → a.tmps[k]? = a0.tmps[k]?) → (∀ i, i < l.length → pu i (slotOf l.toArray a i)) → J w (slotOf l.toArray a q) → Q .normal a w) :
    wpAny P .any l.toArray Q l.toArray.size (Array.replicate l.toArray.size false) a0 w0 := by
  have hgd : ∀ (i : Nat) (o : Oper), l[i]? = some o → l.getD i default = o := fun i o ho => by simp [List.getD_eq_getElem?_getD, ho]
  have hs : l[s]? = some (l.getD s default) := by simp [List.getD_eq_getElem?_getD, hsl]
  refine one_store (so := l.getD s default) N B s q kept pre sp pu J hg hN hB hs hsd hsg hsp hqp hns hno hmono hpus ?_ ?_ hstore hend
  · intro i o ho hi a w hb hn hk hp
    have h := hstep i hi a w hb hn hk
    rw [hgd i o ho] at h
    exact h hp
  · intro i o ho hi his a w hn hk hp
    have h := hpure i (List.getElem?_eq_some_iff.1 ho).1 hi his a w hn hk
    rw [hgd i o ho] at h
    exact h hp
end
theorem wnone {o : Oper} {y : Nat → Option Bool} (h : o.guard = none) : Region.wanted o y = true := by simp [Region.wanted, h]
theorem nz_all : NZ 5 tAll := by
  simp [NZ, tAll, tLe, t0, tFX, tX, bX, bF]
def kept2 : List Nat := [0, 1, 3, 4, 5, 6, 7, 8, 9, 10, 25, 26, 27, 28, 29, 30, 31, 32, 33, 34, 35, 36, 37, 38, 39, 40, 41, 42, 43, 44, 45, 46, 47, 48, 49, 50, 51, 52, 53, 54, 55, 56, 57, 58, 59, 60, 61, 62, 63, 64, 65, 66, 67, 68, 69, 70, 71, 72, 73, 74, 75, 76, 77, 78, 79, 80, 81, 82, 83, 84, 85, 86, 87, 88, 89, 90, 91, 92]
def sps2 (B : Nat) : List Mx := [.val (.agg #[.string bX, .int .i64 1]), .vs [(bX, 1)], .val (.agg xC), .ls 1 [tX], .tm 1 tFX, .ls 2 [tFX], .tm 1 t0, .val (.agg xC), .ls 1 [tX], .tm 1 tFX, .ls 2 [t0, tFX], .tm 2 tLe, .ls 3 [tLe], .tm 3 tAll, .bx B]
/-- What region 2 leaves. -/
def J2 (B : Nat) (w0 w : World) (v : Value) : Prop := ∃ r, v = .pointer (some ⟨r, 0, none⟩) ∧ B ≤ r ∧ Below B w0 w ∧ TmAt w w.heap.size 4 r 0 tAll
set_option maxRecDepth 100000 in
set_option maxHeartbeats 4000000 in
theorem known_r2 {Q : Exit → Act → World → Prop} {a0 : Act} {w0 : World} {b1 : Nat} (hN : a0.tmps.size = 93) (h1 : a0.tmps[1]? = some (.pointer (some ⟨b1, 0, none⟩))) (hx : w0.heap[b1]? = some (.cells xC 25))
    (hend : ∀ (a : Act) (w : World), a.defers = a0.defers → a.tmps.size = 93 → (∀ k, k ∈ kept2 → a.tmps[k]? = a0.tmps[k]?) → J2 w0.heap.size w0 w (a.tmps.getD 2 undef) → Q .normal a w) :
    (Code.region 2 (regionOf Tryd.f4 2).toArray true).wp Tryd.prog Q a0 w0 := by
  have hD : Below w0.heap.size w0 w0.drew := (Below.refl _ w0).drew
  refine wp_region_any (by kernel_rfl) ?_
  refine one_store2 (l := regionOf Tryd.f4 2) (w0 := w0.drew) 93 w0.heap.size 15 14 kept2 [0, 1, 2, 3, 4, 5, 6, 7, 8, 9, 10, 11, 12, 13, 14] (fun i => ((sps2 w0.heap.size).getD i .any).ok) (fun _ _ => True) (J2 w0.heap.size w0) (by kernel_rfl) hN (Nat.le_refl _) (by decide) (by kernel_rfl) (by kernel_rfl) (by kernel_rfl) (by decide) (by decide) (by kernel_rfl) (fun i w w' v h hb => ((sps2 w0.heap.size).getD i .any).mono w w' v h hb) (fun _ => trivial) ?_ ?_ ?_ ?_
  · intro i hi a w hb hn hk hp
    have hb0 : Below w0.heap.size w0 w := hD.trans hb
    have hxw : w.heap[b1]? = some (.cells xC 25) := (hb0.block b1 (Array.getElem?_eq_some_iff.1 hx).1).trans hx
    have hld : (Instr.loadAt 25 (.pointer (some ⟨b1, 0, none⟩))).run Tryd.prog w = .ok (.agg xC) w := run_loadAt_mid (P := Tryd.prog) w b1 0 25 xC.toList _ (range_block hxw) rfl rfl rfl
    have k1 : a.eval (.tmp 1) = .pointer (some ⟨b1, 0, none⟩) := by
      have := (hk 1 (by decide)).trans h1
      simp [Act.eval, this]
    have hi' : i = 0 ∨ i = 1 ∨ i = 2 ∨ i = 3 ∨ i = 4 ∨ i = 5 ∨ i = 6 ∨ i = 7 ∨ i = 8 ∨ i = 9 ∨ i = 10 ∨ i = 11 ∨ i = 12 ∨ i = 13 ∨ i = 14 := by simpa using hi
    rcases hi' with rfl | rfl | rfl | rfl | rfl | rfl | rfl | rfl | rfl | rfl | rfl | rfl | rfl | rfl | rfl
    · exact st_want (wnone rfl) (op_bldV ⟨_, rfl, Below.refl _ _, rfl, trivial⟩)
    · exact st_want (wnone rfl) (op_bsV (s := bX) (n := 1) (by unfold fits; omega) (hp 0 rfl (by decide)) fun v w' h1 h2 => ⟨v, rfl, h1, h2, trivial⟩)
    · exact st_want (wnone rfl) (op_load k1 hld ⟨_, rfl, Below.refl _ _, rfl, trivial⟩)
    · exact st_want (wnone rfl) (op_bs1 (d := 0) (t := tX) (by have e : a.tmps.getD 13 undef = .agg xC := hp 2 rfl (by decide); rw [e]; exact isX w _ 0) fun v w' h1 h2 => ⟨v, rfl, h1, h2, trivial⟩)
    · obtain ⟨al, cl, e, hR⟩ : (Mx.ls 1 [tX]).ok w (a.tmps.getD 14 undef) := hp 3 rfl (by decide)
      refine st_want (wnone rfl) (op_call enter_app ?_)
      have hargs : (#[Operand.const (.string ⟨#[102]⟩), .tmp 14]).map a.eval = #[.string bF, .slice al 1 cl] := by
        simp only [List.map_toArray, List.map_cons, List.map_nil, Act.eval, e]
        rfl
      rw [hargs]
      refine (app_any bF al 1 cl w).mono ?_
      rintro e w' ⟨rfl, hb'⟩
      exact ⟨_, rfl, _, rfl, hb', (IsT.mk (t := tFX) (show fits 17 by unfold fits; omega) (show fits 0 by unfold fits; omega) hR row_nil row_nil).more hb' hb'.size (Nat.le_refl _), trivial⟩
    · exact st_want (wnone rfl) (op_bs1 (d := 1) (t := tFX) (hp 4 rfl (by decide)) fun v w' h1 h2 => ⟨v, rfl, h1, h2, trivial⟩)
    · refine st_want (wnone rfl) (op_call enter_n ?_)
      have hargs : (#[Operand.const (.string ⟨#[48]⟩)]).map a.eval = #[.string ⟨#[48]⟩] := by
        simp only [List.map_toArray, List.map_cons, List.map_nil, Act.eval]
      rw [hargs]
      refine (n_any ⟨#[48]⟩ w).mono ?_
      rintro e w' ⟨rfl, hb'⟩
      exact ⟨_, rfl, _, rfl, hb', isN _ w' _ 1, trivial⟩
    · exact st_want (wnone rfl) (op_load k1 hld ⟨_, rfl, Below.refl _ _, rfl, trivial⟩)
    · exact st_want (wnone rfl) (op_bs1 (d := 0) (t := tX) (by have e : a.tmps.getD 18 undef = .agg xC := hp 7 rfl (by decide); rw [e]; exact isX w _ 0) fun v w' h1 h2 => ⟨v, rfl, h1, h2, trivial⟩)
    · obtain ⟨al, cl, e, hR⟩ : (Mx.ls 1 [tX]).ok w (a.tmps.getD 19 undef) := hp 8 rfl (by decide)
      refine st_want (wnone rfl) (op_call enter_app ?_)
      have hargs : (#[Operand.const (.string ⟨#[102]⟩), .tmp 19]).map a.eval = #[.string bF, .slice al 1 cl] := by
        simp only [List.map_toArray, List.map_cons, List.map_nil, Act.eval, e]
        rfl
      rw [hargs]
      refine (app_any bF al 1 cl w).mono ?_
      rintro e w' ⟨rfl, hb'⟩
      exact ⟨_, rfl, _, rfl, hb', (IsT.mk (t := tFX) (show fits 17 by unfold fits; omega) (show fits 0 by unfold fits; omega) hR row_nil row_nil).more hb' hb'.size (Nat.le_refl _), trivial⟩
    · exact st_want (wnone rfl) (op_bs2 (d := 1) (t := t0) (u := tFX) (hp 6 rfl (by decide)) (hp 9 rfl (by decide)) fun v w' h1 h2 => ⟨v, rfl, h1, h2, trivial⟩)
    · exact st_want (wnone rfl) (op_bldL (d := 2) (op := 10) (l := [t0, tFX]) (by unfold fits; omega) (hp 10 rfl (by decide)) fun v h2 => ⟨v, rfl, Below.refl _ _, h2, trivial⟩)
    · exact st_want (wnone rfl) (op_bs1 (d := 2) (t := tLe) (hp 11 rfl (by decide)) fun v w' h1 h2 => ⟨v, rfl, h1, h2, trivial⟩)
    · have hP : (Mx.ls 3 [tFX]).ok w (a.tmps.getD 16 undef) := by
        obtain ⟨al, cl, e, hR⟩ : (Mx.ls 2 [tFX]).ok w (a.tmps.getD 16 undef) := hp 5 rfl (by decide)
        exact ⟨al, cl, e, hR.mono (Nat.le_refl _) fun b o j _ h u hu => (h u hu).more (Below.refl _ _) (Nat.le_refl _) (by omega)⟩
      exact st_want (wnone rfl) (op_bldA (d := 3) (l := [tLe]) (p := [tFX]) (x := [(bX, 1)]) (hp 1 rfl (by decide)) hP (hp 12 rfl (by decide)) fun v h2 => ⟨v, rfl, Below.refl _ _, h2, trivial⟩)
    · exact st_want (wnone rfl) (op_box fun v w' h1 ⟨r, h2, h3, h4⟩ => ⟨v, rfl, h1, ⟨r, h2, Nat.le_trans hb0.size h3, h4⟩, trivial⟩)
  · intro i hi hi1 hi2
    exfalso
    have hl : (regionOf Tryd.f4 2).length = 16 := by kernel_rfl
    rw [hl] at hi
    have hi1' : ¬ (i = 0 ∨ i = 1 ∨ i = 2 ∨ i = 3 ∨ i = 4 ∨ i = 5 ∨ i = 6 ∨ i = 7 ∨ i = 8 ∨ i = 9 ∨ i = 10 ∨ i = 11 ∨ i = 12 ∨ i = 13 ∨ i = 14) := by simpa using hi1
    omega
  · intro a w hb hn hk hp
    have hb0 : Below w0.heap.size w0 w := hD.trans hb
    obtain ⟨r, e, hr, hz⟩ : (Mx.bx w0.heap.size).ok w (a.tmps.getD 2 undef) := hp 14 (by decide)
    have h24 : (Mx.tm 3 tAll).ok w (a.tmps.getD 24 undef) := hp 13 (by decide)
    refine op_storeT (r := r) hz e h24 fun w' cs ecs hput hh => ⟨rfl, r, e, hr, ⟨hput.os.trans hb0.os, hput.tape.trans hb0.tape, hput.output.trans hb0.output, by rw [hput.size]; exact hb0.size, fun k hk => (hput.block k (by omega)).trans (hb0.block k hk)⟩, ?_⟩
    have hI : IsT w w.heap.size 3 (a.tmps.getD 24 undef) tAll := h24
    rw [ecs] at hI
    exact hI.put hz nz_all hput hh
  · intro a w hd hn hk _ hJ
    exact hend a w hd hn hk hJ
end Go.Proofs.YtegmckpcchhmdaaDoor

/- known: what is said of its terms. -/
namespace Go.Proofs.YtegmckpcchhmdaaDoor
open Go Go.RowKit
def tF3 : Tm := ⟨17, bF, 0, .empty, [t3], [], []⟩
def tR : Tm := ⟨10, .empty, 0, .empty, [t0, tF3], [], []⟩
def sigF : List Fn := [⟨bF, [1], 1⟩]
def rtT : ByteArray → Bool := fun _ => true
theorem tx_tX : tX.text = [120] := by
  rw [Tm.text_eq]
  rfl
theorem tx_tFX : tFX.text = [40, 102, 32, 120, 41] := by
  rw [Tm.text_eq]
  simp only [tFX, List.map_cons, List.map_nil, List.all_cons, List.all_nil, tx_tX]
  rfl
theorem tx_t0 : t0.text = [48] := by
  rw [Tm.text_eq]
  rfl
theorem tx_t3 : t3.text = [51] := by
  rw [Tm.text_eq]
  rfl
theorem tx_tLe : tLe.text = [40, 60, 61, 32, 48, 32, 40, 102, 32, 120, 41, 41] := by
  rw [Tm.text_eq]
  simp only [tLe, List.map_cons, List.map_nil, List.all_cons, List.all_nil, tx_t0, tx_tFX]
  rfl
theorem tx_tF3 : tF3.text = [40, 102, 32, 51, 41] := by
  rw [Tm.text_eq]
  simp only [tF3, List.map_cons, List.map_nil, List.all_cons, List.all_nil, tx_t3]
  rfl
theorem tx_tR : tR.text = [40, 60, 61, 32, 48, 32, 40, 102, 32, 51, 41, 41] := by
  rw [Tm.text_eq]
  simp only [tR, List.map_cons, List.map_nil, List.all_cons, List.all_nil, tx_t0, tx_tF3]
  rfl
theorem tx_tAll : tAll.text = [40, 102, 111, 114, 97, 108, 108, 32, 40, 120, 32, 105, 110, 116, 41, 32, 40, 112, 97, 116, 116, 101, 114, 110, 32, 40, 102, 32, 120, 41, 41, 32, 40, 60, 61, 32, 48, 32, 40, 102, 32, 120, 41, 41, 41] := by
  rw [Tm.text_eq]
  simp only [tAll, List.map_cons, List.map_nil, List.all_cons, List.all_nil, tx_tLe, tx_tFX]
  rfl
theorem sz_tX : tX.size = 1 := by
  rw [Tm.size_eq]
  rfl
theorem sz_tFX : tFX.size = 2 := by
  rw [Tm.size_eq]
  simp only [tFX, List.map_cons, List.map_nil, List.all_cons, List.all_nil, sz_tX]
  rfl
theorem sz_t0 : t0.size = 1 := by
  rw [Tm.size_eq]
  rfl
theorem sz_t3 : t3.size = 1 := by
  rw [Tm.size_eq]
  rfl
theorem sz_tLe : tLe.size = 4 := by
  rw [Tm.size_eq]
  simp only [tLe, List.map_cons, List.map_nil, List.all_cons, List.all_nil, sz_t0, sz_tFX]
  rfl
theorem sz_tF3 : tF3.size = 2 := by
  rw [Tm.size_eq]
  simp only [tF3, List.map_cons, List.map_nil, List.all_cons, List.all_nil, sz_t3]
  rfl
theorem sz_tR : tR.size = 4 := by
  rw [Tm.size_eq]
  simp only [tR, List.map_cons, List.map_nil, List.all_cons, List.all_nil, sz_t0, sz_tF3]
  rfl
theorem sz_tAll : tAll.size = 5 := by
  rw [Tm.size_eq]
  simp only [tAll, List.map_cons, List.map_nil, List.all_cons, List.all_nil, sz_tLe]
  rfl
theorem dp_tX : tX.depth = 1 := by
  rw [Tm.depth_eq]
  rfl
theorem dp_tFX : tFX.depth = 2 := by
  rw [Tm.depth_eq]
  simp only [tFX, List.map_cons, List.map_nil, List.all_cons, List.all_nil, dp_tX]
  rfl
theorem dp_t0 : t0.depth = 1 := by
  rw [Tm.depth_eq]
  rfl
theorem dp_t3 : t3.depth = 1 := by
  rw [Tm.depth_eq]
  rfl
theorem dp_tLe : tLe.depth = 3 := by
  rw [Tm.depth_eq]
  simp only [tLe, List.map_cons, List.map_nil, List.all_cons, List.all_nil, dp_t0, dp_tFX]
  rfl
theorem dp_tF3 : tF3.depth = 2 := by
  rw [Tm.depth_eq]
  simp only [tF3, List.map_cons, List.map_nil, List.all_cons, List.all_nil, dp_t3]
  rfl
theorem dp_tR : tR.depth = 3 := by
  rw [Tm.depth_eq]
  simp only [tR, List.map_cons, List.map_nil, List.all_cons, List.all_nil, dp_t0, dp_tF3]
  rfl
theorem dp_tAll : tAll.depth = 4 := by
  rw [Tm.depth_eq]
  simp only [tAll, List.map_cons, List.map_nil, List.all_cons, List.all_nil, dp_tLe]
  rfl
theorem gr_tX : tX.ground = false := by
  rw [Tm.ground_eq]
  rfl
theorem gr_tFX : tFX.ground = false := by
  rw [Tm.ground_eq]
  simp only [tFX, List.map_cons, List.map_nil, List.all_cons, List.all_nil, gr_tX]
  rfl
theorem gr_t0 : t0.ground = true := by
  rw [Tm.ground_eq]
  rfl
theorem gr_t3 : t3.ground = true := by
  rw [Tm.ground_eq]
  rfl
theorem gr_tLe : tLe.ground = false := by
  rw [Tm.ground_eq]
  simp only [tLe, List.map_cons, List.map_nil, List.all_cons, List.all_nil, gr_t0, gr_tFX]
  rfl
theorem gr_tF3 : tF3.ground = true := by
  rw [Tm.ground_eq]
  simp only [tF3, List.map_cons, List.map_nil, List.all_cons, List.all_nil, gr_t3]
  rfl
theorem gr_tR : tR.ground = true := by
  rw [Tm.ground_eq]
  simp only [tR, List.map_cons, List.map_nil, List.all_cons, List.all_nil, gr_t0, gr_tF3]
  rfl
theorem gr_tAll : tAll.ground = false := by
  rw [Tm.ground_eq]
  simp only [tAll, List.map_cons, List.map_nil, List.all_cons, List.all_nil, gr_tLe]
  rfl
theorem wt_tX : tX.wt = 1 := by
  rw [Tm.wt_eq]
  rfl
theorem wt_tFX : tFX.wt = 2 := by
  rw [Tm.wt_eq]
  simp only [tFX, List.map_cons, List.map_nil, List.all_cons, List.all_nil, wt_tX]
  rfl
theorem wt_t0 : t0.wt = 1 := by
  rw [Tm.wt_eq]
  rfl
theorem wt_t3 : t3.wt = 1 := by
  rw [Tm.wt_eq]
  rfl
theorem wt_tLe : tLe.wt = 4 := by
  rw [Tm.wt_eq]
  simp only [tLe, List.map_cons, List.map_nil, List.all_cons, List.all_nil, wt_t0, wt_tFX]
  rfl
theorem wt_tF3 : tF3.wt = 2 := by
  rw [Tm.wt_eq]
  simp only [tF3, List.map_cons, List.map_nil, List.all_cons, List.all_nil, wt_t3]
  rfl
theorem wt_tR : tR.wt = 4 := by
  rw [Tm.wt_eq]
  simp only [tR, List.map_cons, List.map_nil, List.all_cons, List.all_nil, wt_t0, wt_tF3]
  rfl
theorem wt_tAll : tAll.wt = 8 := by
  rw [Tm.wt_eq]
  simp only [tAll, List.map_cons, List.map_nil, List.all_cons, List.all_nil, wt_tLe, wt_tFX]
  rfl
theorem i0_t0 : t0.inst0 = t0 := by rw [Tm.inst0_eq]; rfl
theorem i0_t3 : t3.inst0 = t3 := by rw [Tm.inst0_eq]; rfl
theorem i0_tF3 : tF3.inst0 = tF3 := by
  rw [Tm.inst0_eq]
  simp only [tF3, List.map_cons, List.map_nil, i0_t3]
  rfl
theorem i0_tR : tR.inst0 = tR := by
  rw [Tm.inst0_eq]
  simp only [tR, List.map_cons, List.map_nil, i0_t0, i0_tF3]
  rfl
theorem gs_t0 : t0.gs = [t0] := by rw [Tm.gs_eq, gr_t0, i0_t0]; rfl
theorem gs_t3 : t3.gs = [t3] := by rw [Tm.gs_eq, gr_t3, i0_t3]; rfl
theorem gs_tF3 : tF3.gs = [t3, tF3] := by
  rw [Tm.gs_eq, gr_tF3, i0_tF3]
  simp only [tF3, gsL, List.map_cons, List.map_nil, gs_t3]
  rfl
theorem gs_tR : tR.gs = [t0, t3, tF3, tR] := by
  rw [Tm.gs_eq, gr_tR, i0_tR]
  simp only [tR, gsL, List.map_cons, List.map_nil, gs_t0, gs_tF3]
  rfl
theorem sm_03 : t0.same t3 = false := by
  have h : (t0.nu.toList == t3.nu.toList) = false := str_ne (show ¬ (⟨#[48]⟩ : ByteArray) = ⟨#[51]⟩ by decide)
  rw [Tm.same_eq]
  unfold Tm.sameLab
  rw [h]
  simp
theorem sm_0F : t0.same tF3 = false := by rw [Tm.same_eq]; rfl
theorem sm_3F : t3.same tF3 = false := by rw [Tm.same_eq]; rfl
theorem sm_0R : t0.same tR = false := by rw [Tm.same_eq]; rfl
theorem sm_3R : t3.same tR = false := by rw [Tm.same_eq]; rfl
theorem sm_FR : tF3.same tR = false := by rw [Tm.same_eq]; rfl
theorem c_apps : tR.apps = [tF3] := by
  unfold Tm.apps
  rw [gs_tR]
  have h : insAll [t0, t3, tF3, tR] [] = [t0, t3, tF3, tR] := by
    simp [insAll, insT, sm_03, sm_0F, sm_3F, sm_0R, sm_3R, sm_FR]
  rw [h]
  rfl
def sb : ByteArray → Option Tm := subV [(bX, 1)] [t3]
def h0 : ByteArray → Int := fun _ => 0
theorem rp_X : rep sb h0 18 bX = some t3 := by rfl
theorem in_tX : tX.inst sb h0 = t3 := by rw [(inst_some (t := tX) rp_X).1]; exact i0_t3
theorem in_t0 : t0.inst sb h0 = t0 := by rw [(inst_none (t := t0) rfl (by decide)).1]; rfl
theorem in_tFX : tFX.inst sb h0 = tF3 := by
  rw [(inst_none (t := tFX) rfl (by decide)).1]
  simp only [tFX, List.map_cons, List.map_nil, in_tX]
  rfl
theorem in_tLe : tLe.inst sb h0 = tR := by
  rw [(inst_none (t := tLe) rfl (by decide)).1]
  simp only [tLe, List.map_cons, List.map_nil, in_t0, in_tFX]
  rfl
theorem ic0_t3 : t3.icp0 = 0 := by
  unfold t3
  rw [Tm.icp0]
  rfl
theorem ic_tX : tX.icp sb h0 = 0 := by rw [(inst_some (t := tX) rp_X).2]; exact ic0_t3
theorem ic_t0 : t0.icp sb h0 = 0 := by rw [(inst_none (t := t0) rfl (by decide)).2]; rfl
theorem ic_tFX : tFX.icp sb h0 = 1 := by
  rw [(inst_none (t := tFX) rfl (by decide)).2]
  simp only [tFX, icpL, List.map_cons, List.map_nil, ic_tX]
  rfl
theorem ic_tLe : tLe.icp sb h0 = 3 := by
  rw [(inst_none (t := tLe) rfl (by decide)).2]
  simp only [tLe, icpL, List.map_cons, List.map_nil, ic_t0, ic_tFX]
  rfl
theorem wt0 (t : Tm) (h : t.op ≠ 19) : within t.op t.vars h0 = h0 := by unfold within; rw [if_neg h]
theorem is_tX : tX.isz sb h0 = 1 ∧ tX.idp sb h0 = 1 := by
  obtain ⟨e1, e2⟩ := isz_some (t := tX) rp_X
  rw [e1, e2]
  exact ⟨sz_t3, dp_t3⟩
theorem is_t0 : t0.isz sb h0 = 1 ∧ t0.idp sb h0 = 1 := by
  obtain ⟨e1, e2⟩ := isz_none (t := t0) (sub := sb) (hid := h0) rfl
  rw [e1, e2]
  exact ⟨rfl, rfl⟩
theorem is_tFX : tFX.isz sb h0 = 2 ∧ tFX.idp sb h0 = 2 := by
  obtain ⟨e1, e2⟩ := isz_none (t := tFX) (sub := sb) (hid := h0) rfl
  rw [e1, e2, wt0 tFX (by decide)]
  simp only [tFX, iszL, idpL, List.map_cons, List.map_nil, is_tX]
  exact ⟨rfl, rfl⟩
theorem is_tLe : tLe.isz sb h0 = 4 ∧ tLe.idp sb h0 = 3 := by
  obtain ⟨e1, e2⟩ := isz_none (t := tLe) (sub := sb) (hid := h0) rfl
  rw [e1, e2, wt0 tLe (by decide)]
  simp only [tLe, iszL, idpL, List.map_cons, List.map_nil, is_t0, is_tFX]
  exact ⟨rfl, rfl⟩
theorem nz_R : NZ 5 tR := by
  simp [NZ, tR, t0, tF3, t3]
end Go.Proofs.YtegmckpcchhmdaaDoor

/- known: the checks of its terms. -/
namespace Go.Proofs.YtegmckpcchhmdaaDoor
open Go Go.RowKit
theorem wb_x : wordB bX = true := by
  unfold wordB isRes
  rw [ByteArray.toList_eq]
  decide
theorem wb_f : wordB bF = true := by
  unfold wordB isRes
  rw [ByteArray.toList_eq]
  decide
theorem ck_t0 (sig : List Fn) (env : ByteArray → List Int) : t0.chk rtT sig env = (1, 0) := by
  rw [Tm.chk_eq]
  rfl
theorem ck_tX (env : ByteArray → List Int) (h : (env bX).getLast? = some 1) (sig : List Fn) : tX.chk rtT sig env = (1, 0) := by
  rw [Tm.chk_eq]
  have hs : shapeE rtT sig tX.op tX.name tX.num tX.l.length (headOp tX.l) tX.vars tX.pat.length = 0 := by
    show (if shapeB rtT 18 bX .empty 0 0 [] 0 then (0 : Int) else 30) = 0
    unfold shapeB
    simp [wb_x]
  rw [hs]
  show varE bX 1 env = (1, 0)
  unfold varE
  rw [h]
  rfl
theorem find_f : findF bF sigF = some ⟨bF, [1], 1⟩ := by rfl
theorem ck_tFX (env : ByteArray → List Int) (h : (env bX).getLast? = some 1) : tFX.chk rtT sigF env = (1, 0) := by
  rw [Tm.chk_eq]
  have hs : shapeE rtT sigF tFX.op tFX.name tFX.num tFX.l.length (headOp tFX.l) tFX.vars tFX.pat.length = 0 := by
    show appE sigF bF 1 = 0
    unfold appE
    rw [wb_f, find_f]
    rfl
  have hl : chkL (tFX.l.map (Tm.chk rtT sigF)) env = ([1], 0) := by
    simp only [tFX, List.map_cons, List.map_nil, chkL, ck_tX env h sigF]
    rfl
  rw [hs, hl]
  rfl
theorem ck_tFX0 (env : ByteArray → List Int) : tFX.chk rtT [] env = (0, 32) := by
  rw [Tm.chk_eq]
  have hs : shapeE rtT [] tFX.op tFX.name tFX.num tFX.l.length (headOp tFX.l) tFX.vars tFX.pat.length = 32 := by
    show appE [] bF 1 = 32
    unfold appE
    rw [wb_f]
    rfl
  rw [hs]
  rfl
theorem ck_tLe (env : ByteArray → List Int) (h : (env bX).getLast? = some 1) : tLe.chk rtT sigF env = (2, 0) := by
  rw [Tm.chk_eq]
  have hs : shapeE rtT sigF tLe.op tLe.name tLe.num tLe.l.length (headOp tLe.l) tLe.vars tLe.pat.length = 0 := by rfl
  have hl : chkL (tLe.l.map (Tm.chk rtT sigF)) env = ([1, 1], 0) := by
    simp only [tLe, List.map_cons, List.map_nil, chkL, ck_t0, ck_tFX env h]
    rfl
  rw [hs, hl]
  rfl
theorem ck_tLe0 (env : ByteArray → List Int) : tLe.chk rtT [] env = (0, 32) := by
  rw [Tm.chk_eq]
  have hs : shapeE rtT [] tLe.op tLe.name tLe.num tLe.l.length (headOp tLe.l) tLe.vars tLe.pat.length = 0 := by rfl
  have hl : (chkL (tLe.l.map (Tm.chk rtT [])) env).2 = 32 := by
    simp only [tLe, List.map_cons, List.map_nil, chkL, ck_t0, ck_tFX0]
    rfl
  rw [hs, hl]
  rfl
theorem sh_all (sig : List Fn) : shapeE rtT sig 19 .empty .empty 1 10 [(bX, 1)] 1 = 0 := by
  unfold shapeE shapeB bindersB
  simp [wb_x, sortB, distinct, memB]
theorem bare_FX : tFX.bare = true ∧ tFX.vn = [bX] := by
  constructor
  · unfold tFX tX
    simp [Tm.bare]
  · unfold tFX tX
    simp [Tm.vn]
theorem env_x : ((bindV [(bX, 1)] fun _ => []) bX).getLast? = some 1 := by
  simp [bindV]
theorem c_chk : tAll.check rtT sigF = (2, 0) := by
  have hlim : limE tAll = 0 := by unfold limE; rw [dp_tAll, sz_tAll]; rfl
  unfold Tm.check
  rw [hlim]
  simp only [ne_eq, not_true_eq_false, if_false]
  unfold tAll
  rw [Tm.chk]
  have hp : limE tFX = 0 := by unfold limE; rw [dp_tFX, sz_tFX]; rfl
  have hu : underE (headF ([tLe].map fun u => Tm.chk rtT sigF u) (bindV [(bX, 1)] fun _ => [])) (patEs ([tFX].map fun p => ((limE p, p.op, p.bare), Tm.chk rtT sigF p)) (bindV [(bX, 1)] fun _ => [])) [(bX, 1)] (([tFX].map Tm.vn).flatten) = 0 := by
    simp only [List.map_cons, List.map_nil, headF, patEs, hp, bare_FX.1, bare_FX.2, ck_tLe _ env_x, ck_tFX _ env_x]
    simp [underE, patE, firstE, memB, tFX]
  have hs : shapeE rtT sigF 19 .empty .empty [tLe].length (headOp [tLe]) [(bX, 1)] [tFX].length = 0 := sh_all sigF
  rw [hs, hu]
  rfl
theorem c_chk0 : tAll.check rtT [] = (0, 32) := by
  have hlim : limE tAll = 0 := by unfold limE; rw [dp_tAll, sz_tAll]; rfl
  unfold Tm.check
  rw [hlim]
  simp only [ne_eq, not_true_eq_false, if_false]
  unfold tAll
  rw [Tm.chk]
  have hu : underE (headF ([tLe].map fun u => Tm.chk rtT [] u) (bindV [(bX, 1)] fun _ => [])) (patEs ([tFX].map fun p => ((limE p, p.op, p.bare), Tm.chk rtT [] p)) (bindV [(bX, 1)] fun _ => [])) [(bX, 1)] (([tFX].map Tm.vn).flatten) = 32 := by
    simp only [List.map_cons, List.map_nil, headF, ck_tLe0]
    simp [underE]
  have hs : shapeE rtT [] 19 .empty .empty [tLe].length (headOp [tLe]) [(bX, 1)] [tFX].length = 0 := sh_all []
  rw [hs, hu]
  rfl
end Go.Proofs.YtegmckpcchhmdaaDoor

namespace Go.Proofs.YtegmckpcchhmdaaDoor
open Go Go.RowKit
theorem enter_Inst : Enters Tryd.prog 6 := ⟨fun xs w => by go_simp⟩
theorem IsP.grown {w w' : World} {d : Nat} {v : Value} {t : Tm} (h : IsP w (LT w.heap.size) d v t) (hb : Below w.heap.size w w') : IsP w' (LT w'.heap.size) d v t := h.keep (fun k hk => ⟨Nat.lt_of_lt_of_le hk hb.size, hb.block k hk⟩) (Nat.le_refl d)
def Mx.tp (d : Nat) (t : Tm) : Mx := ⟨fun w v => ∃ x, v = .tuple #[x, .int .i64 0] ∧ IsP w (LT w.heap.size) d x t, fun _ _ _ ⟨x, e, h⟩ hb => ⟨x, e, h.grown hb⟩⟩
def Mx.ts (d : Nat) (t : Tm) : Mx := ⟨fun w v => IsP w (LT w.heap.size) d v t, fun _ _ _ h hb => h.grown hb⟩
theorem inst_known {w : World} {v : Value} {a : Option Addr} {c : Nat} (hT : IsT w w.heap.size 3 v tAll) (hl : Row w.heap.size a 1 c 7 (RT7 w w.heap.size 3 [t3])) : Calls Tryd.prog 6 #[v, .slice a 1 c] w fun e w' => ∃ r, e = .returned r ∧ Below w.heap.size w w' ∧ (Mx.tp 6 tR).ok w' r := by
  refine (Inst_any (d := 3) (t := tAll) (lm := [t3]) hT hl rfl (Nat.le_refl _) (by omega) (by rw [wt_tAll]; omega) (fun u hu => by
    rw [List.mem_singleton.1 hu, sz_t3, dp_t3, wt_t3]
    omega) (fun x hx _ => by
    have e : x = tLe := by
      have : [tLe] = [x] := hx
      injection this with h _
      exact h.symm
    rw [e]
    have : tLe.icp (subV tAll.vars [t3]) (fun _ => 0) = 3 := ic_tLe
    omega)).mono ?_
  rintro e w' ⟨v', er, rfl, hb, hR⟩
  rcases hR with ⟨hno, _⟩ | ⟨_, _, x, hx, hF⟩
  · exact absurd ⟨rfl, rfl, rfl⟩ hno
  · have e : x = tLe := by
      have : [tLe] = [x] := hx
      injection this with h _
      exact h.symm
    rw [e] at hF
    have e1 : tLe.isz (subV tAll.vars [t3]) (fun _ => 0) = 4 := is_tLe.1
    have e2 : tLe.idp (subV tAll.vars [t3]) (fun _ => 0) = 3 := is_tLe.2
    have e3 : tLe.inst (subV tAll.vars [t3]) (fun _ => 0) = tR := in_tLe
    rw [e1, e2, e3] at hF
    rcases hF with ⟨h, _⟩ | ⟨_, h, _⟩ | ⟨_, _, rfl, hI⟩
    · omega
    · omega
    · exact ⟨_, rfl, hb, v', rfl, hI.keep (fun k hk => ⟨hk.2.1, rfl⟩) (Nat.le_refl _)⟩
def kept5 : List Nat := [0, 1, 2, 3, 4, 5, 8, 9, 10, 11, 12, 13, 14, 15, 16, 17, 18, 19, 20, 21, 22, 23, 24, 25, 26, 27, 28, 29, 30, 31, 32, 33, 41, 42, 43, 44, 45, 46, 47, 48, 49, 50, 51, 52, 53, 54, 55, 56, 57, 58, 59, 60, 61, 62, 63, 64, 65, 66, 67, 68, 69, 70, 71, 72, 73, 74, 75, 76, 77, 78, 79, 80, 81, 82, 83, 84, 85, 86, 87, 88, 89, 90, 91, 92]
def sps5 (B : Nat) : List Mx := [.tm 3 tAll, .tm 2 t3, .ls 3 [t3], .tp 6 tR, .tp 6 tR, .ts 6 tR, .any, .bx B]
def pu5 (i : Nat) (v : Value) : Prop := (i = 4 → ∃ x, v = .tuple #[x, .int .i64 0]) ∧ (i = 6 ∨ i = 9 → v = .int .i64 0)
def J5 (B : Nat) (w0 w : World) (v : Value) : Prop := ∃ r, v = .pointer (some ⟨r, 0, none⟩) ∧ B ≤ r ∧ Below B w0 w ∧ TmS w w.heap.size 7 r 0 tR
set_option maxRecDepth 100000 in
set_option maxHeartbeats 4000000 in
theorem known_r5 {Q : Exit → Act → World → Prop} {a0 : Act} {w0 : World} {b2 : Nat} (hN : a0.tmps.size = 93) (h2 : a0.tmps[2]? = some (.pointer (some ⟨b2, 0, none⟩))) (hx : TmAt w0 w0.heap.size 4 b2 0 tAll)
    (hend : ∀ (a : Act) (w : World), a.defers = a0.defers → a.tmps.size = 93 → (∀ k, k ∈ kept5 → a.tmps[k]? = a0.tmps[k]?) → a.tmps.getD 7 undef = .int .i64 0 → J5 w0.heap.size w0 w (a.tmps.getD 6 undef) → Q .normal a w) :
    (Code.region 5 (regionOf Tryd.f4 5).toArray true).wp Tryd.prog Q a0 w0 := by
  have hD : Below w0.heap.size w0 w0.drew := (Below.refl _ w0).drew
  refine wp_region_any (by kernel_rfl) ?_
  refine one_store2 (l := regionOf Tryd.f4 5) (w0 := w0.drew) 93 w0.heap.size 8 7 kept5 [0, 1, 2, 3, 4, 5, 7] (fun i => ((sps5 w0.heap.size).getD i .any).ok) pu5 (J5 w0.heap.size w0) (by kernel_rfl) hN (Nat.le_refl _) (by decide) (by kernel_rfl) (by kernel_rfl) (by kernel_rfl) (by decide) (by decide) (by kernel_rfl) (fun i w w' v h hb => ((sps5 w0.heap.size).getD i .any).mono w w' v h hb) (fun _ => ⟨fun h => absurd h (by decide), fun h => absurd h (by decide)⟩) ?_ ?_ ?_ ?_
  · intro i hi a w hb hn hk hp
    have hb0 : Below w0.heap.size w0 w := hD.trans hb
    obtain ⟨v2, hld, hI2⟩ := (hx.more hb0 hb0.size (Nat.le_refl _)).load
    have k2 : a.eval (.tmp 2) = .pointer (some ⟨b2, 0, none⟩) := by
      have := (hk 2 (by decide)).trans h2
      simp [Act.eval, this]
    have hi' : i = 0 ∨ i = 1 ∨ i = 2 ∨ i = 3 ∨ i = 4 ∨ i = 5 ∨ i = 7 := by simpa using hi
    have pn : ∀ {i : Nat} {v : Value}, i ≠ 4 → i ≠ 6 → i ≠ 9 → pu5 i v := fun h1 h2 h3 => ⟨fun h => absurd h h1, fun h => by omega⟩
    rcases hi' with rfl | rfl | rfl | rfl | rfl | rfl | rfl
    · exact st_want (wnone rfl) (op_load k2 hld ⟨_, rfl, Below.refl _ _, hI2, pn (by decide) (by decide) (by decide)⟩)
    · refine st_want (wnone rfl) (op_call enter_n ?_)
      have hargs : (#[Operand.const (.string ⟨#[51]⟩)]).map a.eval = #[.string ⟨#[51]⟩] := by
        simp only [List.map_toArray, List.map_cons, List.map_nil, Act.eval]
      rw [hargs]
      refine (n_any ⟨#[51]⟩ w).mono ?_
      rintro e w' ⟨rfl, hb'⟩
      exact ⟨_, rfl, _, rfl, hb', isN _ w' _ 2, pn (by decide) (by decide) (by decide)⟩
    · exact st_want (wnone rfl) (op_bs1 (d := 2) (t := t3) (hp 1 rfl (by decide)) fun v w' h1 h2 => ⟨v, rfl, h1, h2, pn (by decide) (by decide) (by decide)⟩)
    · obtain ⟨al, cl, e, hR⟩ : (Mx.ls 3 [t3]).ok w (a.tmps.getD 37 undef) := hp 2 rfl (by decide)
      have hA : IsT w w.heap.size 3 (a.tmps.getD 35 undef) tAll := hp 0 rfl (by decide)
      refine st_want (wnone rfl) (op_call enter_Inst ?_)
      have hargs : (#[Operand.tmp 35, .tmp 37]).map a.eval = #[a.tmps.getD 35 undef, .slice al 1 cl] := by
        rw [args2, e]
        rfl
      rw [hargs]
      refine (inst_known hA hR).mono ?_
      rintro e w' ⟨r, rfl, hb', hr⟩
      exact ⟨_, rfl, _, rfl, hb', hr, pn (by decide) (by decide) (by decide)⟩
    · have h38 : (Mx.tp 6 tR).ok w (a.tmps.getD 38 undef) := hp 3 rfl (by decide)
      refine st_want (wnone rfl) (op_move ⟨_, rfl, Below.refl _ _, h38, fun _ => ?_, fun h => by omega⟩)
      obtain ⟨x, e, _⟩ := h38
      exact ⟨x, e⟩
    · obtain ⟨x, e, hx5⟩ : (Mx.tp 6 tR).ok w (a.tmps.getD 34 undef) := hp 4 rfl (by decide)
      exact st_want (wnone rfl) (op_extractA e rfl ⟨_, rfl, Below.refl _ _, hx5, pn (by decide) (by decide) (by decide)⟩)
    · exact st_want (wnone rfl) (op_box fun v w' h1 ⟨r, h2, h3, h4⟩ => ⟨v, rfl, h1, ⟨r, h2, Nat.le_trans hb0.size h3, h4⟩, pn (by decide) (by decide) (by decide)⟩)
  · intro i hi hi1 hi2 a w hn hk hp
    have hl : (regionOf Tryd.f4 5).length = 10 := by kernel_rfl
    rw [hl] at hi
    have hi1' : ¬ (i = 0 ∨ i = 1 ∨ i = 2 ∨ i = 3 ∨ i = 4 ∨ i = 5 ∨ i = 7) := by simpa using hi1
    have hi' : i = 6 ∨ i = 9 := by omega
    rcases hi' with rfl | rfl
    · obtain ⟨x, e⟩ : ∃ x, a.tmps.getD 34 undef = .tuple #[x, .int .i64 0] := (hp 4 rfl).1 rfl
      exact st_want (wnone rfl) (op_extractA e rfl ⟨_, rfl, rfl, ⟨fun h => absurd h (by decide), fun _ => rfl⟩⟩)
    · have e : a.tmps.getD 40 undef = .int .i64 0 := (hp 6 rfl).2 (.inl rfl)
      exact st_want (wnone rfl) (op_assign ⟨_, rfl, rfl, ⟨fun h => absurd h (by decide), fun _ => e⟩⟩)
  · intro a w hb hn hk hp
    have hb0 : Below w0.heap.size w0 w := hD.trans hb
    obtain ⟨r, e, hr, hz⟩ : (Mx.bx w0.heap.size).ok w (a.tmps.getD 6 undef) := hp 7 (by decide)
    have h39 : (Mx.ts 6 tR).ok w (a.tmps.getD 39 undef) := hp 5 (by decide)
    have h39' : (Mx.tm 6 tR).ok w (a.tmps.getD 39 undef) := IsP.isT (fun _ h => h) h39
    refine op_storeT (r := r) hz e h39' fun w' cs ecs hput hh => ⟨rfl, r, e, hr, ⟨hput.os.trans hb0.os, hput.tape.trans hb0.tape, hput.output.trans hb0.output, by rw [hput.size]; exact hb0.size, fun k hk => (hput.block k (by omega)).trans (hb0.block k hk)⟩, ?_⟩
    have hI : IsP w (LT w.heap.size) 6 (a.tmps.getD 39 undef) tR := h39
    rw [ecs] at hI
    exact hI.put hz nz_R hput hh
  · intro a w hd hn hk hpu hJ
    exact hend a w hd hn hk ((hpu 9 (by decide)).2 (.inr rfl)) hJ
end Go.Proofs.YtegmckpcchhmdaaDoor
