/- Patterns, checked. -/
import Derived.Test.YtiockiilenjjaaaDoorZAJ
set_option linter.unusedVariables false
set_option linter.unusedSimpArgs false

/- Patterns: what may stand in them, and the names in them. -/
namespace Go.Proofs.YtiockiilenjjaaaDoor
open Go Go.RowKit
theorem Tm.bare_eq (t : Tm) : t.bare = ((t.op == 1 || (decide (12 ≤ t.op) && decide (t.op ≤ 15)) || t.op == 17 || t.op == 18) && t.l.all Tm.bare) := by
  cases t
  rw [Tm.bare, List.all_map]
  rfl
theorem Tm.vn_eq (t : Tm) : t.vn = (if t.op = 18 then [t.name] else []) ++ (t.l.map Tm.vn).flatten := by
  cases t
  rw [Tm.vn]
def PP (m : Nat) (names : List ByteArray) (bare : Bool) (vn : List ByteArray) (w : World) (e : Ending) (w' : World) : Prop := e = .returned (.bool bare) ∧ (∃ ns, NM w' m (seenL ns) ∧ (bare = true → ns = names ++ vn)) ∧ But m w w'
def PatC (d : Nat) : Prop := ∀ (B m : Nat) (w : World) (b o : Nat) (t : Tm) (names : List ByteArray), TmAt w B d b o t → NM w m (seenL names) → B ≤ m → RL w →
    Calls Tryd.prog 114 #[.pointer (some ⟨b, o, none⟩), .map (some m)] w (PP m names t.bare t.vn w)
theorem op_bare {t : Tm} (h : (t.op == 1 || (decide (12 ≤ t.op) && decide (t.op ≤ 15)) || t.op == 17 || t.op == 18) = false) : t.bare = false := by rw [t.bare_eq, h]; rfl
theorem own_one {k : Nat} (h1 : 4 ≤ k) (h2 : k ≤ 16) : (opOwn k != 1) = !(decide (12 ≤ k) && decide (k ≤ 15)) := by
  unfold opOwn
  by_cases h16 : k = 16
  · subst h16; rfl
  · rw [if_neg h16]
    by_cases h11 : k ≤ 11
    · rw [if_pos h11]
      have : decide (12 ≤ k) = false := by simp; omega
      rw [this]; rfl
    · rw [if_neg h11]
      have e1 : decide (12 ≤ k) = true := by simp; omega
      have e2 : decide (k ≤ 15) = true := by simp; omega
      rw [e1, e2]; rfl
set_option maxRecDepth 1000000 in
set_option maxHeartbeats 16000000 in
theorem pat_numeral {d : Nat} (ih : PatC d) {B m : Nat} {w : World} {b o : Nat} {t : Tm} {names : List ByteArray} (hT : TmAt w B (d + 1) b o t) (hM : NM w m (seenL names)) (hBm : B ≤ m) (hR : RL w) (hop : t.op = 1) :
    Calls Tryd.prog 114 #[.pointer (some ⟨b, o, none⟩), .map (some m)] w (PP m names t.bare t.vn w) := by
  have HIH := hide ih
  obtain ⟨hb, _, _, aL, aV, aP, cL, cV, cP, hrg, hL, hV, hP, _⟩ := hT
  have hmw := hM.lt
  have hbw : b < w.heap.size := by omega
  have hB0 : 0 < B := by omega
  have h0w : 0 < w.heap.size := by omega
  have hLm : t.l.length ≤ 281474976710656 := by have := hL.1; have := hL.2.1; omega
  have c0 : w.cell? ⟨b, o, none⟩ = some (.int .i64 t.op) := hrg 0 _ rfl
  have c1 : w.cell? ⟨b, o + 1, none⟩ = some (.string t.name) := hrg 1 _ rfl
  have c4 : w.cell? ⟨b, o + 4, none⟩ = some (.slice aL t.l.length cL) := hrg 4 _ rfl
  obtain ⟨n, hn⟩ : ∃ n, t.l.length = n := ⟨_, rfl⟩
  have HN := hide hn
  rw [hn] at c4 hLm hL
  have HC4 := hide c4
  have HRow := hide hL
  have HR := hide hR
  have HM := hide hM
  clear ih hrg hL hV hP hR hM hn
  have ta0 := fun w => ta_no (k := 125) (ty := 109) (v := .agg #[.pointer (some ⟨b, o, none⟩)]) (z := .agg #[.pointer none]) (w := w) (by decide) rfl rfl (by go_simp)
  have ta1 := fun w => ta_no (k := 125) (ty := 159) (v := .agg #[.pointer (some ⟨b, o, none⟩)]) (z := .agg #[.pointer none]) (w := w) (by decide) rfl rfl (by go_simp)
  have ta2 := fun w => ta_no (k := 125) (ty := 158) (v := .agg #[.pointer (some ⟨b, o, none⟩)]) (z := .agg #[.pointer none]) (w := w) (by decide) rfl rfl (by go_simp)
  have ta3 := fun w => ta_no (k := 125) (ty := 112) (v := .agg #[.pointer (some ⟨b, o, none⟩)]) (z := .agg #[.pointer none]) (w := w) (by decide) rfl rfl (by go_simp)
  have ta4 := fun w => ta_no (k := 125) (ty := 161) (v := .agg #[.pointer (some ⟨b, o, none⟩)]) (z := .agg #[.pointer none]) (w := w) (by decide) rfl rfl (by go_simp)
  have HOpB := hide (show (t.op == 1 || (decide (12 ≤ t.op) && decide (t.op ≤ 15)) || t.op == 17 || t.op == 18) = true by rw [hop]; rfl)
  have HNs : Hid ((if t.op = 18 then [t.name] else []) = ([] : List ByteArray)) := by show _ = _; rw [if_neg (by omega)]
  have hkk : kindOf t.op = 125 := by rw [hop]; rfl
  clear hop
  go_enter Tryd.func114, Tryd.ntmps114
  go_wp2_with fail
  refine (view_any b o t.op w c0 hbw).mono ?_
  rintro e w1 ⟨rfl, hb1⟩
  rw [hkk]
  obtain ⟨U, eU, hbU⟩ : ∃ U, ((((w1.alloc (.cells #[.pointer none] 109)).alloc (.cells #[.pointer none] 159)).alloc (.cells #[.pointer none] 158)).alloc (.cells #[.pointer none] 112)).alloc (.cells #[.pointer none] 161) = U ∧ Below w.heap.size w U := ⟨_, rfl, five hb1 hb1.size _ _ _ _ _⟩
  have e4 := fun x y z u s => ((five hb1 hb1.size x y z u s).cell (p := ⟨b, o + 4, none⟩) hbw).trans (unhide HC4)
  have HB1 := hide hb1
  have HU := hide (And.intro ((unhide HM).below hbU hmw) (show But m w U from But.of hbU (Nat.le_refl _)))
  rw [← eU] at HU
  obtain ⟨ns0, hns0⟩ : ∃ ns0, names = ns0 := ⟨_, rfl⟩
  subst hns0
  clear hkk c0 c1 c4 hb1 hbU eU
  go_wp2
  go_loopw [74] (fun iv wr => ∃ i : Nat, i ≤ n ∧ iv = .int .i64 (i : Int) ∧ ((t.l.take i).all Tm.bare) = true ∧ NM wr m (seenL (names ++ ((t.l.take i).map Tm.vn).flatten)) ∧ But m w wr) (fun iv _ => (n - (intOf iv).toNat))
  case atStart => exact ⟨0, Nat.zero_le _, rfl, rfl, by simpa using (unhide HU).1, (unhide HU).2⟩
  case round =>
    obtain ⟨i, hi, rfl, hok, hNMi, hbut⟩ := hrel
    by_cases hlt : i < n
    · have h1 : i < t.l.length := by have := unhide HN; omega
      have hd1 : decide ((i : Int) < (n : Int)) = true := by simp; omega
      have hXi : (i : Int) < (n : Int) := by omega
      have hcap : (i : Int) < 281474976710656 := by omega
      have hbel : Below B w wr := hbut.below hBm (by omega)
      have c4i : wr.cell? ⟨b, o + 4, none⟩ = some (.slice aL n cL) := (hbel.cell (p := ⟨b, o + 4, none⟩) hb).trans (unhide HC4)
      obtain ⟨b', off, rfl, hbB', hj⟩ := (unhide HRow).2.2 (by omega)
      have hA := (hj i hlt _ (List.getElem?_eq_getElem h1)).more hbel (Nat.le_refl _) (Nat.le_refl _)
      have HCall := hide (unhide HIH B m wr b' (off + i * 7) t.l[i] _ hA hNMi hBm ((unhide HR).below hbel hB0))
      have htk : ((t.l.take (i + 1)).all Tm.bare) = (((t.l.take i).all Tm.bare) && t.l[i].bare) := by rw [take_more h1, List.all_append]; simp
      have hvn : names ++ ((t.l.take (i + 1)).map Tm.vn).flatten = (names ++ ((t.l.take i).map Tm.vn).flatten) ++ t.l[i].vn := by rw [take_more h1, List.map_append, List.flatten_append]; simp
      have hno : t.l[i].bare = false → t.l.all Tm.bare = false := fun h => by rw [List.all_eq_false]; exact ⟨_, List.getElem_mem h1, by rw [h]; decide⟩
      have HP := hide (And.intro hok (And.intro htk (And.intro hvn (And.intro hno hbut))))
      clear hj hA hok htk hvn hno hNMi hbut hbel
      cases hq : t.l[i].bare with
      | true =>
        rw [hq] at HCall
        have HQ := hide hq
        clear hq
        go_wp2_with fail
        refine (unhide HCall).mono ?_
        rintro e w4 ⟨rfl, h4, h5⟩
        have H4 := hide (And.intro h4 h5)
        clear h4 h5
        go_wp2
        obtain ⟨hok, htk, hvn, _, hbut⟩ := unhide HP
        obtain ⟨⟨ns, hns, hnse⟩, h5⟩ := unhide H4
        refine ⟨⟨i + 1, by omega, rfl, by rw [htk, hok, unhide HQ]; rfl, ?_, hbut.trans h5⟩, by simp only [intOf]; omega⟩
        rw [hvn, ← hnse (by first | rfl | trivial)]
        exact hns
      | false =>
        rw [hq] at HCall
        have HQ := hide hq
        clear hq
        go_wp2_with fail
        refine (unhide HCall).mono ?_
        rintro e w4 ⟨rfl, h4, h5⟩
        have H4 := hide (And.intro h4 h5)
        clear h4 h5
        go_wp2
        go_ret
        obtain ⟨hok, htk, hvn, hno, hbut⟩ := unhide HP
        obtain ⟨⟨ns, hns, hnse⟩, h5⟩ := unhide H4
        have hbf : t.bare = false := by rw [t.bare_eq, hno (unhide HQ), Bool.and_false]
        exact ⟨by rw [hbf]; rfl, ⟨ns, hns, fun h => by rw [hbf] at h; cases h⟩, hbut.trans h5⟩
    · have hin : i = n := by omega
      have hd1 : decide ((i : Int) < (n : Int)) = false := by simp; omega
      have htake : t.l.take i = t.l := List.take_of_length_le (by have := unhide HN; omega)
      rw [htake] at hok hNMi
      have HF := hide (And.intro hok (And.intro hNMi hbut))
      clear htake hok hNMi hbut hin
      go_wp2
      go_ret
      obtain ⟨hok, hNMi, hbut⟩ := unhide HF
      have hbt : t.bare = true := by rw [t.bare_eq, hok, unhide HOpB]; rfl
      refine ⟨by rw [hbt]; rfl, ⟨_, hNMi, fun _ => ?_⟩, hbut⟩
      rw [t.vn_eq, unhide HNs]
      simp
set_option maxRecDepth 1000000 in
set_option maxHeartbeats 16000000 in
theorem pat_application {d : Nat} (ih : PatC d) {B m : Nat} {w : World} {b o : Nat} {t : Tm} {names : List ByteArray} (hT : TmAt w B (d + 1) b o t) (hM : NM w m (seenL names)) (hBm : B ≤ m) (hR : RL w) (hop : t.op = 17) :
    Calls Tryd.prog 114 #[.pointer (some ⟨b, o, none⟩), .map (some m)] w (PP m names t.bare t.vn w) := by
  have HIH := hide ih
  obtain ⟨hb, _, _, aL, aV, aP, cL, cV, cP, hrg, hL, hV, hP, _⟩ := hT
  have hmw := hM.lt
  have hbw : b < w.heap.size := by omega
  have hB0 : 0 < B := by omega
  have h0w : 0 < w.heap.size := by omega
  have hLm : t.l.length ≤ 281474976710656 := by have := hL.1; have := hL.2.1; omega
  have c0 : w.cell? ⟨b, o, none⟩ = some (.int .i64 t.op) := hrg 0 _ rfl
  have c1 : w.cell? ⟨b, o + 1, none⟩ = some (.string t.name) := hrg 1 _ rfl
  have c4 : w.cell? ⟨b, o + 4, none⟩ = some (.slice aL t.l.length cL) := hrg 4 _ rfl
  obtain ⟨n, hn⟩ : ∃ n, t.l.length = n := ⟨_, rfl⟩
  have HN := hide hn
  rw [hn] at c4 hLm hL
  have HC4 := hide c4
  have HRow := hide hL
  have HR := hide hR
  have HM := hide hM
  clear ih hrg hL hV hP hR hM hn
  have ta0 := fun w => ta_no (k := 160) (ty := 109) (v := .agg #[.pointer (some ⟨b, o, none⟩)]) (z := .agg #[.pointer none]) (w := w) (by decide) rfl rfl (by go_simp)
  have ta1 := fun w => ta_no (k := 160) (ty := 159) (v := .agg #[.pointer (some ⟨b, o, none⟩)]) (z := .agg #[.pointer none]) (w := w) (by decide) rfl rfl (by go_simp)
  have ta2 := fun w => ta_no (k := 160) (ty := 158) (v := .agg #[.pointer (some ⟨b, o, none⟩)]) (z := .agg #[.pointer none]) (w := w) (by decide) rfl rfl (by go_simp)
  have ta3 := fun w => ta_no (k := 160) (ty := 112) (v := .agg #[.pointer (some ⟨b, o, none⟩)]) (z := .agg #[.pointer none]) (w := w) (by decide) rfl rfl (by go_simp)
  have ta4 := fun w => ta_no (k := 160) (ty := 161) (v := .agg #[.pointer (some ⟨b, o, none⟩)]) (z := .agg #[.pointer none]) (w := w) (by decide) rfl rfl (by go_simp)
  have HOpB := hide (show (t.op == 1 || (decide (12 ≤ t.op) && decide (t.op ≤ 15)) || t.op == 17 || t.op == 18) = true by rw [hop]; rfl)
  have HNs : Hid ((if t.op = 18 then [t.name] else []) = ([] : List ByteArray)) := by show _ = _; rw [if_neg (by omega)]
  have hkk : kindOf t.op = 160 := by rw [hop]; rfl
  clear hop
  go_enter Tryd.func114, Tryd.ntmps114
  go_wp2_with fail
  refine (view_any b o t.op w c0 hbw).mono ?_
  rintro e w1 ⟨rfl, hb1⟩
  rw [hkk]
  obtain ⟨U, eU, hbU⟩ : ∃ U, ((((w1.alloc (.cells #[.pointer none] 109)).alloc (.cells #[.pointer none] 159)).alloc (.cells #[.pointer none] 158)).alloc (.cells #[.pointer none] 112)).alloc (.cells #[.pointer none] 161) = U ∧ Below w.heap.size w U := ⟨_, rfl, five hb1 hb1.size _ _ _ _ _⟩
  have e4 := fun x y z u s => ((five hb1 hb1.size x y z u s).cell (p := ⟨b, o + 4, none⟩) hbw).trans (unhide HC4)
  have HB1 := hide hb1
  have HU := hide (And.intro ((unhide HM).below hbU hmw) (show But m w U from But.of hbU (Nat.le_refl _)))
  rw [← eU] at HU
  obtain ⟨ns0, hns0⟩ : ∃ ns0, names = ns0 := ⟨_, rfl⟩
  subst hns0
  clear hkk c0 c1 c4 hb1 hbU eU
  go_wp2
  go_loopw [74] (fun iv wr => ∃ i : Nat, i ≤ n ∧ iv = .int .i64 (i : Int) ∧ ((t.l.take i).all Tm.bare) = true ∧ NM wr m (seenL (names ++ ((t.l.take i).map Tm.vn).flatten)) ∧ But m w wr) (fun iv _ => (n - (intOf iv).toNat))
  case atStart => exact ⟨0, Nat.zero_le _, rfl, rfl, by simpa using (unhide HU).1, (unhide HU).2⟩
  case round =>
    obtain ⟨i, hi, rfl, hok, hNMi, hbut⟩ := hrel
    by_cases hlt : i < n
    · have h1 : i < t.l.length := by have := unhide HN; omega
      have hd1 : decide ((i : Int) < (n : Int)) = true := by simp; omega
      have hXi : (i : Int) < (n : Int) := by omega
      have hcap : (i : Int) < 281474976710656 := by omega
      have hbel : Below B w wr := hbut.below hBm (by omega)
      have c4i : wr.cell? ⟨b, o + 4, none⟩ = some (.slice aL n cL) := (hbel.cell (p := ⟨b, o + 4, none⟩) hb).trans (unhide HC4)
      obtain ⟨b', off, rfl, hbB', hj⟩ := (unhide HRow).2.2 (by omega)
      have hA := (hj i hlt _ (List.getElem?_eq_getElem h1)).more hbel (Nat.le_refl _) (Nat.le_refl _)
      have HCall := hide (unhide HIH B m wr b' (off + i * 7) t.l[i] _ hA hNMi hBm ((unhide HR).below hbel hB0))
      have htk : ((t.l.take (i + 1)).all Tm.bare) = (((t.l.take i).all Tm.bare) && t.l[i].bare) := by rw [take_more h1, List.all_append]; simp
      have hvn : names ++ ((t.l.take (i + 1)).map Tm.vn).flatten = (names ++ ((t.l.take i).map Tm.vn).flatten) ++ t.l[i].vn := by rw [take_more h1, List.map_append, List.flatten_append]; simp
      have hno : t.l[i].bare = false → t.l.all Tm.bare = false := fun h => by rw [List.all_eq_false]; exact ⟨_, List.getElem_mem h1, by rw [h]; decide⟩
      have HP := hide (And.intro hok (And.intro htk (And.intro hvn (And.intro hno hbut))))
      clear hj hA hok htk hvn hno hNMi hbut hbel
      cases hq : t.l[i].bare with
      | true =>
        rw [hq] at HCall
        have HQ := hide hq
        clear hq
        go_wp2_with fail
        refine (unhide HCall).mono ?_
        rintro e w4 ⟨rfl, h4, h5⟩
        have H4 := hide (And.intro h4 h5)
        clear h4 h5
        go_wp2
        obtain ⟨hok, htk, hvn, _, hbut⟩ := unhide HP
        obtain ⟨⟨ns, hns, hnse⟩, h5⟩ := unhide H4
        refine ⟨⟨i + 1, by omega, rfl, by rw [htk, hok, unhide HQ]; rfl, ?_, hbut.trans h5⟩, by simp only [intOf]; omega⟩
        rw [hvn, ← hnse (by first | rfl | trivial)]
        exact hns
      | false =>
        rw [hq] at HCall
        have HQ := hide hq
        clear hq
        go_wp2_with fail
        refine (unhide HCall).mono ?_
        rintro e w4 ⟨rfl, h4, h5⟩
        have H4 := hide (And.intro h4 h5)
        clear h4 h5
        go_wp2
        go_ret
        obtain ⟨hok, htk, hvn, hno, hbut⟩ := unhide HP
        obtain ⟨⟨ns, hns, hnse⟩, h5⟩ := unhide H4
        have hbf : t.bare = false := by rw [t.bare_eq, hno (unhide HQ), Bool.and_false]
        exact ⟨by rw [hbf]; rfl, ⟨ns, hns, fun h => by rw [hbf] at h; cases h⟩, hbut.trans h5⟩
    · have hin : i = n := by omega
      have hd1 : decide ((i : Int) < (n : Int)) = false := by simp; omega
      have htake : t.l.take i = t.l := List.take_of_length_le (by have := unhide HN; omega)
      rw [htake] at hok hNMi
      have HF := hide (And.intro hok (And.intro hNMi hbut))
      clear htake hok hNMi hbut hin
      go_wp2
      go_ret
      obtain ⟨hok, hNMi, hbut⟩ := unhide HF
      have hbt : t.bare = true := by rw [t.bare_eq, hok, unhide HOpB]; rfl
      refine ⟨by rw [hbt]; rfl, ⟨_, hNMi, fun _ => ?_⟩, hbut⟩
      rw [t.vn_eq, unhide HNs]
      simp
set_option maxRecDepth 1000000 in
set_option maxHeartbeats 16000000 in
theorem pat_operation {d : Nat} (ih : PatC d) {B m : Nat} {w : World} {b o : Nat} {t : Tm} {names : List ByteArray} (hT : TmAt w B (d + 1) b o t) (hM : NM w m (seenL names)) (hBm : B ≤ m) (hR : RL w) {k : Nat} (hop : t.op = (k : Int)) (hk1 : 12 ≤ k) (hk2 : k ≤ 15) :
    Calls Tryd.prog 114 #[.pointer (some ⟨b, o, none⟩), .map (some m)] w (PP m names t.bare t.vn w) := by
  have HIH := hide ih
  obtain ⟨hb, _, _, aL, aV, aP, cL, cV, cP, hrg, hL, hV, hP, _⟩ := hT
  have hmw := hM.lt
  have hbw : b < w.heap.size := by omega
  have hB0 : 0 < B := by omega
  have h0w : 0 < w.heap.size := by omega
  have hLm : t.l.length ≤ 281474976710656 := by have := hL.1; have := hL.2.1; omega
  have c0 : w.cell? ⟨b, o, none⟩ = some (.int .i64 t.op) := hrg 0 _ rfl
  have c1 : w.cell? ⟨b, o + 1, none⟩ = some (.string t.name) := hrg 1 _ rfl
  have c4 : w.cell? ⟨b, o + 4, none⟩ = some (.slice aL t.l.length cL) := hrg 4 _ rfl
  obtain ⟨n, hn⟩ : ∃ n, t.l.length = n := ⟨_, rfl⟩
  have HN := hide hn
  rw [hn] at c4 hLm hL
  have HC4 := hide c4
  have HRow := hide hL
  have HR := hide hR
  have HM := hide hM
  clear ih hrg hL hV hP hR hM hn
  have ta0 := fun w => ta_no (k := 159) (ty := 109) (v := .agg #[.pointer (some ⟨b, o, none⟩)]) (z := .agg #[.pointer none]) (w := w) (by decide) rfl rfl (by go_simp)
  have ta1 := fun w => ta_yes (ty := 159) (v := .agg #[.pointer (some ⟨b, o, none⟩)]) (w := w) rfl rfl
  have ta2 := fun w => ta_no (k := 159) (ty := 158) (v := .agg #[.pointer (some ⟨b, o, none⟩)]) (z := .agg #[.pointer none]) (w := w) (by decide) rfl rfl (by go_simp)
  have ta3 := fun w => ta_no (k := 159) (ty := 112) (v := .agg #[.pointer (some ⟨b, o, none⟩)]) (z := .agg #[.pointer none]) (w := w) (by decide) rfl rfl (by go_simp)
  have ta4 := fun w => ta_no (k := 159) (ty := 161) (v := .agg #[.pointer (some ⟨b, o, none⟩)]) (z := .agg #[.pointer none]) (w := w) (by decide) rfl rfl (by go_simp)
  have HOpB := hide (show (t.op == 1 || (decide (12 ≤ t.op) && decide (t.op ≤ 15)) || t.op == 17 || t.op == 18) = true by
    have e1 : decide (12 ≤ t.op) = true := by simp; omega
    have e2 : decide (t.op ≤ 15) = true := by simp; omega
    rw [e1, e2]; simp)
  have HNs : Hid ((if t.op = 18 then [t.name] else []) = ([] : List ByteArray)) := by show _ = _; rw [if_neg (by omega)]
  have hkk : kindOf t.op = 159 := by
    rcases op_kind (op := t.op) with ⟨h, e⟩ | ⟨h, e⟩ | ⟨h, e⟩ | ⟨h, e⟩ | ⟨h, e⟩ | ⟨h, e⟩ | ⟨h, e⟩ <;> first | exact e | omega
  have hki : (k : Int) < 17 := by omega
  have hown : (opOwn k != 1) = false := by
    rw [own_one (by omega) (by omega)]
    have e1 : decide (12 ≤ k) = true := by simp; omega
    have e2 : decide (k ≤ 15) = true := by simp; omega
    rw [e1, e2]; rfl
  rw [hop] at c0
  have HRk := hide ((unhide HR) k (by omega) (by omega)).2.2.2
  have HOp := hide hop
  go_enter Tryd.func114, Tryd.ntmps114
  go_wp2_with fail
  refine (view_any b o (k : Int) w c0 hbw).mono ?_
  rw [← hop]
  rintro e w1 ⟨rfl, hb1⟩
  rw [hkk]
  obtain ⟨U, eU, hbU⟩ : ∃ U, ((((w1.alloc (.cells #[.pointer none] 109)).alloc (.cells #[.pointer (some ⟨b, o, none⟩)] 159)).alloc (.cells #[.pointer none] 158)).alloc (.cells #[.pointer none] 112)).alloc (.cells #[.pointer none] 161) = U ∧ Below w.heap.size w U := ⟨_, rfl, five hb1 hb1.size _ _ _ _ _⟩
  have e4 := fun x y z u s => ((five hb1 hb1.size x y z u s).cell (p := ⟨b, o + 4, none⟩) hbw).trans (unhide HC4)
  have e0 := fun x y => (((hb1.alloc hb1.size x).alloc (by have := hb1.size; simp; omega) y).cell (p := ⟨b, o, none⟩) hbw).trans c0
  have er := fun x y => (((hb1.alloc hb1.size x).alloc (by have := hb1.size; simp; omega) y).cell (p := ⟨0, k * 4 + 3, none⟩) h0w).trans (unhide HRk)
  generalize opOwn k = oo at *
  clear hk1 hk2
  have HB1 := hide hb1
  have HU := hide (And.intro ((unhide HM).below hbU hmw) (show But m w U from But.of hbU (Nat.le_refl _)))
  rw [← eU] at HU
  obtain ⟨ns0, hns0⟩ : ∃ ns0, names = ns0 := ⟨_, rfl⟩
  subst hns0
  clear hkk c0 c1 c4 hb1 hbU eU hop
  go_wp2
  go_loopw [74] (fun iv wr => ∃ i : Nat, i ≤ n ∧ iv = .int .i64 (i : Int) ∧ ((t.l.take i).all Tm.bare) = true ∧ NM wr m (seenL (names ++ ((t.l.take i).map Tm.vn).flatten)) ∧ But m w wr) (fun iv _ => (n - (intOf iv).toNat))
  case atStart => exact ⟨0, Nat.zero_le _, rfl, rfl, by simpa using (unhide HU).1, (unhide HU).2⟩
  case round =>
    obtain ⟨i, hi, rfl, hok, hNMi, hbut⟩ := hrel
    by_cases hlt : i < n
    · have h1 : i < t.l.length := by have := unhide HN; omega
      have hd1 : decide ((i : Int) < (n : Int)) = true := by simp; omega
      have hXi : (i : Int) < (n : Int) := by omega
      have hcap : (i : Int) < 281474976710656 := by omega
      have hbel : Below B w wr := hbut.below hBm (by omega)
      have c4i : wr.cell? ⟨b, o + 4, none⟩ = some (.slice aL n cL) := (hbel.cell (p := ⟨b, o + 4, none⟩) hb).trans (unhide HC4)
      obtain ⟨b', off, rfl, hbB', hj⟩ := (unhide HRow).2.2 (by omega)
      have hA := (hj i hlt _ (List.getElem?_eq_getElem h1)).more hbel (Nat.le_refl _) (Nat.le_refl _)
      have HCall := hide (unhide HIH B m wr b' (off + i * 7) t.l[i] _ hA hNMi hBm ((unhide HR).below hbel hB0))
      have htk : ((t.l.take (i + 1)).all Tm.bare) = (((t.l.take i).all Tm.bare) && t.l[i].bare) := by rw [take_more h1, List.all_append]; simp
      have hvn : names ++ ((t.l.take (i + 1)).map Tm.vn).flatten = (names ++ ((t.l.take i).map Tm.vn).flatten) ++ t.l[i].vn := by rw [take_more h1, List.map_append, List.flatten_append]; simp
      have hno : t.l[i].bare = false → t.l.all Tm.bare = false := fun h => by rw [List.all_eq_false]; exact ⟨_, List.getElem_mem h1, by rw [h]; decide⟩
      have HP := hide (And.intro hok (And.intro htk (And.intro hvn (And.intro hno hbut))))
      clear hj hA hok htk hvn hno hNMi hbut hbel
      cases hq : t.l[i].bare with
      | true =>
        rw [hq] at HCall
        have HQ := hide hq
        clear hq
        go_wp2_with fail
        refine (unhide HCall).mono ?_
        rintro e w4 ⟨rfl, h4, h5⟩
        have H4 := hide (And.intro h4 h5)
        clear h4 h5
        go_wp2
        obtain ⟨hok, htk, hvn, _, hbut⟩ := unhide HP
        obtain ⟨⟨ns, hns, hnse⟩, h5⟩ := unhide H4
        refine ⟨⟨i + 1, by omega, rfl, by rw [htk, hok, unhide HQ]; rfl, ?_, hbut.trans h5⟩, by simp only [intOf]; omega⟩
        rw [hvn, ← hnse (by first | rfl | trivial)]
        exact hns
      | false =>
        rw [hq] at HCall
        have HQ := hide hq
        clear hq
        go_wp2_with fail
        refine (unhide HCall).mono ?_
        rintro e w4 ⟨rfl, h4, h5⟩
        have H4 := hide (And.intro h4 h5)
        clear h4 h5
        go_wp2
        go_ret
        obtain ⟨hok, htk, hvn, hno, hbut⟩ := unhide HP
        obtain ⟨⟨ns, hns, hnse⟩, h5⟩ := unhide H4
        have hbf : t.bare = false := by rw [t.bare_eq, hno (unhide HQ), Bool.and_false]
        exact ⟨by rw [hbf]; rfl, ⟨ns, hns, fun h => by rw [hbf] at h; cases h⟩, hbut.trans h5⟩
    · have hin : i = n := by omega
      have hd1 : decide ((i : Int) < (n : Int)) = false := by simp; omega
      have htake : t.l.take i = t.l := List.take_of_length_le (by have := unhide HN; omega)
      rw [htake] at hok hNMi
      have HF := hide (And.intro hok (And.intro hNMi hbut))
      clear htake hok hNMi hbut hin
      go_wp2
      go_ret
      obtain ⟨hok, hNMi, hbut⟩ := unhide HF
      have hbt : t.bare = true := by rw [t.bare_eq, hok, unhide HOpB]; rfl
      refine ⟨by rw [hbt]; rfl, ⟨_, hNMi, fun _ => ?_⟩, hbut⟩
      rw [t.vn_eq, unhide HNs]
      simp
set_option maxRecDepth 1000000 in
set_option maxHeartbeats 16000000 in
theorem pat_variable {d : Nat} (ih : PatC d) {B m : Nat} {w : World} {b o : Nat} {t : Tm} {names : List ByteArray} (hT : TmAt w B (d + 1) b o t) (hM : NM w m (seenL names)) (hBm : B ≤ m) (hR : RL w) (hop : t.op = 18) :
    Calls Tryd.prog 114 #[.pointer (some ⟨b, o, none⟩), .map (some m)] w (PP m names t.bare t.vn w) := by
  have HIH := hide ih
  obtain ⟨hb, _, _, aL, aV, aP, cL, cV, cP, hrg, hL, hV, hP, _⟩ := hT
  have hmw := hM.lt
  have hbw : b < w.heap.size := by omega
  have hB0 : 0 < B := by omega
  have h0w : 0 < w.heap.size := by omega
  have hLm : t.l.length ≤ 281474976710656 := by have := hL.1; have := hL.2.1; omega
  have c0 : w.cell? ⟨b, o, none⟩ = some (.int .i64 t.op) := hrg 0 _ rfl
  have c1 : w.cell? ⟨b, o + 1, none⟩ = some (.string t.name) := hrg 1 _ rfl
  have c4 : w.cell? ⟨b, o + 4, none⟩ = some (.slice aL t.l.length cL) := hrg 4 _ rfl
  obtain ⟨n, hn⟩ : ∃ n, t.l.length = n := ⟨_, rfl⟩
  have HN := hide hn
  rw [hn] at c4 hLm hL
  have HC4 := hide c4
  have HRow := hide hL
  have HR := hide hR
  have HM := hide hM
  clear ih hrg hL hV hP hR hM hn
  have ta0 := fun w => ta_yes (ty := 109) (v := .agg #[.pointer (some ⟨b, o, none⟩)]) (w := w) rfl rfl
  have ta1 := fun w => ta_no (k := 109) (ty := 159) (v := .agg #[.pointer (some ⟨b, o, none⟩)]) (z := .agg #[.pointer none]) (w := w) (by decide) rfl rfl (by go_simp)
  have ta2 := fun w => ta_no (k := 109) (ty := 158) (v := .agg #[.pointer (some ⟨b, o, none⟩)]) (z := .agg #[.pointer none]) (w := w) (by decide) rfl rfl (by go_simp)
  have ta3 := fun w => ta_no (k := 109) (ty := 112) (v := .agg #[.pointer (some ⟨b, o, none⟩)]) (z := .agg #[.pointer none]) (w := w) (by decide) rfl rfl (by go_simp)
  have ta4 := fun w => ta_no (k := 109) (ty := 161) (v := .agg #[.pointer (some ⟨b, o, none⟩)]) (z := .agg #[.pointer none]) (w := w) (by decide) rfl rfl (by go_simp)
  have HOpB := hide (show (t.op == 1 || (decide (12 ≤ t.op) && decide (t.op ≤ 15)) || t.op == 17 || t.op == 18) = true by rw [hop]; rfl)
  have HNs : Hid ((if t.op = 18 then [t.name] else []) = [t.name]) := by show _ = _; rw [if_pos hop]
  have hkk : kindOf t.op = 109 := by rw [hop]; rfl
  clear hop
  go_enter Tryd.func114, Tryd.ntmps114
  go_wp2_with fail
  refine (view_any b o t.op w c0 hbw).mono ?_
  rintro e w1 ⟨rfl, hb1⟩
  rw [hkk]
  obtain ⟨V, eV, hbV, hsV, hcV, hhV⟩ := box_new w1 #[.pointer (some ⟨b, o, none⟩)] 109
  have hbwV : Below w.heap.size w V := hb1.trans (hbV.mono hb1.size)
  have v0 : V.cell? ⟨w1.heap.size, 0, none⟩ = some (.pointer (some ⟨b, o, none⟩)) := hcV 0 _ rfl
  have v1 : V.cell? ⟨b, o + 1, none⟩ = some (.string t.name) := (hbwV.cell (p := ⟨b, o + 1, none⟩) hbw).trans c1
  obtain ⟨W, hrun, hput, hNMW⟩ := nm_update (P := Tryd.prog) (k := t.name) (v := .agg #[]) umU ukS ((unhide HM).below hbwV hmw)
  have hbutW : But m w W := by
    refine (But.of hbwV (Nat.le_refl _)).trans ⟨hput.os, hput.tape, hput.output, by rw [hput.size]; exact Nat.le_refl _, fun k _ hk => hput.block k hk⟩
  have hsWw : W.heap.size = V.heap.size := hput.size
  have hmW : m < W.heap.size := hNMW.lt
  rw [← seenL_snoc] at hNMW
  have hbW' : b < W.heap.size := by have := hbwV.size; omega
  have w4 : W.cell? ⟨b, o + 4, none⟩ = some (.slice aL n cL) := cell_but hbutW hbw (by omega) (unhide HC4)
  have e4 := fun x y z u => a4 hbW' w4 x y z u
  obtain ⟨ns0, hns0⟩ : ∃ ns0, names ++ [t.name] = ns0 := ⟨_, rfl⟩
  rw [hns0] at hNMW
  have HNs0 := hide hns0
  have HU := hide (show NM ((((W.alloc (.cells #[.pointer none] 159)).alloc (.cells #[.pointer none] 158)).alloc (.cells #[.pointer none] 112)).alloc (.cells #[.pointer none] 161)) m (seenL ns0) ∧ But m w ((((W.alloc (.cells #[.pointer none] 159)).alloc (.cells #[.pointer none] 158)).alloc (.cells #[.pointer none] 112)).alloc (.cells #[.pointer none] 161)) from ⟨hNMW.below (four (Below.refl _ W) (Nat.le_refl _) _ _ _ _) hmW, hbutW.trans (But.of (four (Below.refl _ W) (Nat.le_refl _) _ _ _ _) (Nat.le_refl _))⟩)
  have HS := hide (And.intro hsWw hsV)
  clear hkk c0 c1 c4 hb1 hbV hsV hcV hhV hbwV hput hNMW hbutW hsWw hns0
  go_wp2
  go_loopw [74] (fun iv wr => ∃ i : Nat, i ≤ n ∧ iv = .int .i64 (i : Int) ∧ ((t.l.take i).all Tm.bare) = true ∧ NM wr m (seenL (ns0 ++ ((t.l.take i).map Tm.vn).flatten)) ∧ But m w wr) (fun iv _ => (n - (intOf iv).toNat))
  case atStart => exact ⟨0, Nat.zero_le _, rfl, rfl, by simpa using (unhide HU).1, (unhide HU).2⟩
  case round =>
    obtain ⟨i, hi, rfl, hok, hNMi, hbut⟩ := hrel
    by_cases hlt : i < n
    · have h1 : i < t.l.length := by have := unhide HN; omega
      have hd1 : decide ((i : Int) < (n : Int)) = true := by simp; omega
      have hXi : (i : Int) < (n : Int) := by omega
      have hcap : (i : Int) < 281474976710656 := by omega
      have hbel : Below B w wr := hbut.below hBm (by omega)
      have c4i : wr.cell? ⟨b, o + 4, none⟩ = some (.slice aL n cL) := (hbel.cell (p := ⟨b, o + 4, none⟩) hb).trans (unhide HC4)
      obtain ⟨b', off, rfl, hbB', hj⟩ := (unhide HRow).2.2 (by omega)
      have hA := (hj i hlt _ (List.getElem?_eq_getElem h1)).more hbel (Nat.le_refl _) (Nat.le_refl _)
      have HCall := hide (unhide HIH B m wr b' (off + i * 7) t.l[i] _ hA hNMi hBm ((unhide HR).below hbel hB0))
      have htk : ((t.l.take (i + 1)).all Tm.bare) = (((t.l.take i).all Tm.bare) && t.l[i].bare) := by rw [take_more h1, List.all_append]; simp
      have hvn : ns0 ++ ((t.l.take (i + 1)).map Tm.vn).flatten = (ns0 ++ ((t.l.take i).map Tm.vn).flatten) ++ t.l[i].vn := by rw [take_more h1, List.map_append, List.flatten_append]; simp
      have hno : t.l[i].bare = false → t.l.all Tm.bare = false := fun h => by rw [List.all_eq_false]; exact ⟨_, List.getElem_mem h1, by rw [h]; decide⟩
      have HP := hide (And.intro hok (And.intro htk (And.intro hvn (And.intro hno hbut))))
      clear hj hA hok htk hvn hno hNMi hbut hbel
      cases hq : t.l[i].bare with
      | true =>
        rw [hq] at HCall
        have HQ := hide hq
        clear hq
        go_wp2_with fail
        refine (unhide HCall).mono ?_
        rintro e w4 ⟨rfl, h4, h5⟩
        have H4 := hide (And.intro h4 h5)
        clear h4 h5
        go_wp2
        obtain ⟨hok, htk, hvn, _, hbut⟩ := unhide HP
        obtain ⟨⟨ns, hns, hnse⟩, h5⟩ := unhide H4
        refine ⟨⟨i + 1, by omega, rfl, by rw [htk, hok, unhide HQ]; rfl, ?_, hbut.trans h5⟩, by simp only [intOf]; omega⟩
        rw [hvn, ← hnse (by first | rfl | trivial)]
        exact hns
      | false =>
        rw [hq] at HCall
        have HQ := hide hq
        clear hq
        go_wp2_with fail
        refine (unhide HCall).mono ?_
        rintro e w4 ⟨rfl, h4, h5⟩
        have H4 := hide (And.intro h4 h5)
        clear h4 h5
        go_wp2
        go_ret
        obtain ⟨hok, htk, hvn, hno, hbut⟩ := unhide HP
        obtain ⟨⟨ns, hns, hnse⟩, h5⟩ := unhide H4
        have hbf : t.bare = false := by rw [t.bare_eq, hno (unhide HQ), Bool.and_false]
        exact ⟨by rw [hbf]; rfl, ⟨ns, hns, fun h => by rw [hbf] at h; cases h⟩, hbut.trans h5⟩
    · have hin : i = n := by omega
      have hd1 : decide ((i : Int) < (n : Int)) = false := by simp; omega
      have htake : t.l.take i = t.l := List.take_of_length_le (by have := unhide HN; omega)
      rw [htake] at hok hNMi
      have HF := hide (And.intro hok (And.intro hNMi hbut))
      clear htake hok hNMi hbut hin
      go_wp2
      go_ret
      obtain ⟨hok, hNMi, hbut⟩ := unhide HF
      have hbt : t.bare = true := by rw [t.bare_eq, hok, unhide HOpB]; rfl
      refine ⟨by rw [hbt]; rfl, ⟨_, hNMi, fun _ => ?_⟩, hbut⟩
      rw [t.vn_eq, unhide HNs]
      rw [← unhide HNs0]; simp
set_option maxRecDepth 1000000 in
set_option maxHeartbeats 16000000 in
theorem pat_truth_no {d : Nat} (ih : PatC d) {B m : Nat} {w : World} {b o : Nat} {t : Tm} {names : List ByteArray} (hT : TmAt w B (d + 1) b o t) (hM : NM w m (seenL names)) (hBm : B ≤ m) (hR : RL w) (hop : t.op = 2 ∨ t.op = 3) :
    Calls Tryd.prog 114 #[.pointer (some ⟨b, o, none⟩), .map (some m)] w (PP m names t.bare t.vn w) := by
  have HIH := hide ih
  obtain ⟨hb, _, _, aL, aV, aP, cL, cV, cP, hrg, hL, hV, hP, _⟩ := hT
  have hmw := hM.lt
  have hbw : b < w.heap.size := by omega
  have hB0 : 0 < B := by omega
  have h0w : 0 < w.heap.size := by omega
  have hLm : t.l.length ≤ 281474976710656 := by have := hL.1; have := hL.2.1; omega
  have c0 : w.cell? ⟨b, o, none⟩ = some (.int .i64 t.op) := hrg 0 _ rfl
  have c1 : w.cell? ⟨b, o + 1, none⟩ = some (.string t.name) := hrg 1 _ rfl
  have c4 : w.cell? ⟨b, o + 4, none⟩ = some (.slice aL t.l.length cL) := hrg 4 _ rfl
  obtain ⟨n, hn⟩ : ∃ n, t.l.length = n := ⟨_, rfl⟩
  have HN := hide hn
  rw [hn] at c4 hLm hL
  have HC4 := hide c4
  have HRow := hide hL
  have HR := hide hR
  have HM := hide hM
  clear ih hrg hL hV hP hR hM hn
  have ta0 := fun w => ta_no (k := 158) (ty := 109) (v := .agg #[.pointer (some ⟨b, o, none⟩)]) (z := .agg #[.pointer none]) (w := w) (by decide) rfl rfl (by go_simp)
  have ta1 := fun w => ta_no (k := 158) (ty := 159) (v := .agg #[.pointer (some ⟨b, o, none⟩)]) (z := .agg #[.pointer none]) (w := w) (by decide) rfl rfl (by go_simp)
  have ta2 := fun w => ta_yes (ty := 158) (v := .agg #[.pointer (some ⟨b, o, none⟩)]) (w := w) rfl rfl
  have hbf : t.bare = false := op_bare (by
    have e1 : (t.op == 1) = false := by simp; omega
    have e2 : (t.op == 17) = false := by simp; omega
    have e3 : (t.op == 18) = false := by simp; omega
    have e4 : (decide (12 ≤ t.op) && decide (t.op ≤ 15)) = false := by
      by_cases h : 12 ≤ t.op
      · have : decide (t.op ≤ 15) = false := by simp; omega
        rw [this, Bool.and_false]
      · have : decide (12 ≤ t.op) = false := by simp; omega
        rw [this, Bool.false_and]
    rw [e1, e2, e3, e4]; rfl)
  have hkk : kindOf t.op = 158 := by
    rcases op_kind (op := t.op) with ⟨h, e⟩ | ⟨h, e⟩ | ⟨h, e⟩ | ⟨h, e⟩ | ⟨h, e⟩ | ⟨h, e⟩ | ⟨h, e⟩ <;> first | exact e | omega
  clear hop
  go_enter Tryd.func114, Tryd.ntmps114
  go_wp2_with fail
  refine (view_any b o t.op w c0 hbw).mono ?_
  rintro e w1 ⟨rfl, hb1⟩
  rw [hkk]
  have HB1 := hide hb1
  have HBf := hide hbf
  clear hkk c0 c1 c4 hb1 hbf
  go_wp2
  go_ret
  have hb1 := unhide HB1
  have hbb := fun x y z => three hb1 hb1.size x y z
  exact ⟨by rw [unhide HBf]; rfl, ⟨names, (unhide HM).below (hbb _ _ _) hmw, fun h => by rw [unhide HBf] at h; cases h⟩, But.of (hbb _ _ _) (Nat.le_refl _)⟩
set_option maxRecDepth 1000000 in
set_option maxHeartbeats 16000000 in
theorem pat_universal_no {d : Nat} (ih : PatC d) {B m : Nat} {w : World} {b o : Nat} {t : Tm} {names : List ByteArray} (hT : TmAt w B (d + 1) b o t) (hM : NM w m (seenL names)) (hBm : B ≤ m) (hR : RL w) (hop : t.op = 19) :
    Calls Tryd.prog 114 #[.pointer (some ⟨b, o, none⟩), .map (some m)] w (PP m names t.bare t.vn w) := by
  have HIH := hide ih
  obtain ⟨hb, _, _, aL, aV, aP, cL, cV, cP, hrg, hL, hV, hP, _⟩ := hT
  have hmw := hM.lt
  have hbw : b < w.heap.size := by omega
  have hB0 : 0 < B := by omega
  have h0w : 0 < w.heap.size := by omega
  have hLm : t.l.length ≤ 281474976710656 := by have := hL.1; have := hL.2.1; omega
  have c0 : w.cell? ⟨b, o, none⟩ = some (.int .i64 t.op) := hrg 0 _ rfl
  have c1 : w.cell? ⟨b, o + 1, none⟩ = some (.string t.name) := hrg 1 _ rfl
  have c4 : w.cell? ⟨b, o + 4, none⟩ = some (.slice aL t.l.length cL) := hrg 4 _ rfl
  obtain ⟨n, hn⟩ : ∃ n, t.l.length = n := ⟨_, rfl⟩
  have HN := hide hn
  rw [hn] at c4 hLm hL
  have HC4 := hide c4
  have HRow := hide hL
  have HR := hide hR
  have HM := hide hM
  clear ih hrg hL hV hP hR hM hn
  have ta0 := fun w => ta_no (k := 112) (ty := 109) (v := .agg #[.pointer (some ⟨b, o, none⟩)]) (z := .agg #[.pointer none]) (w := w) (by decide) rfl rfl (by go_simp)
  have ta1 := fun w => ta_no (k := 112) (ty := 159) (v := .agg #[.pointer (some ⟨b, o, none⟩)]) (z := .agg #[.pointer none]) (w := w) (by decide) rfl rfl (by go_simp)
  have ta2 := fun w => ta_no (k := 112) (ty := 158) (v := .agg #[.pointer (some ⟨b, o, none⟩)]) (z := .agg #[.pointer none]) (w := w) (by decide) rfl rfl (by go_simp)
  have ta3 := fun w => ta_yes (ty := 112) (v := .agg #[.pointer (some ⟨b, o, none⟩)]) (w := w) rfl rfl
  have hbf : t.bare = false := op_bare (by
    have e1 : (t.op == 1) = false := by simp; omega
    have e2 : (t.op == 17) = false := by simp; omega
    have e3 : (t.op == 18) = false := by simp; omega
    have e4 : (decide (12 ≤ t.op) && decide (t.op ≤ 15)) = false := by
      by_cases h : 12 ≤ t.op
      · have : decide (t.op ≤ 15) = false := by simp; omega
        rw [this, Bool.and_false]
      · have : decide (12 ≤ t.op) = false := by simp; omega
        rw [this, Bool.false_and]
    rw [e1, e2, e3, e4]; rfl)
  have hkk : kindOf t.op = 112 := by
    rcases op_kind (op := t.op) with ⟨h, e⟩ | ⟨h, e⟩ | ⟨h, e⟩ | ⟨h, e⟩ | ⟨h, e⟩ | ⟨h, e⟩ | ⟨h, e⟩ <;> first | exact e | omega
  clear hop
  go_enter Tryd.func114, Tryd.ntmps114
  go_wp2_with fail
  refine (view_any b o t.op w c0 hbw).mono ?_
  rintro e w1 ⟨rfl, hb1⟩
  rw [hkk]
  have HB1 := hide hb1
  have HBf := hide hbf
  clear hkk c0 c1 c4 hb1 hbf
  go_wp2
  go_ret
  have hb1 := unhide HB1
  have hbb := fun x y z u => four hb1 hb1.size x y z u
  exact ⟨by rw [unhide HBf]; rfl, ⟨names, (unhide HM).below (hbb _ _ _ _) hmw, fun h => by rw [unhide HBf] at h; cases h⟩, But.of (hbb _ _ _ _) (Nat.le_refl _)⟩
set_option maxRecDepth 1000000 in
set_option maxHeartbeats 16000000 in
theorem pat_stranger_no {d : Nat} (ih : PatC d) {B m : Nat} {w : World} {b o : Nat} {t : Tm} {names : List ByteArray} (hT : TmAt w B (d + 1) b o t) (hM : NM w m (seenL names)) (hBm : B ≤ m) (hR : RL w) (hop : t.op < 1 ∨ 19 < t.op) :
    Calls Tryd.prog 114 #[.pointer (some ⟨b, o, none⟩), .map (some m)] w (PP m names t.bare t.vn w) := by
  have HIH := hide ih
  obtain ⟨hb, _, _, aL, aV, aP, cL, cV, cP, hrg, hL, hV, hP, _⟩ := hT
  have hmw := hM.lt
  have hbw : b < w.heap.size := by omega
  have hB0 : 0 < B := by omega
  have h0w : 0 < w.heap.size := by omega
  have hLm : t.l.length ≤ 281474976710656 := by have := hL.1; have := hL.2.1; omega
  have c0 : w.cell? ⟨b, o, none⟩ = some (.int .i64 t.op) := hrg 0 _ rfl
  have c1 : w.cell? ⟨b, o + 1, none⟩ = some (.string t.name) := hrg 1 _ rfl
  have c4 : w.cell? ⟨b, o + 4, none⟩ = some (.slice aL t.l.length cL) := hrg 4 _ rfl
  obtain ⟨n, hn⟩ : ∃ n, t.l.length = n := ⟨_, rfl⟩
  have HN := hide hn
  rw [hn] at c4 hLm hL
  have HC4 := hide c4
  have HRow := hide hL
  have HR := hide hR
  have HM := hide hM
  clear ih hrg hL hV hP hR hM hn
  have ta0 := fun w => ta_no (k := 161) (ty := 109) (v := .agg #[.pointer (some ⟨b, o, none⟩)]) (z := .agg #[.pointer none]) (w := w) (by decide) rfl rfl (by go_simp)
  have ta1 := fun w => ta_no (k := 161) (ty := 159) (v := .agg #[.pointer (some ⟨b, o, none⟩)]) (z := .agg #[.pointer none]) (w := w) (by decide) rfl rfl (by go_simp)
  have ta2 := fun w => ta_no (k := 161) (ty := 158) (v := .agg #[.pointer (some ⟨b, o, none⟩)]) (z := .agg #[.pointer none]) (w := w) (by decide) rfl rfl (by go_simp)
  have ta3 := fun w => ta_no (k := 161) (ty := 112) (v := .agg #[.pointer (some ⟨b, o, none⟩)]) (z := .agg #[.pointer none]) (w := w) (by decide) rfl rfl (by go_simp)
  have ta4 := fun w => ta_yes (ty := 161) (v := .agg #[.pointer (some ⟨b, o, none⟩)]) (w := w) rfl rfl
  have hbf : t.bare = false := op_bare (by
    have e1 : (t.op == 1) = false := by simp; omega
    have e2 : (t.op == 17) = false := by simp; omega
    have e3 : (t.op == 18) = false := by simp; omega
    have e4 : (decide (12 ≤ t.op) && decide (t.op ≤ 15)) = false := by
      by_cases h : 12 ≤ t.op
      · have : decide (t.op ≤ 15) = false := by simp; omega
        rw [this, Bool.and_false]
      · have : decide (12 ≤ t.op) = false := by simp; omega
        rw [this, Bool.false_and]
    rw [e1, e2, e3, e4]; rfl)
  have hkk : kindOf t.op = 161 := by
    rcases op_kind (op := t.op) with ⟨h, e⟩ | ⟨h, e⟩ | ⟨h, e⟩ | ⟨h, e⟩ | ⟨h, e⟩ | ⟨h, e⟩ | ⟨h, e⟩ <;> first | exact e | omega
  clear hop
  go_enter Tryd.func114, Tryd.ntmps114
  go_wp2_with fail
  refine (view_any b o t.op w c0 hbw).mono ?_
  rintro e w1 ⟨rfl, hb1⟩
  rw [hkk]
  have HB1 := hide hb1
  have HBf := hide hbf
  clear hkk c0 c1 c4 hb1 hbf
  go_wp2
  go_ret
  have hb1 := unhide HB1
  have hbb := fun x y z u s => five hb1 hb1.size x y z u s
  exact ⟨by rw [unhide HBf]; rfl, ⟨names, (unhide HM).below (hbb _ _ _ _ _) hmw, fun h => by rw [unhide HBf] at h; cases h⟩, But.of (hbb _ _ _ _ _) (Nat.le_refl _)⟩
set_option maxRecDepth 1000000 in
set_option maxHeartbeats 16000000 in
theorem pat_operation_no {d : Nat} (ih : PatC d) {B m : Nat} {w : World} {b o : Nat} {t : Tm} {names : List ByteArray} (hT : TmAt w B (d + 1) b o t) (hM : NM w m (seenL names)) (hBm : B ≤ m) (hR : RL w) {k : Nat} (hop : t.op = (k : Int)) (hk1 : 4 ≤ k) (hk2 : k ≤ 16) (hk3 : ¬ (12 ≤ k ∧ k ≤ 15)) :
    Calls Tryd.prog 114 #[.pointer (some ⟨b, o, none⟩), .map (some m)] w (PP m names t.bare t.vn w) := by
  have HIH := hide ih
  obtain ⟨hb, _, _, aL, aV, aP, cL, cV, cP, hrg, hL, hV, hP, _⟩ := hT
  have hmw := hM.lt
  have hbw : b < w.heap.size := by omega
  have hB0 : 0 < B := by omega
  have h0w : 0 < w.heap.size := by omega
  have hLm : t.l.length ≤ 281474976710656 := by have := hL.1; have := hL.2.1; omega
  have c0 : w.cell? ⟨b, o, none⟩ = some (.int .i64 t.op) := hrg 0 _ rfl
  have c1 : w.cell? ⟨b, o + 1, none⟩ = some (.string t.name) := hrg 1 _ rfl
  have c4 : w.cell? ⟨b, o + 4, none⟩ = some (.slice aL t.l.length cL) := hrg 4 _ rfl
  obtain ⟨n, hn⟩ : ∃ n, t.l.length = n := ⟨_, rfl⟩
  have HN := hide hn
  rw [hn] at c4 hLm hL
  have HC4 := hide c4
  have HRow := hide hL
  have HR := hide hR
  have HM := hide hM
  clear ih hrg hL hV hP hR hM hn
  have ta0 := fun w => ta_no (k := 159) (ty := 109) (v := .agg #[.pointer (some ⟨b, o, none⟩)]) (z := .agg #[.pointer none]) (w := w) (by decide) rfl rfl (by go_simp)
  have ta1 := fun w => ta_yes (ty := 159) (v := .agg #[.pointer (some ⟨b, o, none⟩)]) (w := w) rfl rfl
  have hbf : t.bare = false := op_bare (by
    have e1 : (t.op == 1) = false := by simp; omega
    have e2 : (t.op == 17) = false := by simp; omega
    have e3 : (t.op == 18) = false := by simp; omega
    have e4 : (decide (12 ≤ t.op) && decide (t.op ≤ 15)) = false := by
      by_cases h : 12 ≤ t.op
      · have : decide (t.op ≤ 15) = false := by simp; omega
        rw [this, Bool.and_false]
      · have : decide (12 ≤ t.op) = false := by simp; omega
        rw [this, Bool.false_and]
    rw [e1, e2, e3, e4]; rfl)
  have hkk : kindOf t.op = 159 := by
    rcases op_kind (op := t.op) with ⟨h, e⟩ | ⟨h, e⟩ | ⟨h, e⟩ | ⟨h, e⟩ | ⟨h, e⟩ | ⟨h, e⟩ | ⟨h, e⟩ <;> first | exact e | omega
  have hki : (k : Int) < 17 := by omega
  have hown : (opOwn k != 1) = true := by
    rw [own_one hk1 hk2]
    by_cases h : 12 ≤ k
    · have : decide (k ≤ 15) = false := by simp; omega
      rw [this, Bool.and_false]; rfl
    · have : decide (12 ≤ k) = false := by simp; omega
      rw [this, Bool.false_and]; rfl
  rw [hop] at c0
  have HRk := hide ((unhide HR) k hk1 hk2).2.2.2
  go_enter Tryd.func114, Tryd.ntmps114
  go_wp2_with fail
  refine (view_any b o (k : Int) w c0 hbw).mono ?_
  rw [← hop]
  rintro e w1 ⟨rfl, hb1⟩
  rw [hkk]
  have HB1 := hide hb1
  have e0 := fun x y => (((hb1.alloc hb1.size x).alloc (by have := hb1.size; simp; omega) y).cell (p := ⟨b, o, none⟩) hbw).trans c0
  have er := fun x y => (((hb1.alloc hb1.size x).alloc (by have := hb1.size; simp; omega) y).cell (p := ⟨0, k * 4 + 3, none⟩) h0w).trans (unhide HRk)
  generalize opOwn k = oo at *
  clear hk1 hk2 hk3 hop
  have HBf := hide hbf
  clear hkk c0 c1 c4 hb1 hbf
  go_wp2
  go_ret
  have hb1 := unhide HB1
  have hbb := fun x y => (hb1.alloc hb1.size x).alloc (by have := hb1.size; simp; omega) y
  exact ⟨by rw [unhide HBf]; rfl, ⟨names, (unhide HM).below (hbb _ _) hmw, fun h => by rw [unhide HBf] at h; cases h⟩, But.of (hbb _ _) (Nat.le_refl _)⟩
theorem pat_of {d : Nat} (ih : PatC d) : PatC (d + 1) := by
  intro B m w b o t names hT hM hBm hR
  rcases op_kind (op := t.op) with ⟨h, _⟩ | ⟨h, _⟩ | ⟨h, _⟩ | ⟨h, _⟩ | ⟨h, _⟩ | ⟨h, _⟩ | ⟨h, _⟩
  · exact pat_numeral ih hT hM hBm hR h
  · exact pat_truth_no ih hT hM hBm hR h
  · obtain ⟨k, hk⟩ : ∃ k : Nat, t.op = (k : Int) := ⟨t.op.toNat, by omega⟩
    by_cases h2 : 12 ≤ k ∧ k ≤ 15
    · exact pat_operation ih hT hM hBm hR hk h2.1 h2.2
    · exact pat_operation_no ih hT hM hBm hR hk (by omega) (by omega) h2
  · exact pat_application ih hT hM hBm hR h
  · exact pat_variable ih hT hM hBm hR h
  · exact pat_universal_no ih hT hM hBm hR h
  · exact pat_stranger_no ih hT hM hBm hR h
theorem pat_any : ∀ d, PatC d
  | 0 => fun _ _ _ _ _ _ _ h => h.elim
  | d + 1 => pat_of (pat_any d)
end Go.Proofs.YtiockiilenjjaaaDoor

namespace Go.Proofs.YtiockiilenjjaaaDoor
open Go Go.RowKit
/-- As CF, the map m aside. -/
structure CM (m rb : Nat) (w w' : World) : Prop where
  os : w'.os = w.os
  tape : w'.tape = w.tape
  output : w'.output = w.output
  size : w.heap.size ≤ w'.heap.size
  block : ∀ k, k < w.heap.size → k ≠ rb → k ≠ m → ¬ OB w rb k → w'.heap[k]? = w.heap[k]?
  own : ∀ g, OB w' rb g → OB w rb g ∨ w.heap.size ≤ g
theorem CM.refl (m rb : Nat) (w : World) : CM m rb w w := ⟨rfl, rfl, rfl, Nat.le_refl _, fun _ _ _ _ _ => rfl, fun _ h => .inl h⟩
theorem CM.trans {m rb : Nat} {a b c : World} (h : CM m rb a b) (k : CM m rb b c) : CM m rb a c :=
  ⟨k.os.trans h.os, k.tape.trans h.tape, k.output.trans h.output, Nat.le_trans h.size k.size, fun j hj hr hm ho => by
    refine (k.block j (Nat.lt_of_lt_of_le hj h.size) hr hm fun o => ?_).trans (h.block j hj hr hm ho)
    rcases h.own j o with o | o
    · exact ho o
    · omega, fun g o => by
    rcases k.own g o with o | o
    · exact h.own g o
    · exact .inr (Nat.le_trans h.size o)⟩
theorem CM.of {m rb : Nat} {w w' : World} (h : CF rb w w') : CM m rb w w' := ⟨h.os, h.tape, h.output, h.size, fun k hk h1 _ h2 => h.block k hk h1 h2, h.own⟩
theorem CM.but {m rb : Nat} {w w' : World} (h : But m w w') (hne : rb ≠ m) (hrb : rb < w.heap.size) : CM m rb w w' :=
  ⟨h.os, h.tape, h.output, h.size, fun k hk _ hm _ => h.block k hk hm, fun _ o => .inl (o.same (h.block rb hrb hne))⟩
theorem CM.blk {m rb q : Nat} {w w' : World} {x : Obj} (h : CM m rb w w') (hx : w.heap[q]? = some x) (hq : q ≠ rb) (hm : q ≠ m) (ho : ¬ OB w rb q) : w'.heap[q]? = some x := by
  rw [h.block q (Array.getElem?_eq_some_iff.1 hx).1 hq hm ho]
  exact hx
section
variable {w : World} {B r rf rb : Nat} {sig : List Fn} {env : ByteArray → List Int}
theorem KS.map_free (h : KS w B r rf rb sig env) {m : Nat} {es : List (ByteArray × Value)} (hm : NM w m es) : ¬ OB w rb m := fun o => by
  obtain ⟨_, _, cur, hc⟩ := h.owned o
  obtain ⟨a, c, h1, _⟩ := hm
  rw [h1] at hc
  cases hc
theorem KS.map_r (h : KS w B r rf rb sig env) {m : Nat} {es : List (ByteArray × Value)} (hm : NM w m es) : r ≠ m := fun e => by
  obtain ⟨a, c, h1, _⟩ := hm
  have := h.blk
  rw [e, h1] at this
  cases this
/-- What changes another map leaves a checker alone. -/
theorem KS.but {w' : World} {m : Nat} (h : KS w B r rf rb sig env) (hb : But m w w') (hB : B ≤ m) (h1 : r ≠ m) (h2 : rf ≠ m) (h3 : rb ≠ m) (h4 : ¬ OB w rb m) : KS w' B r rf rb sig env := by
  have g1 := h.r_lt
  have g2 := h.rf_lt
  have g3 := h.rb_lt
  have g4 := h.hrf
  refine ⟨h.hr, h.hrf, h.hrb, h.ne, by rw [hb.block r g1 h1]; exact h.blk, h.fm.same (hb.below hB (by omega)) (hb.block rf g2 h2), ?_⟩
  have hO := fun g (o : OB w rb g) => (h.owned o).2.1
  obtain ⟨es, e1, e2, e3⟩ := h.bm
  refine ⟨es, e1.same (hb.block rb g3 h3), fun k => (e2 k).imp id ?_, e3⟩
  rintro ⟨v, f1, f2, f3⟩
  refine ⟨v, f1, ⟨f2.1, f2.2.imp id ?_⟩, f3⟩
  rintro ⟨g, cap, cur, rfl, k1, k2, k3⟩
  have ho : OB w rb g := ⟨es, k, _, e1, f1, rfl⟩
  exact ⟨g, cap, cur, rfl, k1, by rw [hb.block g (hO g ho) (fun e => h4 (by rw [← e]; exact ho))]; exact k2, k3⟩
theorem KS.cm_below (h : KS w B r rf rb sig env) {w' : World} {m : Nat} (hc : CM m rb w w') (hm : B ≤ m) : Below B w w' := by
  have hs := h.rb_lt
  have hb := h.hrb
  exact ⟨hc.os, hc.tape, hc.output, hc.size, fun k hk => hc.block k (by omega) (by omega) (by omega) fun o => by have := (h.owned o).1; omega⟩
end
def KPo (p : Int × Int) (B r rf rb : Nat) (sig : List Fn) (env : ByteArray → List Int) (w : World) (e : Ending) (w' : World) : Prop := e = .returned (pairV p) ∧ KS w' B r rf rb sig env ∧ CF rb w w'
def KTermC (rt : ByteArray → Bool) (sig : List Fn) (d : Nat) : Prop := ∀ (B r rf rb : Nat) (env : ByteArray → List Int) (w : World) (b o : Nat) (t : Tm), TmAt w B d b o t → OkT (PC rt) d t → RL w → KS w B r rf rb sig env → (∀ k, (env k).length + t.wt ≤ 1000000) →
    Calls Tryd.prog 37 #[.pointer (some ⟨r, 0, none⟩), .pointer (some ⟨b, o, none⟩)] w (KPo (t.chk rt sig env) B r rf rb sig env w)
def Tm.patE (rt : ByteArray → Bool) (sig : List Fn) (env : ByteArray → List Int) (p : Tm) : Int := Go.Proofs.YtiockiilenjjaaaDoor.patE (limE p) p.op p.bare (p.chk rt sig env).2
def QPost (err : Int) (m : Nat) (names vn : List ByteArray) (B r rf rb : Nat) (sig : List Fn) (env : ByteArray → List Int) (w : World) (e : Ending) (w' : World) : Prop := e = .returned (.int .i64 err) ∧ KS w' B r rf rb sig env ∧ (∃ ns, NM w' m (seenL ns) ∧ (err = 0 → ns = names ++ vn)) ∧ CM m rb w w'
theorem OkT.sizes {P : ByteArray → Prop} {d : Nat} {t : Tm} (h : OkT P d t) : t.size ≤ 65536 ∧ t.depth ≤ 65537 := by
  cases d with
  | zero => exact h.elim
  | succ d => exact ⟨h.2.2.2.1, h.2.2.2.2.1⟩
theorem limE_cases (t : Tm) : limE t = 0 ∨ (limE t != 0) = true := by
  by_cases h : limE t = 0
  · exact .inl h
  · exact .inr (by simp [h])
set_option maxRecDepth 1000000 in
set_option maxHeartbeats 16000000 in
theorem pattern_any {rt : ByteArray → Bool} {sig : List Fn} {d : Nat} (ih : KTermC rt sig d) {B r rf rb m : Nat} {env : ByteArray → List Int} {w : World} {b o : Nat} {p : Tm} {names : List ByteArray} (hT : TmAt w B d b o p) (hO : OkT (PC rt) d p) (hR : RL w) (hK : KS w B r rf rb sig env) (hE : ∀ k, (env k).length + p.wt ≤ 1000000) (hM : NM w m (seenL names)) (hm : B ≤ m) (hmf : rf ≠ m) (hmb : rb ≠ m) :
    Calls Tryd.prog 104 #[.pointer (some ⟨r, 0, none⟩), .pointer (some ⟨b, o, none⟩), .map (some m)] w (QPost (p.patE rt sig env) m names p.vn B r rf rb sig env w) := by
  have hBw : B ≤ w.heap.size := by have := hK.r_lt; have := hK.hr; omega
  have hrb := hK.rb_lt
  have hmw := hM.lt
  have HLim := hide (limits_any hT hBw hO.sizes.1 hO.sizes.2)
  obtain ⟨bb, hb0, c0⟩ : ∃ _ : True, b < B ∧ w.cell? ⟨b, o, none⟩ = some (.int .i64 p.op) := by
    cases d with
    | zero => exact hT.elim
    | succ d =>
      obtain ⟨hb, _, _, aL, aV, aP, cL, cV, cP, hrg, _⟩ := hT
      exact ⟨trivial, hb, hrg 0 _ rfl⟩
  have hB0 : 0 < B := by omega
  have HI := hide (And.intro hT (And.intro hO (And.intro hR (And.intro hK (And.intro hE hM)))))
  have HIH := hide ih
  have hE1 : p.patE rt sig env = Go.Proofs.YtiockiilenjjaaaDoor.patE (limE p) p.op p.bare (p.chk rt sig env).2 := rfl
  have HE1 := hide hE1
  clear hT hO hR hK hE hM ih bb hE1
  generalize hpe : p.patE rt sig env = pe at *
  rcases limE_cases p with hl | hl
  · have HL := hide hl
    rw [hl] at HLim
    clear hl
    go_enter Tryd.func104, Tryd.ntmps104
    go_wp2_with fail
    refine (unhide HLim).mono ?_
    rintro e w1 ⟨rfl, hb1⟩
    have c01 : w1.cell? ⟨b, o, none⟩ = some (.int .i64 p.op) := (hb1.cell (p := ⟨b, o, none⟩) (by show b < _; omega)).trans c0
    have HB1 := hide hb1
    clear hb1 c0
    go_wp2_with fail
    refine (view_any b o p.op w1 c01 (by have := (unhide HB1).size; omega)).mono ?_
    rintro e w2 ⟨rfl, hb2⟩
    have hb02 : Below w.heap.size w w2 := (unhide HB1).trans (hb2.mono (unhide HB1).size)
    have HB2 := hide hb02
    clear hb2 hb02 c01 HB1
    by_cases h17 : p.op = 17
    · have hkk : kindOf p.op = 160 := by rw [h17]; rfl
      rw [hkk]
      have H17 := hide h17
      clear h17 hkk
      have ta0 := fun w => ta_yes (ty := 160) (v := .agg #[.pointer (some ⟨b, o, none⟩)]) (w := w) rfl rfl
      obtain ⟨V, eV, hbV, hsV, hcV, hhV⟩ := box_new w2 #[.pointer (some ⟨b, o, none⟩)] 160
      obtain ⟨hT, hO, hR, hK, hE, hM⟩ := unhide HI
      have hbwV : Below w.heap.size w V := (unhide HB2).trans (hbV.mono (unhide HB2).size)
      have HPat := hide (pat_any d B m V b o p names (hT.more (hbwV.mono hBw) (Nat.le_refl _) (Nat.le_refl _)) (hM.below hbwV hmw) hm (hR.below hbwV (by omega)))
      have HBV := hide hbwV
      clear hT hO hR hK hE hM hbwV hbV hsV hcV hhV
      cases hq : p.bare with
      | false =>
        have HQ := hide hq
        rw [hq] at HPat
        clear hq
        go_wp2_with fail
        refine (unhide HPat).mono ?_
        rintro e w3 ⟨rfl, h3, h4⟩
        have H3 := hide (And.intro h3 h4)
        clear h3 h4
        go_wp2
        go_ret
        obtain ⟨hT, hO, hR, hK, hE, hM⟩ := unhide HI
        obtain ⟨⟨ns, hns, _⟩, hbut⟩ := unhide H3
        have hbw3 : But m w w3 := (But.of (unhide HBV) (Nat.le_refl _)).trans hbut
        have hpe30 : pe = 30 := by rw [unhide HE1, Go.Proofs.YtiockiilenjjaaaDoor.patE, unhide HL, unhide HQ]; simp
        exact ⟨by rw [hpe30]; rfl, hK.but hbw3 hm (hK.map_r hM) hmf hmb (hK.map_free hM), ⟨ns, hns, fun h => by rw [hpe30] at h; cases h⟩, CM.but hbw3 hmb hrb⟩
      | true =>
        have HQ := hide hq
        rw [hq] at HPat
        clear hq
        go_wp2_with fail
        refine (unhide HPat).mono ?_
        rintro e w3 ⟨rfl, h3, h4⟩
        obtain ⟨hT, hO, hR, hK, hE, hM⟩ := unhide HI
        have hbw3 : But m w w3 := (But.of (unhide HBV) (Nat.le_refl _)).trans h4
        have hK3 := hK.but hbw3 hm (hK.map_r hM) hmf hmb (hK.map_free hM)
        have hbel3 : Below B w w3 := hbw3.below hm hBw
        have HCall := hide (unhide HIH B r rf rb env w3 b o p (hT.more hbel3 (Nat.le_refl _) (Nat.le_refl _)) hO (hR.below hbel3 hB0) hK3 hE)
        have H3 := hide (And.intro h3 (And.intro hbw3 hK3))
        clear h3 h4 hbw3 hK3 hbel3 hT hO hR hK hE hM
        obtain ⟨x, y, hxy⟩ : ∃ x y, p.chk rt sig env = (x, y) := ⟨_, _, rfl⟩
        rw [hxy] at HCall
        have HXY := hide hxy
        clear hxy
        go_wp2_with fail
        refine (unhide HCall).mono ?_
        rintro e w4 ⟨rfl, h5, h6⟩
        have H5 := hide (And.intro h5 h6)
        clear h5 h6
        unfold pairV
        go_wp2
        go_ret
        obtain ⟨⟨ns, hns, hnse⟩, hbw3, hK3⟩ := unhide H3
        obtain ⟨hK4, hCF⟩ := unhide H5
        have hpey : pe = y := by rw [unhide HE1, Go.Proofs.YtiockiilenjjaaaDoor.patE, unhide HL, unhide HQ, unhide HXY, unhide H17]; simp
        refine ⟨by rw [hpey]; rfl, hK4, ⟨ns, ?_, fun _ => hnse (by first | rfl | trivial)⟩, (CM.but hbw3 hmb hrb).trans (CM.of hCF)⟩
        exact hns.same (hCF.block m hns.lt (fun e => hmb e.symm) (hK3.map_free hns))
    · have hkk : kindOf p.op ≠ 160 := by
        rcases op_kind (op := p.op) with ⟨h, e⟩ | ⟨h, e⟩ | ⟨h, e⟩ | ⟨h, e⟩ | ⟨h, e⟩ | ⟨h, e⟩ | ⟨h, e⟩ <;> first | exact absurd h h17 | (rw [e]; decide)
      have H17 := hide h17
      clear h17
      generalize kindOf p.op = kk at *
      have ta0 := fun w => ta_no (ty := 160) (v := .agg #[.pointer (some ⟨b, o, none⟩)]) (z := .agg #[.pointer none]) (w := w) hkk rfl rfl (by go_simp)
      go_wp2
      go_ret
      obtain ⟨hT, hO, hR, hK, hE, hM⟩ := unhide HI
      have hbb : Below w.heap.size w (w2.alloc (.cells #[.pointer none] 160)) := (unhide HB2).alloc (unhide HB2).size _
      have hpe30 : pe = 30 := by rw [unhide HE1, Go.Proofs.YtiockiilenjjaaaDoor.patE, unhide HL]; simp [unhide H17]
      exact ⟨by rw [hpe30]; rfl, hK.below hbb (Nat.le_refl _), ⟨names, hM.below hbb hmw, fun h => by rw [hpe30] at h; cases h⟩, CM.of (CF.of hbb (Nat.le_refl _) hrb)⟩
  · have HL := hide hl
    generalize hle : limE p = le at *
    have HLe := hide hle
    clear hle
    go_enter Tryd.func104, Tryd.ntmps104
    go_wp2_with fail
    refine (unhide HLim).mono ?_
    rintro e w1 ⟨rfl, hb1⟩
    have HB1 := hide hb1
    clear hb1
    go_wp2
    go_ret
    obtain ⟨hT, hO, hR, hK, hE, hM⟩ := unhide HI
    have hle0 : le ≠ 0 := by simpa using unhide HL
    have hpel : pe = le := by rw [unhide HE1, Go.Proofs.YtiockiilenjjaaaDoor.patE, if_pos hle0]
    exact ⟨by rw [hpel]; rfl, hK.below (unhide HB1) (Nat.le_refl _), ⟨names, hM.below (unhide HB1) hmw, fun h => absurd (hpel ▸ h) hle0⟩, CM.of (CF.of (unhide HB1) (Nat.le_refl _) hrb)⟩
end Go.Proofs.YtiockiilenjjaaaDoor
