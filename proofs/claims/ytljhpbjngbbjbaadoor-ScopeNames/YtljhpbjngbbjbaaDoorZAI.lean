/- The document's parser: expr where it may be deeper. -/
import Derived.Test.YtljhpbjngbbjbaaDoorZAH
import Derived.Test.YtljhpbjngbbjbaaDoorZAC
set_option linter.unusedVariables false
set_option linter.unusedSimpArgs false

/- The document's parser: is, fail, step, eat, must. -/
namespace Go.Proofs.YtljhpbjngbbjbaaDoor
open Go Go.RowKit
theorem tD_ok {ts : List (Int × ByteArray × Int)} {st : PS} (h : st.e = 0) : tD ts st = nx ts st.i := if_pos h
theorem tD_bad {ts : List (Int × ByteArray × Int)} {st : PS} (h : st.e ≠ 0) : tD ts st = zTk := if_neg h
set_option maxRecDepth 100000 in
set_option maxHeartbeats 4000000 in
theorem is_any {w : World} {r d : Nat} {st : PS} {ts : List (Int × ByteArray × Int)} (hR : PD w r ts st d) (hT : TsOk ts) (s : ByteArray) : Calls Tryd.prog 34 #[.pointer (some ⟨r, 0, none⟩), .string s] w (VP (.bool (isD ts s st)) w) := by
  have HN := hide (dt_any hR hT)
  have HR := hide hR
  unfold tkV at HN
  obtain ⟨b, hb⟩ : ∃ b, isD ts s st = b := ⟨_, rfl⟩
  rw [hb]
  unfold isD at hb
  by_cases he : st.e = 0
  · rw [tD_ok he] at HN
    obtain ⟨⟨k, T, i⟩, hX⟩ : ∃ X, nx ts st.i = X := ⟨_, rfl⟩
    rw [hX] at HN hb
    rw [he] at hb
    have HEr := hide he
    clear hR hT hX he
    unfold VP
    simp only [decide_true, Bool.true_and] at hb
    by_cases k2 : k = 2
    · subst k2
      simp only [decide_true, Bool.true_or, Bool.true_and] at hb
      replace hb := hide hb
      go_enter Tryd.func34, Tryd.ntmps34
      go_wp2_with fail
      refine (unhide HN).mono ?_
      rintro e w2 ⟨rfl, hb2⟩
      obtain ⟨B, eB, hbB, hsB, hhB⟩ := box_new w2 #[.int .i64 2, .string T, .int .i64 i] 87
      have h02 : Below w.heap.size w B := hb2.trans (hbB.mono hb2.size)
      obtain ⟨g, c, x0, x1, x2, x3, x4, hc, hr, hf, ht⟩ := (unhide HR).facts h02
      rw [unhide HEr] at x2
      have y0 : B.cell? ⟨w2.heap.size, 0, none⟩ = some (.int .i64 2) := (blk hhB).2.1 0 _ rfl
      have y1 : B.cell? ⟨w2.heap.size, 1, none⟩ = some (.string T) := (blk hhB).2.1 1 _ rfl
      have HB := hide h02
      have HEB := hide eB
      rw [← eB] at x2 y0 y1 hr
      clear hb2 HN eB hbB hsB hhB h02 x0 x1 x3 x4 hc hf ht
      go_wp2
      go_ret
      rw [unhide HEB]
      refine ⟨?_, unhide HB⟩
      rw [← unhide hb, str_eq]; rfl
    · by_cases k4 : k = 4
      · subst k4
        have hb' : decide (T = s) = b := by rw [← hb]; simp
        clear hb
        replace hb := hide hb'
        clear hb'
        go_enter Tryd.func34, Tryd.ntmps34
        go_wp2_with fail
        refine (unhide HN).mono ?_
        rintro e w2 ⟨rfl, hb2⟩
        obtain ⟨B, eB, hbB, hsB, hhB⟩ := box_new w2 #[.int .i64 4, .string T, .int .i64 i] 87
        have h02 : Below w.heap.size w B := hb2.trans (hbB.mono hb2.size)
        obtain ⟨g, c, x0, x1, x2, x3, x4, hc, hr, hf, ht⟩ := (unhide HR).facts h02
        rw [unhide HEr] at x2
        have y0 : B.cell? ⟨w2.heap.size, 0, none⟩ = some (.int .i64 4) := (blk hhB).2.1 0 _ rfl
        have y1 : B.cell? ⟨w2.heap.size, 1, none⟩ = some (.string T) := (blk hhB).2.1 1 _ rfl
        have HB := hide h02
        have HEB := hide eB
        rw [← eB] at x2 y0 y1 hr
        clear hb2 HN eB hbB hsB hhB h02 x0 x1 x3 x4 hc hf ht
        go_wp2
        go_ret
        rw [unhide HEB]
        refine ⟨?_, unhide HB⟩
        rw [← unhide hb, str_eq]; rfl
      · have hb' : b = false := by rw [← hb]; simp [k2, k4]
        subst hb'
        clear hb
        have e2 : (k == 2) = false := by simpa using k2
        have e4 : (k == 4) = false := by simpa using k4
        have d2 : decide (k = 2) = false := by simpa using k2
        have d4 : decide (k = 4) = false := by simpa using k4
        clear k2 k4
        go_enter Tryd.func34, Tryd.ntmps34
        go_wp2_with fail
        refine (unhide HN).mono ?_
        rintro e w2 ⟨rfl, hb2⟩
        obtain ⟨B, eB, hbB, hsB, hhB⟩ := box_new w2 #[.int .i64 k, .string T, .int .i64 i] 87
        have h02 : Below w.heap.size w B := hb2.trans (hbB.mono hb2.size)
        obtain ⟨g, c, x0, x1, x2, x3, x4, hc, hr, hf, ht⟩ := (unhide HR).facts h02
        rw [unhide HEr] at x2
        have y0 : B.cell? ⟨w2.heap.size, 0, none⟩ = some (.int .i64 k) := (blk hhB).2.1 0 _ rfl
        have y1 : B.cell? ⟨w2.heap.size, 1, none⟩ = some (.string T) := (blk hhB).2.1 1 _ rfl
        have HB := hide h02
        have HEB := hide eB
        rw [← eB] at x2 y0 y1 hr
        clear hb2 HN eB hbB hsB hhB h02 x0 x1 x3 x4 hc hf ht
        go_wp2
        go_ret
        rw [unhide HEB]
        exact ⟨rfl, unhide HB⟩
  · rw [tD_bad he] at HN
    have hb' : b = false := by rw [← hb]; simp [he]
    subst hb'
    obtain ⟨er, her⟩ : ∃ er, st.e = er := ⟨_, rfl⟩
    have HEr := hide her
    rw [her] at he
    clear hR hT hb her
    unfold VP
    unfold zTk at HN
    have e2 : (er == 0) = false := by simpa using he
    have d2 : decide (er = 0) = false := by simpa using he
    clear he
    go_enter Tryd.func34, Tryd.ntmps34
    go_wp2_with fail
    refine (unhide HN).mono ?_
    rintro e w2 ⟨rfl, hb2⟩
    obtain ⟨B, eB, hbB, hsB, hhB⟩ := box_new w2 #[.int .i64 0, .string ⟨#[]⟩, .int .i64 0] 87
    have h02 : Below w.heap.size w B := hb2.trans (hbB.mono hb2.size)
    obtain ⟨g, c, x0, x1, x2, x3, x4, hc, hr, hf, ht⟩ := (unhide HR).facts h02
    rw [unhide HEr] at x2
    have y0 : B.cell? ⟨w2.heap.size, 0, none⟩ = some (.int .i64 0) := (blk hhB).2.1 0 _ rfl
    have y1 : B.cell? ⟨w2.heap.size, 1, none⟩ = some (.string ⟨#[]⟩) := (blk hhB).2.1 1 _ rfl
    have HB := hide h02
    have HEB := hide eB
    rw [← eB] at x2 y0 y1 hr
    clear hb2 HN eB hbB hsB hhB h02 x0 x1 x3 x4 hc hf ht
    go_wp2
    go_ret
    rw [unhide HEB]
    exact ⟨rfl, unhide HB⟩
def StP (r : Nat) (ts : List (Int × ByteArray × Int)) (st : PS) (d : Nat) (v : Value) (w : World) (e : Ending) (w' : World) : Prop := e = .returned v ∧ But r w w' ∧ PD w' r ts st d
set_option maxRecDepth 100000 in
set_option maxHeartbeats 4000000 in
theorem fail_any {w : World} {r d : Nat} {st : PS} {ts : List (Int × ByteArray × Int)} (hR : PD w r ts st d) (a n : Int) : Calls Tryd.prog 35 #[.pointer (some ⟨r, 0, none⟩), .int .i64 a, .int .i64 n] w (StP r ts (st.fail a n) d (.tuple #[]) w) := by
  obtain ⟨g, c, x0, x1, x2, x3, x4, hc, hr, hf, ht⟩ := hR.facts (Below.refl _ _)
  have HR := hide hR
  have f2 := hf 2
  have f3 := hf 3
  obtain ⟨s2, hs⟩ : ∃ s2, st.fail a n = s2 := ⟨_, rfl⟩
  rw [hs]
  unfold PS.fail at hs
  obtain ⟨i, er, ea⟩ := st
  unfold StP
  simp only at x2 hs
  clear hR hc hf ht x0 x1 x4
  by_cases he : er = 0
  · subst he
    rw [if_pos rfl] at hs
    subst hs
    go_enter Tryd.func35, Tryd.ntmps35
    go_wp2
    refine bodyPost_end (results_none rfl _ _ _) rfl ?_
    have hb : But r w ((w.setCell ⟨r, 2, none⟩ (.int .i64 n)).setCell ⟨r, 3, none⟩ (.int .i64 a)) := ((But.refl r w).set _ _).set _ _
    exact ⟨rfl, hb, (unhide HR).set hb (unhide HR).lt fun g c h => set_block (set_block h _) _⟩
  · rw [if_neg he] at hs
    subst hs
    have e2 : (er == 0) = false := by simpa using he
    have d2 : decide (er = 0) = false := by simpa using he
    go_enter Tryd.func35, Tryd.ntmps35
    go_wp2
    refine bodyPost_end (results_none rfl _ _ _) rfl ?_
    exact ⟨rfl, But.refl _ _, unhide HR⟩
set_option maxRecDepth 100000 in
set_option maxHeartbeats 4000000 in
theorem step_any {w : World} {r d : Nat} {st : PS} {ts : List (Int × ByteArray × Int)} (hR : PD w r ts st d) (hT : TsOk ts) : Calls Tryd.prog 52 #[.pointer (some ⟨r, 0, none⟩)] w (StP r ts (stepD ts st) d (.tuple #[]) w) := by
  obtain ⟨g, c, x0, x1, x2, x3, x4, hc, hr, hf, ht⟩ := hR.facts (Below.refl _ _)
  have HR := hide hR
  have f1 := hf 1
  have hl := hT.len
  have hlt := hR.lt
  obtain ⟨s2, hs⟩ : ∃ s2, stepD ts st = s2 := ⟨_, rfl⟩
  rw [hs]
  unfold stepD at hs
  obtain ⟨i, er, ea⟩ := st
  unfold StP
  simp only at x1 x2 hs hlt
  obtain ⟨L, hL⟩ : ∃ L, ts.length = L := ⟨_, rfl⟩
  have HL := hide hL
  rw [hL] at x0 hs hl hlt
  have g1 : (0 : Int) ≤ (i : Int) := by omega
  have g2 : (i : Int) < (L : Int) := by omega
  have g3 : (L : Int) ≤ 100000 := by omega
  clear hR hc hf ht x3 x4 hL hT
  by_cases he : er = 0
  · subst he
    by_cases hi : i + 1 < L
    · rw [if_pos ⟨rfl, hi⟩] at hs
      subst hs
      have g4 : (i : Int) < (L : Int) - 1 := by omega
      clear hl hlt
      replace hi := hide hi
      go_enter Tryd.func52, Tryd.ntmps52
      go_wp2_with fail
      go_region
      go_wp2
      refine bodyPost_end (results_none rfl _ _ _) rfl ?_
      have hb : But r w (w.drew.setCell ⟨r, 1, none⟩ (.int .i64 ((i : Int) + 1))) := (but_drew (But.refl r w)).set _ _
      exact ⟨rfl, hb, (unhide HR).set hb (by rw [unhide HL]; exact unhide hi) fun g c h => set_block (by rw [heap_drew]; exact h) _⟩
    · rw [if_neg (fun h => hi h.2)] at hs
      subst hs
      have g4 : decide ((i : Int) < (L : Int) - 1) = false := by simp; omega
      have g5 : ¬ (i : Int) < (L : Int) - 1 := by omega
      clear hl hlt hi
      go_enter Tryd.func52, Tryd.ntmps52
      go_wp2_with fail
      go_region
      go_wp2
      refine bodyPost_end (results_none rfl _ _ _) rfl ?_
      have hb : But r w w.drew := but_drew (But.refl r w)
      exact ⟨rfl, hb, (unhide HR).set hb (unhide HR).lt fun g c h => by rw [heap_drew]; exact h⟩
  · rw [if_neg (fun h => he h.1)] at hs
    subst hs
    have e2 : (er == 0) = false := by simpa using he
    have d2 : decide (er = 0) = false := by simpa using he
    clear hl hlt
    go_enter Tryd.func52, Tryd.ntmps52
    go_wp2_with fail
    go_region
    go_wp2
    refine bodyPost_end (results_none rfl _ _ _) rfl ?_
    have hb : But r w w.drew := but_drew (But.refl r w)
    exact ⟨rfl, hb, (unhide HR).set hb (unhide HR).lt fun g c h => by rw [heap_drew]; exact h⟩
end Go.Proofs.YtljhpbjngbbjbaaDoor

/- The document's parser: eat, must, name, down, next. -/
namespace Go.Proofs.YtljhpbjngbbjbaaDoor
open Go Go.RowKit
set_option maxRecDepth 100000 in
set_option maxHeartbeats 4000000 in
theorem eat_any {w : World} {r d : Nat} {st : PS} {ts : List (Int × ByteArray × Int)} (hR : PD w r ts st d) (hT : TsOk ts) (s : ByteArray) : Calls Tryd.prog 49 #[.pointer (some ⟨r, 0, none⟩), .string s] w (StP r ts (eatD ts s st) d (.bool (isD ts s st)) w) := by
  have HI := hide (is_any hR hT s)
  have HR := hide hR
  have HT := hide hT
  obtain ⟨b, hb⟩ : ∃ b, isD ts s st = b := ⟨_, rfl⟩
  obtain ⟨s2, hs⟩ : ∃ s2, eatD ts s st = s2 := ⟨_, rfl⟩
  rw [hs]
  unfold eatD at hs
  rw [hb] at HI hs ⊢
  replace hs := hide hs
  clear hR hT hb
  unfold StP
  go_enter Tryd.func49, Tryd.ntmps49
  go_wp2_with fail
  refine (unhide HI).mono ?_
  rintro e w2 ⟨rfl, hb2⟩
  have HB := hide hb2
  clear hb2 HI
  cases b with
  | false =>
    go_wp2
    go_ret
    have h := unhide hs
    simp only [Bool.false_eq_true, if_false] at h
    subst h
    exact ⟨rfl, But.of (unhide HB), (unhide HR).keep (unhide HB)⟩
  | true =>
    have HS := hide (step_any ((unhide HR).keep (unhide HB)) (unhide HT))
    go_wp2_with fail
    refine (unhide HS).mono ?_
    rintro e w3 ⟨rfl, hb3, hR3⟩
    have h := unhide hs
    simp only [if_true] at h
    subst h
    have H3 := hide (And.intro ((But.of (r := r) (unhide HB)).trans hb3) hR3)
    clear hb3 hR3 HS hs
    go_wp2
    go_ret
    exact ⟨rfl, (unhide H3).1, (unhide H3).2⟩
set_option maxRecDepth 100000 in
set_option maxHeartbeats 4000000 in
theorem dmust_any {w : World} {r d : Nat} {st : PS} {ts : List (Int × ByteArray × Int)} (hR : PD w r ts st d) (hT : TsOk ts) (s : ByteArray) : Calls Tryd.prog 51 #[.pointer (some ⟨r, 0, none⟩), .string s] w (StP r ts (mustD ts s st) d (.int .i64 (tD ts st).2.2) w) := by
  have HN := hide (dt_any hR hT)
  have HR := hide hR
  have HT := hide hT
  obtain ⟨s2, hs⟩ : ∃ s2, mustD ts s st = s2 := ⟨_, rfl⟩
  rw [hs]
  unfold mustD at hs
  unfold tkV at HN
  obtain ⟨⟨k, T, i⟩, hX⟩ : ∃ X, tD ts st = X := ⟨_, rfl⟩
  rw [hX] at HN hs ⊢
  have HX := hide hX
  have h2 := fld2 (.int .i64 k) (.string T) (.int .i64 i)
  obtain ⟨b, hb⟩ : ∃ b, isD ts s st = b := ⟨_, rfl⟩
  rw [hb] at hs
  have HBB := hide hb
  replace hs := hide hs
  clear hR hT hb hX
  unfold StP
  go_enter Tryd.func51, Tryd.ntmps51
  go_wp2_with fail
  refine (unhide HN).mono ?_
  rintro e w2 ⟨rfl, hb2⟩
  have HB := hide hb2
  have HE := hide (eat_any ((unhide HR).keep hb2) (unhide HT) s)
  clear hb2 HN
  go_wp2_with fail
  refine (unhide HE).mono ?_
  rintro e w3 ⟨rfl, hb3, hR3⟩
  rw [unhide HBB]
  have H3 := hide ((But.of (r := r) (unhide HB)).trans hb3)
  unfold eatD at hR3
  rw [unhide HBB] at hR3
  have hs1 := unhide hs
  cases b with
  | true =>
    simp only [if_true] at hR3 hs1
    subst hs1
    have HR3 := hide hR3
    clear hb3 hR3 HE hs
    go_wp2
    go_ret
    exact ⟨rfl, unhide H3, unhide HR3⟩
  | false =>
    simp only [Bool.false_eq_true, if_false] at hR3 hs1
    subst hs1
    have HR3 := hide hR3
    have HN2 := hide (dt_any hR3 (unhide HT))
    unfold tkV at HN2
    rw [unhide HX] at HN2
    clear hb3 hR3 HE hs
    go_wp2_with fail
    refine (unhide HN2).mono ?_
    rintro e w4 ⟨rfl, hb4⟩
    have HF := hide (fail_any ((unhide HR3).keep hb4) i 150)
    have H4 := hide ((unhide H3).trans (But.of (r := r) hb4))
    clear hb4 HN2
    go_wp2_with fail
    refine (unhide HF).mono ?_
    rintro e w5 ⟨rfl, hb5, hR5⟩
    have H5 := hide (And.intro ((unhide H4).trans hb5) hR5)
    clear hb5 hR5 HF
    go_wp2
    go_ret
    exact ⟨rfl, (unhide H5).1, (unhide H5).2⟩
theorem PD.out {w w' : World} {r d q : Nat} {st : PS} {ts : List (Int × ByteArray × Int)} (h : PD w r ts st d) (hq : r < q) (hb : ∀ k, k < q → w'.heap[k]? = w.heap[k]?) : PD w' r ts st d := by
  obtain ⟨⟨g, c, h1, h2, h3, h4⟩, h5⟩ := h
  exact ⟨⟨g, c, (hb r hq).trans h1, h2, h3, fun j x hx => range_same (h4 j x hx) (hb g (by omega))⟩, h5⟩
set_option maxRecDepth 100000 in
set_option maxHeartbeats 4000000 in
theorem name_any {w : World} {r d : Nat} {st : PS} {ts : List (Int × ByteArray × Int)} (hR : PD w r ts st d) (hT : TsOk ts) : Calls Tryd.prog 50 #[.pointer (some ⟨r, 0, none⟩)] w (StP r ts (nameD ts st).2 d (tkV (nameD ts st).1) w) := by
  obtain ⟨A, eA, hbA, hsA, hhA⟩ := box_new w #[.int .i64 0, .string ⟨#[]⟩, .int .i64 0] 87
  have hrw := hR.rlt
  have HR := hide (hR.keep hbA)
  have HN := hide (dt_any (unhide HR) hT)
  have HT := hide hT
  have HA := hide (And.intro hbA (And.intro hhA (And.intro hsA hrw)))
  have HEA := hide eA
  obtain ⟨Y, hY⟩ : ∃ Y, nameD ts st = Y := ⟨_, rfl⟩
  rw [hY]
  unfold nameD at hY
  unfold tkV at HN ⊢
  obtain ⟨⟨k, T, i⟩, hX⟩ : ∃ X, tD ts st = X := ⟨_, rfl⟩
  rw [hX] at HN hY
  simp only at hY
  clear hR hT hX eA hbA hhA hsA hrw
  unfold StP
  by_cases hk : k = 1
  · subst hk
    rw [if_pos rfl] at hY
    subst hY
    go_enter Tryd.func50, Tryd.ntmps50
    go_wp2_with fail
    rw [unhide HEA]
    refine (unhide HN).mono ?_
    rintro e w2 ⟨rfl, hb2⟩
    obtain ⟨B, eB, hbB, hsB, hhB⟩ := box_new w2 #[.int .i64 1, .string T, .int .i64 i] 87
    have hAB := hb2.trans (hbB.mono hb2.size)
    have HS := hide (step_any ((unhide HR).keep hAB) (unhide HT))
    have y0 : B.cell? ⟨w2.heap.size, 0, none⟩ = some (.int .i64 1) := (blk hhB).2.1 0 _ rfl
    have H2 := hide (And.intro hAB (And.intro hhB (And.intro hsB hb2.size)))
    have HEB := hide eB
    rw [← eB] at y0
    clear HN hb2 eB hbB hsB hhB hAB
    go_wp2_with fail
    rw [unhide HEB]
    refine (unhide HS).mono ?_
    rintro e w3 ⟨rfl, hb3, hR3⟩
    obtain ⟨hbA, hhA, hsA, hrw⟩ := unhide HA
    obtain ⟨hAB, hhB, hsB, hs2⟩ := unhide H2
    have hh3 := (hb3.block _ (blk hhB).1 (by omega)).trans hhB
    have hA3 := (hb3.block _ (Nat.lt_of_lt_of_le (blk hhA).1 hAB.size) (by omega)).trans ((hAB.block _ (blk hhA).1).trans hhA)
    have x0 : w3.cell? ⟨w2.heap.size, 0, none⟩ = some (.int .i64 1) := (blk hh3).2.1 0 _ rfl
    have x1 : w3.cell? ⟨w2.heap.size, 1, none⟩ = some (.string T) := (blk hh3).2.1 1 _ rfl
    have x2 : w3.cell? ⟨w2.heap.size, 2, none⟩ = some (.int .i64 i) := (blk hh3).2.1 2 _ rfl
    have y0 : w3.cell? ⟨w.heap.size, 0, none⟩ = some (.int .i64 0) := (blk hA3).2.1 0 _ rfl
    have y1 : w3.cell? ⟨w.heap.size, 1, none⟩ = some (.string ⟨#[]⟩) := (blk hA3).2.1 1 _ rfl
    have y2 : w3.cell? ⟨w.heap.size, 2, none⟩ = some (.int .i64 0) := (blk hA3).2.1 2 _ rfl
    have z0 := (blk hA3).2.2 0
    have z1 := (blk hA3).2.2 1
    have z2 := (blk hA3).2.2 2
    have n1 : w2.heap.size ≠ w.heap.size := by omega
    have H3 := hide (And.intro ((But.of (r := r) hbA).trans ((But.of (r := r) hAB).trans hb3)) (And.intro hR3 (And.intro hA3 hrw)))
    clear hb3 hR3 hbA hhA hsA hrw hAB hhB hsB hs2 hh3 hA3 HS
    go_wp2
    obtain ⟨hbu, hR3, hA3, hrw⟩ := unhide H3
    refine bodyPost_ret (res_row (cs := [.int .i64 1, .string T, .int .i64 i]) rfl rfl (range_block (fill3 hA3)) rfl rfl rfl) rfl ?_
    refine ⟨rfl, but_new (but_new (but_new hbu (Nat.le_refl _) _ _) (Nat.le_refl _) _ _) (Nat.le_refl _) _ _, hR3.out hrw fun k hk => ?_⟩
    rw [heap_set _ _ (by omega), heap_set _ _ (by omega), heap_set _ _ (by omega)]
  · rw [if_neg hk] at hY
    subst hY
    have e1 : (k == 1) = false := by simpa using hk
    have e2 : decide (k = 1) = false := by simpa using hk
    clear hk
    go_enter Tryd.func50, Tryd.ntmps50
    go_wp2_with fail
    rw [unhide HEA]
    refine (unhide HN).mono ?_
    rintro e w2 ⟨rfl, hb2⟩
    obtain ⟨B, eB, hbB, hsB, hhB⟩ := box_new w2 #[.int .i64 k, .string T, .int .i64 i] 87
    have hAB := hb2.trans (hbB.mono hb2.size)
    have HS := hide (fail_any ((unhide HR).keep hAB) i 150)
    have y0 : B.cell? ⟨w2.heap.size, 0, none⟩ = some (.int .i64 k) := (blk hhB).2.1 0 _ rfl
    have y2 : B.cell? ⟨w2.heap.size, 2, none⟩ = some (.int .i64 i) := (blk hhB).2.1 2 _ rfl
    have H2 := hide (And.intro hAB (And.intro hhB (And.intro hsB hb2.size)))
    have HEB := hide eB
    rw [← eB] at y0 y2
    clear HN hb2 eB hbB hsB hhB hAB
    go_wp2_with fail
    rw [unhide HEB]
    refine (unhide HS).mono ?_
    rintro e w3 ⟨rfl, hb3, hR3⟩
    obtain ⟨hbA, hhA, hsA, hrw⟩ := unhide HA
    obtain ⟨hAB, hhB, hsB, hs2⟩ := unhide H2
    have hA3 := (hb3.block _ (Nat.lt_of_lt_of_le (blk hhA).1 hAB.size) (by omega)).trans ((hAB.block _ (blk hhA).1).trans hhA)
    have y0 : w3.cell? ⟨w.heap.size, 0, none⟩ = some (.int .i64 0) := (blk hA3).2.1 0 _ rfl
    have y1 : w3.cell? ⟨w.heap.size, 1, none⟩ = some (.string ⟨#[]⟩) := (blk hA3).2.1 1 _ rfl
    have y2 : w3.cell? ⟨w.heap.size, 2, none⟩ = some (.int .i64 0) := (blk hA3).2.1 2 _ rfl
    have z0 := (blk hA3).2.2 0
    have z1 := (blk hA3).2.2 1
    have z2 := (blk hA3).2.2 2
    have H3 := hide (And.intro ((But.of (r := r) hbA).trans ((But.of (r := r) hAB).trans hb3)) (And.intro hR3 (And.intro hA3 hrw)))
    clear hb3 hR3 hbA hhA hsA hrw hAB hhB hsB hs2 hA3 HS
    go_wp2
    obtain ⟨hbu, hR3, hA3, hrw⟩ := unhide H3
    refine bodyPost_ret (res_row (cs := [.int .i64 0, .string ⟨#[]⟩, .int .i64 0]) rfl rfl (range_block (fill3 hA3)) rfl rfl rfl) rfl ?_
    refine ⟨rfl, but_new (but_new (but_new hbu (Nat.le_refl _) _ _) (Nat.le_refl _) _ _) (Nat.le_refl _) _ _, hR3.out hrw fun k hk => ?_⟩
    rw [heap_set _ _ (by omega), heap_set _ _ (by omega), heap_set _ _ (by omega)]
end Go.Proofs.YtljhpbjngbbjbaaDoor

/- The document's parser: down, next. -/
namespace Go.Proofs.YtljhpbjngbbjbaaDoor
open Go Go.RowKit
set_option maxRecDepth 100000 in
set_option maxHeartbeats 4000000 in
theorem down_yes {w : World} {r d : Nat} {st : PS} {ts : List (Int × ByteArray × Int)} (hR : PD w r ts st d) (hd : d < 200) : Calls Tryd.prog 65 #[.pointer (some ⟨r, 0, none⟩)] w (StP r ts st (d + 1) (.bool (decide (st.e = 0))) w) := by
  obtain ⟨g, c, x0, x1, x2, x3, x4, hc, hr, hf, ht⟩ := hR.facts (Below.refl _ _)
  have HR := hide hR
  have f4 := hf 4
  have g1 : (0 : Int) ≤ (d : Int) := by omega
  have g2 : (d : Int) < 200 := by omega
  have g3 : decide ((d : Int) + 1 > 200) = false := by simp; omega
  have g4 : ¬ (d : Int) + 1 > 200 := by omega
  have g5 : decide (200 < (d : Int) + 1) = false := by simp; omega
  unfold StP
  clear hR hc hf ht x0 x1 x3 hd
  go_enter Tryd.func65, Tryd.ntmps65
  go_wp2
  go_ret
  have hb : But r w (w.setCell ⟨r, 4, none⟩ (.int .i64 ((d : Int) + 1))) := (But.refl r w).set _ _
  refine ⟨?_, hb, (unhide HR).set hb (unhide HR).lt fun g c h => ?_⟩
  · rfl
  · exact set_block h _
set_option maxRecDepth 100000 in
set_option maxHeartbeats 4000000 in
theorem down_no {w : World} {r d : Nat} {st : PS} {ts : List (Int × ByteArray × Int)} (hR : PD w r ts st d) (hT : TsOk ts) (hd : 200 ≤ d) (hd2 : d ≤ 100000) : Calls Tryd.prog 65 #[.pointer (some ⟨r, 0, none⟩)] w (StP r ts (st.fail (tD ts st).2.2 151) (d + 1) (.bool false) w) := by
  obtain ⟨g, c, x0, x1, x2, x3, x4, hc, hr, hf, ht⟩ := hR.facts (Below.refl _ _)
  have f4 := hf 4
  have g1 : (0 : Int) ≤ (d : Int) := by omega
  have g2 : (d : Int) ≤ 100000 := by omega
  have g4 : (200 : Int) < (d : Int) + 1 := by omega
  have hb : But r w (w.setCell ⟨r, 4, none⟩ (.int .i64 ((d : Int) + 1))) := (But.refl r w).set _ _
  have hR2 : PD (w.setCell ⟨r, 4, none⟩ (.int .i64 ((d : Int) + 1))) r ts st (d + 1) := hR.set hb hR.lt fun g c h => set_block h _
  have HN := hide (dt_any hR2 hT)
  unfold tkV at HN
  obtain ⟨⟨k, T, i⟩, hX⟩ : ∃ X, tD ts st = X := ⟨_, rfl⟩
  rw [hX] at HN ⊢
  have h2 := fld2 (.int .i64 k) (.string T) (.int .i64 i)
  have HR := hide (And.intro hR2 hb)
  unfold StP
  clear hR hc hf ht x0 x1 x3 x2 hd hd2 hX hb hR2 hT
  go_enter Tryd.func65, Tryd.ntmps65
  go_wp2_with fail
  refine (unhide HN).mono ?_
  rintro e w4 ⟨rfl, hb4⟩
  have HF := hide (fail_any ((unhide HR).1.keep hb4) i 151)
  have H4 := hide ((unhide HR).2.trans (But.of (r := r) hb4))
  clear hb4 HN
  go_wp2_with fail
  refine (unhide HF).mono ?_
  rintro e w5 ⟨rfl, hb5, hR5⟩
  have H5 := hide (And.intro ((unhide H4).trans hb5) hR5)
  clear hb5 hR5 HF
  go_wp2
  go_ret
  exact ⟨rfl, (unhide H5).1, (unhide H5).2⟩
set_option maxRecDepth 100000 in
set_option maxHeartbeats 4000000 in
theorem dnext_any {w : World} {r d : Nat} {st : PS} {ts : List (Int × ByteArray × Int)} (hR : PD w r ts st d) (hT : TsOk ts) : Calls Tryd.prog 77 #[.pointer (some ⟨r, 0, none⟩)] w (VP (tkV (nx ts (st.i + 1))) w) := by
  obtain ⟨A, eA, hbA, hsA, hhA⟩ := box_new w #[.int .i64 0, .string ⟨#[]⟩, .int .i64 0] 87
  obtain ⟨g, c, x0, x1, x2, x3, x4, hc, hr, hf, ht⟩ := hR.facts hbA
  have hp := hR.lt
  have hl := hT.len
  obtain ⟨i, er, ea⟩ := st
  have g1 : (i : Int) < (ts.length : Int) := by have : i < ts.length := hp; omega
  have g2 : (ts.length : Int) ≤ 100000 := by omega
  have g3 : (0 : Int) ≤ (i : Int) := by omega
  have y0 : A.cell? ⟨w.heap.size, 0, none⟩ = some (.int .i64 0) := (blk hhA).2.1 0 _ rfl
  have y1 : A.cell? ⟨w.heap.size, 1, none⟩ = some (.string ⟨#[]⟩) := (blk hhA).2.1 1 _ rfl
  have y2 : A.cell? ⟨w.heap.size, 2, none⟩ = some (.int .i64 0) := (blk hhA).2.1 2 _ rfl
  have z0 := (blk hhA).2.2 0
  have z1 := (blk hhA).2.2 1
  have z2 := (blk hhA).2.2 2
  have HB := hide (And.intro hbA hhA)
  have HE := hide eA
  unfold VP
  obtain ⟨L, hL⟩ : ∃ L, ts.length = L := ⟨_, rfl⟩
  by_cases hi : i + 1 < ts.length
  · obtain ⟨t0, t1, t2⟩ := ht (i + 1) _ (nx_of hi)
    have g4 : (i : Int) + 1 < (ts.length : Int) := by omega
    unfold tkV
    obtain ⟨X, hX⟩ : ∃ X, nx ts (i + 1) = X := ⟨_, rfl⟩
    simp only at t0 t1 t2 x1 ⊢
    rw [hX] at t0 t1 t2 ⊢
    rw [hL] at x0 g1 g2 g4
    clear hR hT eA hbA hsA hhA hX hL ht hc hp hl hf hi
    go_enter Tryd.func77, Tryd.ntmps77
    go_wp2_with fail
    rw [unhide HE]
    go_region
    go_wp2_with fail
    have q0 : A.drew.cell? ⟨r, 0, none⟩ = some (.slice (some ⟨g, 0, none⟩) L c) := x0
    have q1 : A.drew.cell? ⟨r, 1, none⟩ = some (.int .i64 i) := x1
    have p0 : A.drew.cell? ⟨g, (i + 1) * 3, none⟩ = some (.int .i64 X.1) := t0
    have p1 : A.drew.cell? ⟨g, (i + 1) * 3 + 1, none⟩ = some (.string X.2.1) := t1
    have p2 : A.drew.cell? ⟨g, (i + 1) * 3 + 2, none⟩ = some (.int .i64 X.2.2) := t2
    have u0 : A.drew.cell? ⟨w.heap.size, 0, none⟩ = some (.int .i64 0) := y0
    have u1 : A.drew.cell? ⟨w.heap.size, 1, none⟩ = some (.string ⟨#[]⟩) := y1
    have u2 : A.drew.cell? ⟨w.heap.size, 2, none⟩ = some (.int .i64 0) := y2
    have v0 : A.drew.frozen? ⟨w.heap.size, 0, none⟩ = false := z0
    have v1 : A.drew.frozen? ⟨w.heap.size, 1, none⟩ = false := z1
    have v2 : A.drew.frozen? ⟨w.heap.size, 2, none⟩ = false := z2
    have hr2 : r < A.drew.heap.size := hr
    go_region
    go_wp2
    obtain ⟨hbA, hhA⟩ := unhide HB
    refine bodyPost_ret (res_row (cs := [.int .i64 X.1, .string X.2.1, .int .i64 X.2.2]) rfl rfl (range_block (by rw [heap_drew, heap_drew]; exact fill3 hhA)) rfl rfl rfl) rfl ?_
    exact ⟨rfl, (below_set (below_set (below_set hbA (Nat.le_refl _) _ _) (Nat.le_refl _) _ _) (Nat.le_refl _) _ _).drew.drew⟩
  · have g4 : decide ((i : Int) + 1 < (ts.length : Int)) = false := by simp; omega
    have g5 : ¬ (i : Int) + 1 < (ts.length : Int) := by omega
    have hz : nx ts (i + 1) = (0, ⟨#[]⟩, 0) := by
      unfold nx
      rw [List.getD_eq_getElem?_getD, List.getElem?_eq_none (by omega)]
      rfl
    simp only at x1 ⊢
    rw [hz]
    unfold tkV
    rw [hL] at x0 g1 g2 g4 g5
    clear hR hT eA hbA hsA hhA hL ht hc hp hl hf hi hz
    go_enter Tryd.func77, Tryd.ntmps77
    go_wp2_with fail
    rw [unhide HE]
    go_region
    have u0 : A.drew.cell? ⟨w.heap.size, 0, none⟩ = some (.int .i64 0) := y0
    have u1 : A.drew.cell? ⟨w.heap.size, 1, none⟩ = some (.string ⟨#[]⟩) := y1
    have u2 : A.drew.cell? ⟨w.heap.size, 2, none⟩ = some (.int .i64 0) := y2
    have v0 : A.drew.frozen? ⟨w.heap.size, 0, none⟩ = false := z0
    have v1 : A.drew.frozen? ⟨w.heap.size, 1, none⟩ = false := z1
    have v2 : A.drew.frozen? ⟨w.heap.size, 2, none⟩ = false := z2
    go_wp2
    obtain ⟨hbA, hhA⟩ := unhide HB
    refine bodyPost_ret (res_row (cs := [.int .i64 0, .string ⟨#[]⟩, .int .i64 0]) rfl rfl (range_block (fill3 hhA)) rfl rfl rfl) rfl ?_
    exact ⟨rfl, below_set (below_set (below_set hbA.drew (Nat.le_refl _) _ _) (Nat.le_refl _) _ _) (Nat.le_refl _) _ _⟩
end Go.Proofs.YtljhpbjngbbjbaaDoor

/- The document's parser: a rule's contract; expr. -/
namespace Go.Proofs.YtljhpbjngbbjbaaDoor
open Go Go.RowKit
/-- What a rule of expressions answers. -/
def DE (x : Ex × PS) (r : Nat) (ts : List (Int × ByteArray × Int)) (d : Nat) (w : World) (e : Ending) (w' : World) : Prop := DP (fun w' v t => IsE w' w.heap.size v t) x r ts d w e w'
theorem PD.put {w : World} {r d q : Nat} {st : PS} {ts : List (Int × ByteArray × Int)} (h : PD w r ts st d) (hq : r < q) (x0 x1 x2 x3 x4 x5 x6 : Value) : PD (set7 w q x0 x1 x2 x3 x4 x5 x6) r ts st d := h.out hq fun k hk => by
  unfold set7
  exact same7 (by omega) _ _ _ _ _ _ _
theorem PD.deep {w : World} {r d e : Nat} {st : PS} {ts : List (Int × ByteArray × Int)} (h : PD w r ts st d) : PD (w.setCell ⟨r, 4, none⟩ (.int .i64 (e : Int))) r ts st e := h.set ((But.refl r w).set _ _) h.lt fun g c h => set_block h _
theorem dret_put {fn : Func} {a : Act} {tt : Nat} {w w3 : World} {r d lo : Nat} {ts : List (Int × ByteArray × Int)} {t : Ex} {st : PS} {Y : Ex × PS} {x0 x1 x2 x3 x4 x5 x6 : Value} (hf : fn.results = #[.cell tt 51]) (ht : a.tmps[tt]? = some (.pointer (some ⟨w.heap.size, 0, none⟩))) (hdf : a.defers = []) (hbu : But r w w3) (hr : r < w.heap.size) (hz : ZB w3 w.heap.size) (hY : Y = (t, st)) (hR : PD w3 r ts st d) (hlo : w.heap.size < lo) (hv : IsE w3 lo (.agg #[x0, x1, x2, x3, x4, x5, x6]) t) :
    bodyPost Tryd.prog fn (DE Y r ts d w) .ret a (set7 w3 w.heap.size x0 x1 x2 x3 x4 x5 x6) := by
  subst hY
  refine bodyPost_ret (res_row (cs := [x0, x1, x2, x3, x4, x5, x6]) hf ht (range_block (fill7 hz)) Tryd.underlying51 rfl (by kernel_rfl)) hdf ?_
  exact ⟨but7 hbu (Nat.le_refl _) _ _ _ _ _ _ _, hR.put hr _ _ _ _ _ _ _, _, rfl, hv.keep (stays7 (Stays.of (Below.refl _ _)) hlo _ _ _ _ _ _ _) (by omega)⟩
/-- A rule's contract at a depth. -/
def DcC (f : Nat) (r : Nat) (ts : List (Int × ByteArray × Int)) (d : Nat) (X : PS → Ex × PS) : Prop := ∀ (w : World) (st : PS), PD w r ts st d → Calls Tryd.prog f #[.pointer (some ⟨r, 0, none⟩)] w (DE (X st) r ts d w)
set_option maxRecDepth 100000 in
set_option maxHeartbeats 4000000 in
theorem dexpr_top {r d : Nat} {ts : List (Int × ByteArray × Int)} (hT : TsOk ts) (hd : 200 ≤ d) (hd2 : d ≤ 100000) : DcC 54 r ts d (fun st => (zEx, st.fail (tD ts st).2.2 151)) := by
  intro w st hR
  obtain ⟨A, eA, hbA, hzA, hsA⟩ := zb_new w
  have hr := hR.rlt
  have HC := hide (down_no (hR.keep hbA) hT hd hd2)
  have HA := hide (And.intro hbA hzA)
  have HE := hide eA
  obtain ⟨s2, hs⟩ : ∃ s2, st.fail (tD ts st).2.2 151 = s2 := ⟨_, rfl⟩
  rw [hs] at HC
  have HSS := hide hs
  have g1 : (0 : Int) ≤ (d : Int) := by omega
  have g2 : (d : Int) ≤ 100000 := by omega
  have hne : r ≠ w.heap.size := by omega
  clear hR hT hd hd2 eA hbA hzA hsA hs
  go_enter Tryd.func54, Tryd.ntmps54
  go_wp2_with fail
  rw [unhide HE]
  refine (unhide HC).mono ?_
  rintro e w2 ⟨rfl, hb2, hR2⟩
  have hz2 := (unhide HA).2.but hb2 hne
  obtain ⟨g, c, x0, x1, x2, x3, x4, hc, hrl, hf, ht⟩ := hR2.facts (Below.refl _ _)
  have f4 := hf 4
  obtain ⟨y0, y1, y2, y3, y4, y5, y6⟩ := blk7 hz2
  obtain ⟨z0, z1, z2, z3, z4, z5, z6⟩ := frz7 hz2
  have H2 := hide (And.intro ((But.of (r := r) (unhide HA).1).trans hb2) (And.intro hR2 hz2))
  clear hb2 hR2 hz2 HC hc hf ht x0 x1 x2 x3
  go_wp2
  obtain ⟨hb, hR2, hz2⟩ := unhide H2
  have hz3 : ZB (w2.setCell ⟨r, 4, none⟩ (.int .i64 (d : Int))) w.heap.size := hz2.but ((But.refl r w2).set _ _) hne
  refine bodyPost_ret (res_row (cs := [.int .i64 0, .string ⟨#[]⟩, .string ⟨#[]⟩, .bool false, .slice none 0 0, .int .i64 0, .int .i64 0]) rfl rfl (range_block (fill7 hz3)) Tryd.underlying51 rfl (by kernel_rfl)) rfl ?_
  refine ⟨but7 (hb.set 4 _) (Nat.le_refl _) _ _ _ _ _ _ _, ?_, _, rfl, leaf 0 0 ⟨#[]⟩ ⟨#[]⟩ false⟩
  rw [unhide HSS]
  exact hR2.deep.put hr _ _ _ _ _ _ _
end Go.Proofs.YtljhpbjngbbjbaaDoor

namespace Go.Proofs.YtljhpbjngbbjbaaDoor
open Go Go.RowKit
/-- A rule's contract at a depth, where there is no error yet. -/
def DcO (f : Nat) (r : Nat) (ts : List (Int × ByteArray × Int)) (d : Nat) (X : PS → Ex × PS) : Prop := ∀ (w : World) (st : PS), st.e = 0 → PD w r ts st d → Calls Tryd.prog f #[.pointer (some ⟨r, 0, none⟩)] w (DE (X st) r ts d w)
set_option maxRecDepth 100000 in
set_option maxHeartbeats 4000000 in
theorem dexpr_of {r d : Nat} {ts : List (Int × ByteArray × Int)} {X : PS → Ex × PS} (hd : d < 200) (hX : DcO 66 r ts (d + 1) X) : DcC 54 r ts d (fun st => if st.e = 0 then X st else (zEx, st)) := by
  intro w st hR
  obtain ⟨A, eA, hbA, hzA, hsA⟩ := zb_new w
  have hr := hR.rlt
  have HC := hide (down_yes (hR.keep hbA) hd)
  have HA := hide (And.intro hbA hzA)
  have HE := hide eA
  obtain ⟨Y, hY⟩ : ∃ Y, (if st.e = 0 then X st else (zEx, st)) = Y := ⟨_, rfl⟩
  show Calls _ _ _ _ (DE (if st.e = 0 then X st else (zEx, st)) r ts d w)
  rw [hY]
  have g1 : (0 : Int) ≤ (d : Int) := by omega
  have g2 : (d : Int) < 200 := by omega
  have hne : r ≠ w.heap.size := by omega
  clear hR hd eA hbA hzA hsA
  by_cases he : st.e = 0
  · have d1 : decide (st.e = 0) = true := decide_eq_true he
    rw [d1] at HC
    rw [if_pos he] at hY
    have HEr := hide he
    have HX := hide hX
    clear d1 he hX
    have HY := hide hY
    clear hY
    go_enter Tryd.func54, Tryd.ntmps54
    go_wp2_with fail
    rw [unhide HE]
    refine (unhide HC).mono ?_
    rintro e w2 ⟨rfl, hb2, hR2⟩
    have HC2 := hide (unhide HX w2 st (unhide HEr) hR2)
    rw [unhide HY] at HC2
    have H2 := hide (And.intro ((But.of (r := r) (unhide HA).1).trans hb2) ((unhide HA).2.but hb2 hne))
    clear HX hb2 hR2 HC
    go_wp2_with fail
    refine (unhide HC2).mono ?_
    rintro e w3 ⟨hb3, hR3, v, rfl, hv⟩
    obtain ⟨i0, i6, s1, s2, b3, a4, n4, c4, rfl⟩ := hv.form
    have hz3 := (unhide H2).2.but hb3 hne
    obtain ⟨B, eB, hbB, hsB, hhB⟩ := box_new w3 #[.int .i64 i0, .string s1, .string s2, .bool b3, .slice a4 n4 c4, .int .i64 0, .int .i64 i6] 51
    have hzB := hz3.but (But.of (r := r) hbB) hne
    have hRB := hR3.keep hbB
    have n2 : r ≠ w3.heap.size := by have := hR3.rlt; omega
    have n3 : w.heap.size ≠ w3.heap.size := by have := (blk hz3).1; omega
    obtain ⟨g, c, x0, x1, x2, x3, x4, hc, hrl, hf, ht⟩ := hRB.facts (Below.refl _ _)
    have f4 := hf 4
    obtain ⟨y0, y1, y2, y3, y4, y5, y6⟩ := blk7 hzB
    obtain ⟨z0, z1, z2, z3, z4, z5, z6⟩ := frz7 hzB
    obtain ⟨q0, q1, q2, q3, q4, q5, q6⟩ := blk7 hhB
    have hs2 := (blk (unhide H2).2).1
    have H3 := hide (And.intro ((unhide H2).1.trans (hb3.trans (But.of (r := r) hbB))) (And.intro hRB (And.intro hzB (And.intro hv (And.intro hbB hs2)))))
    have HEB := hide eB
    rw [← eB] at x4 hrl f4 y0 y1 y2 y3 y4 y5 y6 z0 z1 z2 z3 z4 z5 z6 q0 q1 q2 q3 q4 q5 q6
    clear hb3 hR3 hv hz3 eB hbB hsB hhB hzB hRB hc hf ht x0 x1 x2 x3 HC2 hs2
    go_wp2
    rw [unhide HEB]
    obtain ⟨hbu, hRB, hzB, hv, hbB, hs2⟩ := unhide H3
    have hz4 : ZB (B.setCell ⟨r, 4, none⟩ (.int .i64 (d : Int))) w.heap.size := hzB.but ((But.refl r B).set _ _) hne
    refine bodyPost_ret (res_row (cs := [.int .i64 i0, .string s1, .string s2, .bool b3, .slice a4 n4 c4, .int .i64 0, .int .i64 i6]) rfl rfl (range_block (fill7 hz4)) Tryd.underlying51 rfl (by kernel_rfl)) rfl ?_
    refine ⟨but7 (hbu.set 4 _) (Nat.le_refl _) _ _ _ _ _ _ _, hRB.deep.put hr _ _ _ _ _ _ _, _, rfl, ?_⟩
    exact hv.keep (stays7 ((Stays.of hbB).set (by omega) _ _) hs2 _ _ _ _ _ _ _) (by omega)
  · have d1 : decide (st.e = 0) = false := decide_eq_false he
    rw [d1] at HC
    rw [if_neg he] at hY
    subst hY
    clear d1 he hX
    go_enter Tryd.func54, Tryd.ntmps54
    go_wp2_with fail
    rw [unhide HE]
    refine (unhide HC).mono ?_
    rintro e w2 ⟨rfl, hb2, hR2⟩
    have hz2 := (unhide HA).2.but hb2 hne
    obtain ⟨g, c, x0, x1, x2, x3, x4, hc, hrl, hf, ht⟩ := hR2.facts (Below.refl _ _)
    have f4 := hf 4
    obtain ⟨y0, y1, y2, y3, y4, y5, y6⟩ := blk7 hz2
    obtain ⟨z0, z1, z2, z3, z4, z5, z6⟩ := frz7 hz2
    have H2 := hide (And.intro ((But.of (r := r) (unhide HA).1).trans hb2) (And.intro hR2 hz2))
    clear hb2 hR2 hz2 HC hc hf ht x0 x1 x2 x3
    go_wp2
    obtain ⟨hb, hR2, hz2⟩ := unhide H2
    have hz3 : ZB (w2.setCell ⟨r, 4, none⟩ (.int .i64 (d : Int))) w.heap.size := hz2.but ((But.refl r w2).set _ _) hne
    refine bodyPost_ret (res_row (cs := [.int .i64 0, .string ⟨#[]⟩, .string ⟨#[]⟩, .bool false, .slice none 0 0, .int .i64 0, .int .i64 0]) rfl rfl (range_block (fill7 hz3)) Tryd.underlying51 rfl (by kernel_rfl)) rfl ?_
    exact ⟨but7 (hb.set 4 _) (Nat.le_refl _) _ _ _ _ _ _ _, hR2.deep.put hr _ _ _ _ _ _ _, _, rfl, leaf 0 0 ⟨#[]⟩ ⟨#[]⟩ false⟩
end Go.Proofs.YtljhpbjngbbjbaaDoor
