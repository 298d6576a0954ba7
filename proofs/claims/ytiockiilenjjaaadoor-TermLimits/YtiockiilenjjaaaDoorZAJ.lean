/- A variable's sort. -/
import Derived.Test.YtiockiilenjjaaaDoorZAI
set_option linter.unusedVariables false
set_option linter.unusedSimpArgs false

/- Sorts out of operands' sorts: operators. -/
namespace Go.Proofs.YtiockiilenjjaaaDoor
open Go Go.RowKit
set_option maxRecDepth 1000000 in
set_option maxHeartbeats 16000000 in
theorem operated_ite {w : World} {vs : Value} {s0 s1 s2 : Int} (hS : Ints w vs [s0, s1, s2]) :
    Calls Tryd.prog 84 #[.int .i64 16, vs] w (VPost (optV (operatedT 16 [s0, s1, s2])) w) := by
  obtain ⟨a, c, rfl, hmax, hcell⟩ := hS
  obtain ⟨b, off, rfl, hb, hc⟩ := hcell (by simp)
  have p0 : w.cell? ⟨b, off, none⟩ = some (.int .i64 s0) := hc 0 _ rfl
  have p1 : w.cell? ⟨b, off + 1, none⟩ = some (.int .i64 s1) := hc 1 _ rfl
  have p2 : w.cell? ⟨b, off + 2, none⟩ = some (.int .i64 s2) := hc 2 _ rfl
  have hT : operatedT 16 [s0, s1, s2] = if s0 = 2 ∧ s1 = s2 then some s1 else none := rfl
  rw [hT]
  clear hc hcell hT hmax
  rw [show ([s0, s1, s2] : List Int).length = 3 from rfl]
  by_cases h0 : s0 = 2
  · by_cases h1 : s1 = s2
    · subst h0 h1
      rw [if_pos ⟨rfl, rfl⟩]
      go_enter Tryd.func84, Tryd.ntmps84
      go_wp2
      go_quiet (fail)
      go_wp2
      go_ret2
      exact ⟨rfl, below_drewN (Below.refl _ w) _⟩
    · rw [if_neg (fun h => h1 h.2)]
      subst h0
      have e1 : (s1 != s2) = true := by simp [h1]
      clear h1
      go_enter Tryd.func84, Tryd.ntmps84
      go_wp2
      go_quiet (fail)
      go_wp2
      go_ret2
      exact ⟨rfl, below_drewN (Below.refl _ w) _⟩
  · rw [if_neg (fun h => h0 h.1)]
    have e0 : (s0 != 2) = true := by simp [h0]
    clear h0
    go_enter Tryd.func84, Tryd.ntmps84
    go_wp2
    go_quiet (fail)
    go_wp2
    go_ret2
    exact ⟨rfl, below_drewN (Below.refl _ w) _⟩
theorem all_take {ss : List Int} {E : Int} {i : Nat} (h : i < ss.length) : ((ss.take (i + 1)).all fun s => s == E) = (((ss.take i).all fun s => s == E) && ss[i] == E) := by
  rw [take_more h, List.all_append]
  simp
set_option maxRecDepth 1000000 in
set_option maxHeartbeats 16000000 in
theorem operated_op {w : World} {vs : Value} {k : Nat} {ss : List Int} (h0 : 0 < w.heap.size) (hR : RL w) (hS : Ints w vs ss) (hk1 : 4 ≤ k) (hk2 : k < 16) (hn0 : opEach k = 0 → ss.length ≠ 0) :
    Calls Tryd.prog 84 #[.int .i64 k, vs] w (VPost (optV (operatedT k ss)) w) := by
  obtain ⟨a, c, rfl, hmax, hcell⟩ := hS
  obtain ⟨r0, r1, r2, r3⟩ := hR k hk1 (by omega)
  have hT : operatedT k ss = if ss.all fun s => s == (if opEach k = 0 then ss.getD 0 0 else opEach k) then some (opOwn k) else none := by unfold operatedT; rw [if_neg (by omega)]
  generalize hE : (if opEach k = 0 then ss.getD 0 0 else opEach k) = E at *
  have HT := hide hT
  obtain ⟨W, eW, hbW, hsW, hcW, hhW⟩ := box_new w #[.string ⟨(opWord k).toArray⟩, .int .i64 (opCount k), .int .i64 (opEach k), .int .i64 (opOwn k)] 175
  have q2 : W.cell? ⟨w.heap.size, 2, none⟩ = some (.int .i64 (opEach k)) := hcW 2 _ rfl
  have q3 : W.cell? ⟨w.heap.size, 3, none⟩ = some (.int .i64 (opOwn k)) := hcW 3 _ rfl
  have hki : (k : Int) < 17 := by omega
  have hk16 : ((k : Int) == 16) = false := by simp; omega
  have HB := hide hbW
  have HC := hide hcell
  have HE := hide hE
  have HN0 := hide hn0
  clear hbW hsW hcW hhW hT hcell hE hn0 hR
  generalize hn : ss.length = n at *
  have HN := hide hn
  clear hn
  generalize opWord k = ow at *
  generalize opCount k = oc at *
  have hmain : ∀ (Q : Prop), (Q → Q) := fun _ h => h
  by_cases he : opEach k = 0
  · have hpos : (0 : Int) < (n : Int) := by have := unhide HN0 he; omega
    obtain ⟨b, off, rfl, hb, hc⟩ := unhide HC (by omega)
    have hE2 := unhide HE
    rw [if_pos he] at hE2
    have hs0 : ss[0]? = some E := by
      have : 0 < ss.length := by have := unhide HN; omega
      rw [List.getD_eq_getElem?_getD] at hE2
      rw [List.getElem?_eq_getElem this] at hE2 ⊢
      simp at hE2
      rw [hE2]
    have p0 : W.cell? ⟨b, off, none⟩ = some (.int .i64 E) := ((unhide HB).cell (p := ⟨b, off, none⟩) hb).trans (hc 0 _ hs0)
    have HCC := hide (And.intro hb hc)
    have eE : (opEach k == 0) = true := by simp [he]
    generalize opEach k = oe at *
    clear hE2 hs0 hc he hmain
    go_enter Tryd.func84, Tryd.ntmps84
    go_wp2
    go_loop [40] (fun iv => ∃ i : Nat, i ≤ n ∧ iv = .int .i64 (i : Int) ∧ ((ss.take i).all fun s => s == E) = true) (fun iv => (n - (intOf iv).toNat))
    case atStart => exact ⟨0, Nat.zero_le _, rfl, rfl⟩
    case round =>
      obtain ⟨i, hi, rfl, hpre⟩ := hrel
      clear hpos p0 eE q2 r0 r1 r2 r3 eW HN0 HE hki hk16 hk1 hk2
      by_cases hlt : i < n
      · have h1 : i < ss.length := by have := unhide HN; omega
        have hd1 : decide ((i : Int) < (n : Int)) = true := by simp; omega
        have hXi : (i : Int) < (n : Int) := by omega
        have hcap : (i : Int) < 281474976710656 := by omega
        have p1 : W.cell? ⟨b, off + i, none⟩ = some (.int .i64 ss[i]) := ((unhide HB).cell (p := ⟨b, off + i, none⟩) (unhide HCC).1).trans ((unhide HCC).2 i _ (List.getElem?_eq_getElem h1))
        have hmo := all_take (E := E) h1
        have hno : ¬ ss[i] = E → ¬ (ss.all fun s => s == E) = true := fun h e => h (by simpa using List.all_eq_true.1 e _ (List.getElem_mem h1))
        have HP := hide (And.intro hpre (And.intro hmo hno))
        clear hpre hmo hno
        generalize ss[i] = x at *
        by_cases hxy : x = E
        · subst hxy
          go_wp2
          obtain ⟨hpre, hmo, _⟩ := unhide HP
          exact ⟨⟨i + 1, by omega, rfl, by rw [hmo, hpre]; simp⟩, by simp only [intOf]; omega⟩
        · have exy : (x != E) = true := by simp [hxy]
          have HXY := hide hxy
          clear hxy
          go_wp2
          go_ret2
          refine ⟨?_, unhide HB⟩
          rw [unhide HT, if_neg ((unhide HP).2.2 (unhide HXY))]
          rfl
      · have hin : i = n := by omega
        have hd1 : decide ((i : Int) < (n : Int)) = false := by simp; omega
        rw [List.take_of_length_le (by have := unhide HN; omega)] at hpre
        have HA := hide hpre
        clear hpre hin
        go_wp2
        go_ret2
        refine ⟨?_, unhide HB⟩
        rw [unhide HT, if_pos (unhide HA)]
        rfl
  · have hE2 := unhide HE
    rw [if_neg he] at hE2
    have eE : (opEach k == 0) = false := by simp [he]
    rw [hE2] at eE q2
    have HCC := HC
    clear hE2 he hmain
    generalize opEach k = oe at *
    clear HE
    go_enter Tryd.func84, Tryd.ntmps84
    go_wp2
    go_loop [40] (fun iv => ∃ i : Nat, i ≤ n ∧ iv = .int .i64 (i : Int) ∧ ((ss.take i).all fun s => s == E) = true) (fun iv => (n - (intOf iv).toNat))
    case atStart => exact ⟨0, Nat.zero_le _, rfl, rfl⟩
    case round =>
      obtain ⟨i, hi, rfl, hpre⟩ := hrel
      by_cases hlt : i < n
      · have h1 : i < ss.length := by have := unhide HN; omega
        have hd1 : decide ((i : Int) < (n : Int)) = true := by simp; omega
        have hXi : (i : Int) < (n : Int) := by omega
        have hcap : (i : Int) < 281474976710656 := by omega
        obtain ⟨b, off, rfl, hb, hc⟩ := unhide HCC (by omega)
        have p1 : W.cell? ⟨b, off + i, none⟩ = some (.int .i64 ss[i]) := ((unhide HB).cell (p := ⟨b, off + i, none⟩) hb).trans (hc i _ (List.getElem?_eq_getElem h1))
        have hmo := all_take (E := E) h1
        have hno : ¬ ss[i] = E → ¬ (ss.all fun s => s == E) = true := fun h e => h (by simpa using List.all_eq_true.1 e _ (List.getElem_mem h1))
        have HP := hide (And.intro hpre (And.intro hmo hno))
        clear hpre hmo hno hc
        generalize ss[i] = x at *
        by_cases hxy : x = E
        · subst hxy
          go_wp2
          obtain ⟨hpre, hmo, _⟩ := unhide HP
          exact ⟨⟨i + 1, by omega, rfl, by rw [hmo, hpre]; simp⟩, by simp only [intOf]; omega⟩
        · have exy : (x != E) = true := by simp [hxy]
          have HXY := hide hxy
          clear hxy
          go_wp2
          go_ret2
          refine ⟨?_, unhide HB⟩
          rw [unhide HT, if_neg ((unhide HP).2.2 (unhide HXY))]
          rfl
      · have hin : i = n := by omega
        have hd1 : decide ((i : Int) < (n : Int)) = false := by simp; omega
        rw [List.take_of_length_le (by have := unhide HN; omega)] at hpre
        have HA := hide hpre
        clear hpre hin
        go_wp2
        go_ret2
        refine ⟨?_, unhide HB⟩
        rw [unhide HT, if_pos (unhide HA)]
        rfl
end Go.Proofs.YtiockiilenjjaaaDoor

/- The sort of a node out of its operands'. -/
namespace Go.Proofs.YtiockiilenjjaaaDoor
open Go Go.RowKit
theorem optV_form (o : Option Int) : ∃ x y, optV o = .tuple #[.int .i64 x, .bool y] := by
  cases o with
  | none => exact ⟨_, _, rfl⟩
  | some s => exact ⟨_, _, rfl⟩
set_option maxRecDepth 1000000 in
set_option maxHeartbeats 16000000 in
theorem sortOf_app {w : World} {B r rf rb b o : Nat} {name : ByteArray} {sig : List Fn} {env : ByteArray → List Int} {vs : Value} {ss : List Int} {f : Fn} (hK : KS w B r rf rb sig env) (hb : b < w.heap.size) (c1 : w.cell? ⟨b, o + 1, none⟩ = some (.string name)) (hS : Ints w vs ss) (hf : findF name sig = some f) (hl : ss.length = f.args.length) :
    Calls Tryd.prog 58 #[.pointer (some ⟨r, 0, none⟩), .iface 160 (.agg #[.pointer (some ⟨b, o, none⟩)]), vs] w (VPost (optV (appliedT f ss)) w) := by
  have hBw : B ≤ w.heap.size := by have := hK.r_lt; have := hK.hr; omega
  have ta0 := fun w => ta_yes (ty := 160) (v := .agg #[.pointer (some ⟨b, o, none⟩)]) (w := w) rfl rfl
  obtain ⟨W, eW, hbW, hsW, hcW, hhW⟩ := box_new w #[.pointer (some ⟨b, o, none⟩)] 160
  have hKW : KS W B r rf rb sig env := hK.below hbW (Nat.le_refl _)
  have hqlt : w.heap.size < W.heap.size := (blk hhW).1
  obtain ⟨v, hv, _, hlk⟩ := hKW.fm.asked name
  have hFv : FnV W B v f := by
    rcases hv with ⟨e, _⟩ | ⟨g, e, h⟩
    · rw [hf] at e; cases e
    · rw [hf] at e; cases e; exact h
  have hSW := hS.below hbW
  have HAp : Hid (∀ w', Below W.heap.size W w' → Calls Tryd.prog 83 #[v, vs] w' (VPost (optV (appliedT f ss)) w')) := fun w' h => applied_any (hFv.below (h.mono (Nat.le_trans hBw hbW.size))) (hSW.below h) (Nat.le_trans hBw (Nat.le_trans hbW.size h.size)) hl
  have HSS : Hid (∀ w', Below W.heap.size W w' → (Below W.heap.size W w' ∧ w'.cell? ⟨r, 0, none⟩ = some (.map (some rf)) ∧ w'.cell? ⟨w.heap.size, 0, none⟩ = some (.pointer (some ⟨b, o, none⟩)) ∧ w'.cell? ⟨b, o + 1, none⟩ = some (.string name) ∧ (Instr.lookup 97 (.map (some rf)) (.string name) false).run Tryd.prog w' = .ok v w')) := fun w' h => by
    refine ⟨h, (hKW.below h (Nat.le_refl _)).cells.1, (h.cell (p := ⟨w.heap.size, 0, none⟩) hqlt).trans ((blk hhW).2.1 0 _ rfl), ((hbW.trans (h.mono hbW.size)).cell (p := ⟨b, o + 1, none⟩) hb).trans c1, ?_⟩
    obtain ⟨es, h1, h2⟩ := hKW.fm
    have hl := nm_lookup (k := name) umF ukS (zF w') (h1.below h h1.lt)
    have hl0 := nm_lookup (k := name) umF ukS (zF W) h1
    rw [hl0.2] at hlk
    injection hlk with e
    rw [hl.2, e]
  have HB := hide hbW
  obtain ⟨a, c, rfl, hmax, hcell⟩ := hS
  obtain ⟨fa, fc, rfl, hfo, hRow⟩ := hFv
  clear hK hb c1 hf hl hBw hbW hsW hcW hhW hKW hqlt hv hlk hSW hmax hcell hfo hRow
  obtain ⟨x, y, hxy⟩ := optV_form (appliedT f ss)
  rw [hxy] at HAp
  have HXY := hide hxy
  clear hxy
  generalize ss.length = n at *
  generalize f.args.length = m at *
  obtain ⟨_, m0, q0, n0, _⟩ := unhide HSS W (Below.refl _ W)
  go_enter Tryd.func58, Tryd.ntmps58
  go_wp2
  go_region_held3 (fun w' => Below W.heap.size W w' ∧ w'.cell? ⟨r, 0, none⟩ = some (.map (some rf)) ∧ w'.cell? ⟨w.heap.size, 0, none⟩ = some (.pointer (some ⟨b, o, none⟩)) ∧ w'.cell? ⟨b, o + 1, none⟩ = some (.string name) ∧ (Instr.lookup 97 (.map (some rf)) (.string name) false).run Tryd.prog w' = .ok (.agg #[.string f.name, .slice fa m fc, .int .i64 f.out]) w') (first | assumption | exact unhide HSS _ hT1 | exact unhide HSS _ (keep0 _) | exact unhide HSS _ (keepC (by assumption) (by assumption))) ((go_at_call 83; refine (unhide HAp _ (keep0 _)).mono ?_; rintro e v1 ⟨rfl, hv1⟩; have hT1 : Below W.heap.size W v1 := (keep0 W).trans hv1; clear hv1))
  all_goals
    have HT := hide hT1
    clear hT1
    go_wp2
    go_ret2
    exact ⟨by rw [unhide HXY]; rfl, (unhide HB).trans ((unhide HT).mono (unhide HB).size)⟩
theorem sortOfT_app {sig : List Fn} {name : ByteArray} {ss : List Int} {f : Fn} (hf : findF name sig = some f) : sortOfT sig 17 name ss = appliedT f ss := by
  unfold sortOfT
  rw [if_pos rfl, hf]
  rfl
set_option maxRecDepth 1000000 in
set_option maxHeartbeats 16000000 in
theorem sortOf_op {w : World} {r b o k : Nat} {vs : Value} {ss : List Int} {res : Option Int} (hb : b < w.heap.size) (c0 : w.cell? ⟨b, o, none⟩ = some (.int .i64 k)) (hS : Ints w vs ss)
    (hO : ∀ W, Below w.heap.size w W → Calls Tryd.prog 84 #[.int .i64 k, vs] W (VPost (optV res) W)) :
    Calls Tryd.prog 58 #[.pointer (some ⟨r, 0, none⟩), .iface 159 (.agg #[.pointer (some ⟨b, o, none⟩)]), vs] w (VPost (optV res) w) := by
  have ta0 := fun w => ta_no (k := 159) (ty := 160) (v := .agg #[.pointer (some ⟨b, o, none⟩)]) (z := .agg #[.pointer none]) (w := w) (by decide) rfl rfl (by go_simp)
  have ta1 := fun w => ta_yes (ty := 159) (v := .agg #[.pointer (some ⟨b, o, none⟩)]) (w := w) rfl rfl
  obtain ⟨a, c, rfl, hmax, hcell⟩ := hS
  obtain ⟨x, y, hxy⟩ := optV_form res
  rw [hxy] at hO ⊢
  have HO := hide hO
  clear hO hxy hmax hcell
  go_enter Tryd.func58, Tryd.ntmps58
  go_wp2_with fail
  have hBB : ∀ o1 o2 : Obj, Below w.heap.size w ((w.alloc o1).alloc o2) := fun o1 o2 => ((Below.refl _ w).alloc (Nat.le_refl _) _).alloc (by simp) _
  refine (unhide HO _ (hBB _ _)).mono ?_
  rintro e w2 ⟨rfl, hb2⟩
  have HB := hide (show Below w.heap.size w w2 from (hBB _ _).trans (hb2.mono (by simp; omega)))
  clear hb2 hBB
  go_wp2
  go_ret2
  exact ⟨rfl, unhide HB⟩
set_option maxRecDepth 1000000 in
set_option maxHeartbeats 16000000 in
theorem sortOf_num {w : World} {r b o : Nat} {vs : Value} :
    Calls Tryd.prog 58 #[.pointer (some ⟨r, 0, none⟩), .iface 125 (.agg #[.pointer (some ⟨b, o, none⟩)]), vs] w (VPost (optV (some 1)) w) := by
  have ta0 := fun w => ta_no (k := 125) (ty := 160) (v := .agg #[.pointer (some ⟨b, o, none⟩)]) (z := .agg #[.pointer none]) (w := w) (by decide) rfl rfl (by go_simp)
  have ta1 := fun w => ta_no (k := 125) (ty := 159) (v := .agg #[.pointer (some ⟨b, o, none⟩)]) (z := .agg #[.pointer none]) (w := w) (by decide) rfl rfl (by go_simp)
  have ta2 := fun w => ta_yes (ty := 125) (v := .agg #[.pointer (some ⟨b, o, none⟩)]) (w := w) rfl rfl
  go_enter Tryd.func58, Tryd.ntmps58
  go_wp2
  go_ret2
  exact ⟨rfl, three (Below.refl _ w) (Nat.le_refl _) _ _ _⟩
set_option maxRecDepth 1000000 in
set_option maxHeartbeats 16000000 in
theorem sortOf_truth {w : World} {r b o : Nat} {vs : Value} :
    Calls Tryd.prog 58 #[.pointer (some ⟨r, 0, none⟩), .iface 158 (.agg #[.pointer (some ⟨b, o, none⟩)]), vs] w (VPost (optV (some 2)) w) := by
  have ta0 := fun w => ta_no (k := 158) (ty := 160) (v := .agg #[.pointer (some ⟨b, o, none⟩)]) (z := .agg #[.pointer none]) (w := w) (by decide) rfl rfl (by go_simp)
  have ta1 := fun w => ta_no (k := 158) (ty := 159) (v := .agg #[.pointer (some ⟨b, o, none⟩)]) (z := .agg #[.pointer none]) (w := w) (by decide) rfl rfl (by go_simp)
  have ta2 := fun w => ta_no (k := 158) (ty := 125) (v := .agg #[.pointer (some ⟨b, o, none⟩)]) (z := .agg #[.pointer none]) (w := w) (by decide) rfl rfl (by go_simp)
  go_enter Tryd.func58, Tryd.ntmps58
  go_wp2
  go_ret2
  exact ⟨rfl, three (Below.refl _ w) (Nat.le_refl _) _ _ _⟩
end Go.Proofs.YtiockiilenjjaaaDoor

/- The sort of a node; of a variable. -/
namespace Go.Proofs.YtiockiilenjjaaaDoor
open Go Go.RowKit
theorem appE_ok {sig : List Fn} {name : ByteArray} {n : Nat} (h : appE sig name n = 0) : ∃ f, findF name sig = some f ∧ n = f.args.length := by
  unfold appE at h
  split at h
  · cases hf : findF name sig with
    | none => rw [hf] at h; simp at h
    | some f =>
      rw [hf] at h
      simp only at h
      split at h
      · exact ⟨f, rfl, by assumption⟩
      · simp at h
  · simp at h
theorem operandsB_ok {k n : Nat} {h : Int} (hk1 : 4 ≤ k) (hk2 : k ≤ 16) (hb : operandsB (k : Int) n h = true) : (k = 16 → n = 3) ∧ (opEach k = 0 → n ≠ 0) := by
  unfold operandsB at hb
  simp only [Bool.and_eq_true, Bool.or_eq_true, beq_iff_eq] at hb
  rw [show ((k : Int)).toNat = k by omega] at hb
  have h1 := hb.1
  constructor
  · intro e
    subst e
    have e2 : opCount 16 = 3 := rfl
    rw [e2] at h1
    omega
  · intro e
    have : k = 9 ∨ k = 16 := by
      unfold opEach at e
      by_cases h9 : k = 9 ∨ k = 16
      · exact h9
      · rw [if_neg h9] at e
        split at e <;> simp at e
    rcases this with rfl | rfl
    · have e2 : opCount 9 = 2 := rfl
      rw [e2] at h1
      omega
    · have e2 : opCount 16 = 3 := rfl
      rw [e2] at h1
      omega
theorem shapeE_zero {rt : ByteArray → Bool} {sig : List Fn} {op : Int} {name num : ByteArray} {n : Nat} {hd : Int} {vars : List (ByteArray × Int)} {np : Nat} (h17 : op ≠ 17) (h : shapeE rt sig op name num n hd vars np = 0) : shapeB rt op name num n hd vars np = true := by
  unfold shapeE at h
  rw [if_neg h17] at h
  cases hs : shapeB rt op name num n hd vars np with
  | true => rfl
  | false => rw [hs] at h; simp at h
theorem three_of {ss : List Int} (h : ss.length = 3) : ∃ a b c, ss = [a, b, c] := by
  match ss, h with
  | [a, b, c], _ => exact ⟨a, b, c, rfl⟩
theorem sortOf_any {rt : ByteArray → Bool} {w : World} {B r rf rb d b o : Nat} {t : Tm} {sig : List Fn} {env : ByteArray → List Int} {vs : Value} {ss : List Int} (hK : KS w B r rf rb sig env) (hT : TmAt w B d b o t) (hR : RL w) (hS : Ints w vs ss) (hl : ss.length = t.l.length)
    (hE : shapeE rt sig t.op t.name t.num t.l.length (headOp t.l) t.vars t.pat.length = 0) (h18 : t.op ≠ 18) (h19 : t.op ≠ 19) :
    Calls Tryd.prog 58 #[.pointer (some ⟨r, 0, none⟩), .iface (kindOf t.op) (.agg #[.pointer (some ⟨b, o, none⟩)]), vs] w (VPost (optV (sortOfT sig t.op t.name ss)) w) := by
  cases d with
  | zero => exact hT.elim
  | succ d =>
  have hBw : B ≤ w.heap.size := by have := hK.r_lt; have := hK.hr; omega
  obtain ⟨hb, _, _, aL, aV, aP, cL, cV, cP, hrg, hL, hV, hP, _⟩ := hT
  have hbw : b < w.heap.size := by omega
  have h0 : 0 < w.heap.size := by omega
  rcases op_kind (op := t.op) with ⟨h', e⟩ | ⟨h', e⟩ | ⟨h', e⟩ | ⟨h', e⟩ | ⟨h', e⟩ | ⟨h', e⟩ | ⟨h', e⟩
  · rw [e, h', show sortOfT sig 1 t.name ss = some 1 from rfl]; exact sortOf_num
  · rw [e]
    have : sortOfT sig t.op t.name ss = some 2 := by unfold sortOfT; rw [if_neg (by omega), if_neg (by omega), if_neg (by omega)]
    rw [this]
    exact sortOf_truth
  · rw [e]
    obtain ⟨k, hk⟩ : ∃ k : Nat, t.op = (k : Int) := ⟨t.op.toNat, by omega⟩
    have hk1 : 4 ≤ k := by omega
    have hk2 : k ≤ 16 := by omega
    have hs : sortOfT sig t.op t.name ss = operatedT k ss := by
      unfold sortOfT
      rw [if_neg (by omega), if_pos h', hk]
      rfl
    have hop : operandsB (k : Int) t.l.length (headOp t.l) = true := by
      have hE2 := shapeE_zero (by omega) hE
      unfold shapeB at hE2
      rw [if_neg (by omega), if_neg (by omega), if_pos h', hk] at hE2
      exact hE2
    have hc := operandsB_ok hk1 hk2 hop
    rw [hs]
    have c0 : w.cell? ⟨b, o, none⟩ = some (.int .i64 (k : Int)) := by rw [← hk]; exact hrg 0 _ rfl
    refine sortOf_op hbw c0 hS fun W hW => ?_
    by_cases h16 : k = 16
    · subst h16
      obtain ⟨x, y, z, rfl⟩ := three_of (hl.trans (hc.1 rfl))
      exact operated_ite (hS.below hW)
    · exact operated_op (Nat.lt_of_lt_of_le h0 hW.size) (hR.below hW h0) (hS.below hW) hk1 (by omega) (fun h => by rw [hl]; exact hc.2 h)
  · rw [e]
    have hA : appE sig t.name t.l.length = 0 := by
      unfold shapeE at hE
      rw [if_pos h'] at hE
      exact hE
    obtain ⟨f, hf, hn⟩ := appE_ok hA
    rw [h', sortOfT_app hf]
    exact sortOf_app hK hbw (hrg 1 _ rfl) hS hf (hl.trans hn)
  · exact absurd h' h18
  · exact absurd h' h19
  · have hE2 := shapeE_zero (by omega) hE
    unfold shapeB at hE2
    rw [if_neg (by omega), if_neg (by omega), if_neg (by omega), if_neg (by omega), if_neg (by omega)] at hE2
    cases hE2
/-- What the map of bound names answers. -/
theorem BM.asked {w : World} {B rb : Nat} {env : ByteArray → List Int} (h : BM w B rb env) (name : ByteArray) (hlen : (env name).length ≤ 281474976710656) : ∃ v, Ints w v (env name) ∧ w.ownsRow B 3 1 v (env name).length ((env name).map (Value.int .i64)) ∧ (Instr.lookup 98 (.map (some rb)) (.string name) false).run Tryd.prog w = .ok v w := by
  obtain ⟨es, h1, h2, _⟩ := h
  have hl := nm_lookup (k := name) umB ukS (zB w) h1
  rcases h2 name with ⟨e1, e2⟩ | ⟨v, e1, e2, e3⟩
  · rw [e1] at hl
    refine ⟨.slice none 0 0, ?_, ?_, hl.2⟩
    · rw [e2]
      exact ⟨none, 0, rfl, by simp, fun h => absurd rfl h⟩
    · rw [e2]
      exact ⟨rfl, .inl ⟨rfl, rfl⟩⟩
  · rw [e1] at hl
    refine ⟨v, ?_, e2, hl.2⟩
    rcases e2.2 with ⟨rfl, e4⟩ | ⟨g, cap, cur, rfl, hB, hg, hn, hcap, hsz, htk⟩
    · refine ⟨none, 0, by rw [e4], by omega, fun h => absurd e4 h⟩
    · refine ⟨_, cap, rfl, hlen, fun _ => ⟨g, 0, rfl, (Array.getElem?_eq_some_iff.1 hg).1, fun j x hx => ?_⟩⟩
      have hj : j < (env name).length := (List.getElem?_eq_some_iff.1 hx).1
      have e5 : cur[j]? = some (.int .i64 x) := by
        have : (cur.toList.take ((env name).length * 1))[j]? = some (.int .i64 x) := by rw [htk, List.getElem?_map, hx]; rfl
        rw [List.getElem?_take] at this
        rw [if_pos (by omega)] at this
        simpa using this
      simp only [Nat.zero_add]
      exact (blk hg).2.1 j _ e5
end Go.Proofs.YtiockiilenjjaaaDoor

namespace Go.Proofs.YtiockiilenjjaaaDoor
open Go Go.RowKit
def pairV (p : Int × Int) : Value := .tuple #[.int .i64 p.1, .int .i64 p.2]
theorem varE_none {name : ByteArray} {sort : Int} {env : ByteArray → List Int} (h : (env name).length = 0) : varE name sort env = (0, 32) := by
  unfold varE
  rw [List.length_eq_zero_iff.1 h]
  rfl
theorem varE_some {name : ByteArray} {sort : Int} {env : ByteArray → List Int} {n : Nat} {s : Int} (h : (env name).length = n + 1) (hs : (env name)[n]? = some s) : varE name sort env = if s = sort then (sort, 0) else (0, 31) := by
  unfold varE
  rw [List.getLast?_eq_getElem?, h, Nat.add_sub_cancel, hs]
set_option maxRecDepth 1000000 in
set_option maxHeartbeats 16000000 in
theorem variable_any {w : World} {B r rf rb b o : Nat} {name : ByteArray} {sort : Int} {sig : List Fn} {env : ByteArray → List Int} (hK : KS w B r rf rb sig env) (hb : b < w.heap.size) (c1 : w.cell? ⟨b, o + 1, none⟩ = some (.string name)) (c2 : w.cell? ⟨b, o + 2, none⟩ = some (.int .i64 sort)) (hlen : (env name).length ≤ 1000000) :
    Calls Tryd.prog 56 #[.pointer (some ⟨r, 0, none⟩), .agg #[.pointer (some ⟨b, o, none⟩)]] w (VPost (pairV (varE name sort env)) w) := by
  obtain ⟨W, eW, hbW, hsW, hcW, hhW⟩ := box_new w #[.pointer (some ⟨b, o, none⟩)] 109
  have hKW : KS W B r rf rb sig env := hK.below hbW (Nat.le_refl _)
  have hqlt : w.heap.size < W.heap.size := (blk hhW).1
  obtain ⟨v, hI, _, hlk⟩ := hKW.bm.asked name (by omega)
  have hbW2 : b < W.heap.size := Nat.lt_of_lt_of_le hb hbW.size
  obtain ⟨a, c, rfl, hmax, hcell⟩ := hI
  have HSS : Hid (∀ w', Below W.heap.size W w' → (Below W.heap.size W w' ∧ w'.cell? ⟨r, 1, none⟩ = some (.map (some rb)) ∧ w'.cell? ⟨w.heap.size, 0, none⟩ = some (.pointer (some ⟨b, o, none⟩)) ∧ w'.cell? ⟨b, o + 1, none⟩ = some (.string name) ∧ (Instr.lookup 98 (.map (some rb)) (.string name) false).run Tryd.prog w' = .ok (.slice a (env name).length c) w')) := fun w' h => by
    refine ⟨h, (hKW.below h (Nat.le_refl _)).cells.2, (h.cell (p := ⟨w.heap.size, 0, none⟩) hqlt).trans ((blk hhW).2.1 0 _ rfl), ((hbW.trans (h.mono hbW.size)).cell (p := ⟨b, o + 1, none⟩) hb).trans c1, ?_⟩
    obtain ⟨es, h1, h2⟩ := hKW.bm
    have hl := nm_lookup (k := name) umB ukS (zB w') (h1.below h h1.lt)
    have hl0 := nm_lookup (k := name) umB ukS (zB W) h1
    rw [hl0.2] at hlk
    injection hlk with e
    rw [hl.2, e]
  have d2 : W.cell? ⟨b, o + 2, none⟩ = some (.int .i64 sort) := (hbW.cell (p := ⟨b, o + 2, none⟩) hb).trans c2
  have q0 : W.cell? ⟨w.heap.size, 0, none⟩ = some (.pointer (some ⟨b, o, none⟩)) := (blk hhW).2.1 0 _ rfl
  have HB := hide hbW
  have HC := hide hcell
  have HV0 := hide (fun h => varE_none (sort := sort) (env := env) (name := name) h)
  have HV1 := hide (fun n s h hs => varE_some (sort := sort) (env := env) (name := name) (n := n) (s := s) h hs)
  clear hK hb c1 c2 hbW hsW hcW hhW hKW hqlt hlk hcell
  generalize hn : (env name).length = n at *
  obtain ⟨_, m1, _, n1, _⟩ := unhide HSS W (Below.refl _ W)
  cases n with
  | zero =>
    go_enter Tryd.func56, Tryd.ntmps56
    go_wp2
    go_region_held3 (fun w' => Below W.heap.size W w' ∧ w'.cell? ⟨r, 1, none⟩ = some (.map (some rb)) ∧ w'.cell? ⟨w.heap.size, 0, none⟩ = some (.pointer (some ⟨b, o, none⟩)) ∧ w'.cell? ⟨b, o + 1, none⟩ = some (.string name) ∧ (Instr.lookup 98 (.map (some rb)) (.string name) false).run Tryd.prog w' = .ok (.slice a 0 c) w') (first | assumption | exact unhide HSS _ (keep0 _)) (fail)
    all_goals
      go_wp2
      go_ret2
      refine ⟨?_, (unhide HB).drew⟩
      rw [unhide HV0 (by simp)]
      rfl
  | succ n =>
    have hn1 : n < (env name).length := by omega
    obtain ⟨b2, off, rfl, hb2, hc⟩ := unhide HC (by omega)
    have p2 : W.cell? ⟨b2, off + n, none⟩ = some (.int .i64 (env name)[n]) := hc n _ (List.getElem?_eq_getElem hn1)
    have hV := unhide HV1 n _ rfl (List.getElem?_eq_getElem hn1)
    generalize (env name)[n] = s at *
    have HV := hide hV
    have ez : (((n + 1 : Nat) : Int) == 0) = false := by simp; omega
    have es1 : ((n + 1 : Nat) : Int) - 1 = (n : Int) := by omega
    clear hV hc hn hn1 HV0 HV1 HC
    by_cases hs : s = sort
    · subst hs
      rw [if_pos rfl] at HV
      go_enter Tryd.func56, Tryd.ntmps56
      go_wp2
      go_region_held3 (fun w' => Below W.heap.size W w' ∧ w'.cell? ⟨r, 1, none⟩ = some (.map (some rb)) ∧ w'.cell? ⟨w.heap.size, 0, none⟩ = some (.pointer (some ⟨b, o, none⟩)) ∧ w'.cell? ⟨b, o + 1, none⟩ = some (.string name) ∧ (Instr.lookup 98 (.map (some rb)) (.string name) false).run Tryd.prog w' = .ok (.slice (some ⟨b2, off, none⟩) (n + 1) c) w') (first | assumption | exact unhide HSS _ (keep0 _)) (fail)
      go_wp2
      go_quiet (fail)
      go_wp2
      go_ret2
      exact ⟨by rw [unhide HV]; rfl, by first | exact below_drewN (unhide HB) _ | exact below_drewN (unhide HB).drew _⟩
    · rw [if_neg hs] at HV
      have ens : (s != sort) = true := by simp [hs]
      clear hs
      go_enter Tryd.func56, Tryd.ntmps56
      go_wp2
      go_region_held3 (fun w' => Below W.heap.size W w' ∧ w'.cell? ⟨r, 1, none⟩ = some (.map (some rb)) ∧ w'.cell? ⟨w.heap.size, 0, none⟩ = some (.pointer (some ⟨b, o, none⟩)) ∧ w'.cell? ⟨b, o + 1, none⟩ = some (.string name) ∧ (Instr.lookup 98 (.map (some rb)) (.string name) false).run Tryd.prog w' = .ok (.slice (some ⟨b2, off, none⟩) (n + 1) c) w') (first | assumption | exact unhide HSS _ (keep0 _)) (fail)
      go_wp2
      go_quiet (fail)
      go_wp2
      go_ret2
      exact ⟨by rw [unhide HV]; rfl, by first | exact below_drewN (unhide HB) _ | exact below_drewN (unhide HB).drew _⟩
end Go.Proofs.YtiockiilenjjaaaDoor
