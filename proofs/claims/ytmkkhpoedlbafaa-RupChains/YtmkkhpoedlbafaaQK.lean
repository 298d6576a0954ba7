/- Package rup: follows. -/
import Derived.Test.YtmkkhpoedlbafaaQJ
import Derived.Test.YtmkkhpoedlbafaaSh
set_option linter.unusedVariables false
set_option linter.unusedSimpArgs false

/- Package rup: isClause. -/
namespace Go.Proofs.Ytmkkhpoedlbafaa
open Go Go.RowKit
def whB (xs : List Int) : Bool := !(xs.contains 0) && !(xs.contains (-9223372036854775808))
theorem whB_iff {xs : List Int} : whB xs = true ↔ Whole xs := by
  unfold whB Whole LitOk
  simp only [Bool.and_eq_true, Bool.not_eq_true', List.contains_eq_mem, decide_eq_false_iff_not]
  constructor
  · rintro ⟨h1, h2⟩ x hx
    exact ⟨fun e => h1 (e ▸ hx), fun e => h2 (e ▸ hx)⟩
  · intro h
    exact ⟨fun h1 => (h 0 h1).1 rfl, fun h1 => (h _ h1).2 rfl⟩
theorem contains_any (B : Nat) (v : Value) (xs : List Int) (y : Int) (w : World) (hS : Sl w B v xs) : Calls Try.prog 29 #[v, .int .i64 y] w fun e w' => e = .returned (.bool (xs.contains y)) ∧ w' = w := by
  obtain ⟨a, cap, rfl, hmax, hcell⟩ := hS.open
  by_cases h0 : xs.length = 0
  · have : xs = [] := List.eq_nil_of_length_eq_zero h0
    subst this
    exact Try.slices_Contains_int_empty a cap y w
  · obtain ⟨b, off, rfl, _, _⟩ := hcell 0 (by omega)
    have := Try.slices_Contains_int b off xs.length cap xs y w (Nat.le_refl _) hmax (fun j hj => by
      obtain ⟨b2, off2, e, hc, _⟩ := hcell j hj
      simp only [Option.some.injEq, Addr.mk.injEq, and_true] at e
      obtain ⟨rfl, rfl⟩ := e
      rw [hc, List.getD_eq_getElem?_getD, List.getElem?_eq_getElem hj]
      rfl)
    rw [List.take_length] at this
    exact this
def CPost (xs : List Int) (w : World) (e : Ending) (w' : World) : Prop := e = .returned (.bool (whB xs)) ∧ w' = w
set_option maxRecDepth 100000 in
set_option maxHeartbeats 16000000 in
theorem isClause_any (B : Nat) (v : Value) (xs : List Int) (w : World) (hS : Sl w B v xs) : Calls Try.prog 23 #[v] w (CPost xs w) := by
  have H1 := hide (contains_any B v xs 0 w hS)
  have H2 := hide (contains_any B v xs (-9223372036854775808) w hS)
  obtain ⟨a, cap, hv, _, _⟩ := hS.open
  rw [hv] at H1 H2 ⊢
  clear hS hv
  cases e1 : xs.contains 0 with
  | true =>
    have HR : Hid (whB xs = false) := by show _ = _; unfold whB; rw [e1]; rfl
    rw [e1] at H1
    clear e1 H2
    go_enter Try.func23, Try.ntmps23
    go_wp2_with (go_at_call 29; refine (unhide H1).mono ?_; rintro e w' ⟨rfl, rfl⟩)
    go_ret
    exact ⟨by rw [unhide HR]; rfl, rfl⟩
  | false =>
    have HR : Hid (whB xs = !(xs.contains (-9223372036854775808))) := by show _ = _; unfold whB; rw [e1]; rfl
    rw [e1] at H1
    clear e1
    go_enter Try.func23, Try.ntmps23
    go_wp2_with (first
      | (go_at_call 29; refine (unhide H1).mono ?_; rintro e w' ⟨rfl, rfl⟩)
      | (go_at_call 29; refine (unhide H2).mono ?_; rintro e w' ⟨rfl, rfl⟩))
    go_ret
    exact ⟨by rw [unhide HR, List.contains_eq_mem]; rfl, rfl⟩
end Go.Proofs.Ytmkkhpoedlbafaa

/- Package rup: truths are set back. -/
namespace Go.Proofs.Ytmkkhpoedlbafaa
open Go Go.RowKit
/-- The truths, those of the first j behind st set back. -/
def trz (N : Nat) (T : List Nat) (st j : Nat) : List Int := (List.range N).map fun y => if y ∈ (T.drop st).take j ∨ op y ∈ (T.drop st).take j then 0 else tv T y
theorem trz_length (N : Nat) (T : List Nat) (st j : Nat) : (trz N T st j).length = N := by simp [trz]
theorem trz_get {N : Nat} {T : List Nat} {st j y : Nat} (h : y < N) : (trz N T st j)[y]? = some (if y ∈ (T.drop st).take j ∨ op y ∈ (T.drop st).take j then 0 else tv T y) := by simp [trz, h]
theorem trz_zero (N : Nat) (T : List Nat) (st : Nat) : trz N T st 0 = trs N T := by simp [trz, trs]
theorem trz_step {N : Nat} {T : List Nat} {st j z : Nat} (hz : T[st + j]? = some z) (_hN : z < N) : ((trz N T st j).set z 0).set (op z) 0 = trz N T st (j + 1) := by
  have hz2 : (T.drop st)[j]? = some z := by rw [List.getElem?_drop]; exact hz
  have ht : (T.drop st).take (j + 1) = (T.drop st).take j ++ [z] := by rw [List.take_add_one, hz2]; rfl
  apply List.ext_getElem?
  intro y
  by_cases hy : y < N
  · rw [trz_get hy, List.getElem?_set, List.getElem?_set]
    simp only [List.length_set, trz_length]
    by_cases e1 : op z = y
    · subst e1
      rw [if_pos rfl, if_pos hy, if_pos (.inr (by rw [op_op, ht]; simp))]
    · rw [if_neg e1]
      by_cases e2 : z = y
      · subst e2
        rw [if_pos rfl, if_pos hy, if_pos (.inl (by rw [ht]; simp))]
      · rw [if_neg e2, trz_get hy]
        have h1 : y ∈ (T.drop st).take (j + 1) ↔ y ∈ (T.drop st).take j := by rw [ht]; simp [Ne.symm e2]
        have h2 : op y ∈ (T.drop st).take (j + 1) ↔ op y ∈ (T.drop st).take j := by
          have : op y ≠ z := fun e => e1 (by rw [← e, op_op])
          rw [ht]; simp [this]
        simp only [h1, h2]
  · rw [List.getElem?_eq_none (by simp [trz_length]; omega), List.getElem?_eq_none (by simp [trz_length]; omega)]
theorem trz_end {N : Nat} {T : List Nat} {st j : Nat} (hn : T.Nodup) (hc : ∀ y ∈ T, op y ∉ T) (hj : T.length ≤ st + j) : trz N T st j = trs N (T.take st) := by
  have ht : (T.drop st).take j = T.drop st := List.take_of_length_le (by simp; omega)
  have hd : ∀ y, y ∈ T.take st → y ∈ T.drop st → False := by
    intro y h1 h2
    have hn2 := hn
    rw [← List.take_append_drop st T, List.nodup_append] at hn2
    exact hn2.2.2 y h1 y h2 rfl
  have hm : ∀ y, y ∈ T ↔ y ∈ T.take st ∨ y ∈ T.drop st := fun y => by rw [← List.mem_append, List.take_append_drop]
  unfold trz trs
  apply List.map_congr_left
  intro y _
  rw [ht]
  by_cases h1 : y ∈ T.drop st ∨ op y ∈ T.drop st
  · rw [if_pos h1]
    refine (tv_zero.2 ⟨fun h => ?_, fun h => ?_⟩).symm
    · rcases h1 with h1 | h1
      · exact hd y h h1
      · exact hc y (List.mem_of_mem_take h) (List.mem_of_mem_drop h1)
    · rcases h1 with h1 | h1
      · exact hc y (List.mem_of_mem_drop h1) (List.mem_of_mem_take h)
      · exact hd _ h h1
  · rw [if_neg h1]
    rw [not_or] at h1
    unfold tv
    have e1 : y ∈ T ↔ y ∈ T.take st := by rw [hm]; simp [h1.1]
    have e2 : op y ∈ T ↔ op y ∈ T.take st := by rw [hm]; simp [h1.2]
    simp only [e1, e2]
end Go.Proofs.Ytmkkhpoedlbafaa

/- Package rup: follows, its way back. -/
namespace Go.Proofs.Ytmkkhpoedlbafaa
open Go Go.RowKit
def fAll (f : Func) : Code := (f.body).getD .skip
def fTail (f : Func) : Code := cR (cR (cR (cR (cR (fAll f)))))
def fLoop (f : Func) : Code := cB (cB (cR (cL (fTail f))))
/-- Where the way back begins. -/
structure FS (a : Act) (r : Nat) (st : Int) (ob : Bool) : Prop where
  dfr : a.defers = []
  sz : a.tmps.size = 69
  s0 : a.tmps[0]? = some (.pointer (some ⟨r, 0, none⟩))
  s5 : a.tmps[5]? = some (.int .i64 st)
  s6 : a.tmps[6]? = some (.bool ob)
set_option maxRecDepth 100000 in
theorem FS.lit {a : Act} {r : Nat} {st : Int} {ob : Bool} (h : FS a r st ob) : ∃ u : Nat → Value, a = ⟨#[.pointer (some ⟨r, 0, none⟩), u 1, u 2, u 3, u 4, .int .i64 st, .bool ob, u 7, u 8, u 9, u 10, u 11, u 12, u 13, u 14, u 15, u 16, u 17, u 18, u 19, u 20, u 21, u 22, u 23, u 24, u 25, u 26, u 27, u 28, u 29, u 30, u 31, u 32, u 33, u 34, u 35, u 36, u 37, u 38, u 39, u 40, u 41, u 42, u 43, u 44, u 45, u 46, u 47, u 48, u 49, u 50, u 51, u 52, u 53, u 54, u 55, u 56, u 57, u 58, u 59, u 60, u 61, u 62, u 63, u 64, u 65, u 66, u 67, u 68], []⟩ := by
  obtain ⟨tmps, dfr⟩ := a
  refine ⟨fun i => tmps.getD i undef, ?_⟩
  have hd : dfr = [] := h.dfr
  have hl := arr_lit (show tmps.size = 69 from h.sz)
  have g0 : tmps.getD 0 undef = .pointer (some ⟨r, 0, none⟩) := getD_some h.s0
  have g5 : tmps.getD 5 undef = .int .i64 st := getD_some h.s5
  have g6 : tmps.getD 6 undef = .bool ob := getD_some h.s6
  subst hd
  congr 1
  have e : ((List.range 69).map fun i => tmps.getD i undef).toArray = #[tmps.getD 0 undef, tmps.getD 1 undef, tmps.getD 2 undef, tmps.getD 3 undef, tmps.getD 4 undef, tmps.getD 5 undef, tmps.getD 6 undef, tmps.getD 7 undef, tmps.getD 8 undef, tmps.getD 9 undef, tmps.getD 10 undef, tmps.getD 11 undef, tmps.getD 12 undef, tmps.getD 13 undef, tmps.getD 14 undef, tmps.getD 15 undef, tmps.getD 16 undef, tmps.getD 17 undef, tmps.getD 18 undef, tmps.getD 19 undef, tmps.getD 20 undef, tmps.getD 21 undef, tmps.getD 22 undef, tmps.getD 23 undef, tmps.getD 24 undef, tmps.getD 25 undef, tmps.getD 26 undef, tmps.getD 27 undef, tmps.getD 28 undef, tmps.getD 29 undef, tmps.getD 30 undef, tmps.getD 31 undef, tmps.getD 32 undef, tmps.getD 33 undef, tmps.getD 34 undef, tmps.getD 35 undef, tmps.getD 36 undef, tmps.getD 37 undef, tmps.getD 38 undef, tmps.getD 39 undef, tmps.getD 40 undef, tmps.getD 41 undef, tmps.getD 42 undef, tmps.getD 43 undef, tmps.getD 44 undef, tmps.getD 45 undef, tmps.getD 46 undef, tmps.getD 47 undef, tmps.getD 48 undef, tmps.getD 49 undef, tmps.getD 50 undef, tmps.getD 51 undef, tmps.getD 52 undef, tmps.getD 53 undef, tmps.getD 54 undef, tmps.getD 55 undef, tmps.getD 56 undef, tmps.getD 57 undef, tmps.getD 58 undef, tmps.getD 59 undef, tmps.getD 60 undef, tmps.getD 61 undef, tmps.getD 62 undef, tmps.getD 63 undef, tmps.getD 64 undef, tmps.getD 65 undef, tmps.getD 66 undef, tmps.getD 67 undef, tmps.getD 68 undef] := rfl
  rw [e, g0, g5, g6] at hl
  exact hl
/-- In the midst of the way back. -/
structure FG (a : Act) (r : Nat) (st : Int) (ob : Bool) (vS : Value) (nS jv : Int) : Prop where
  dfr : a.defers = []
  sz : a.tmps.size = 69
  s0 : a.tmps[0]? = some (.pointer (some ⟨r, 0, none⟩))
  s5 : a.tmps[5]? = some (.int .i64 st)
  s6 : a.tmps[6]? = some (.bool ob)
  s35 : a.tmps[35]? = some (vS)
  s36 : a.tmps[36]? = some (.int .i64 nS)
  s37 : a.tmps[37]? = some (.int .i64 jv)
set_option maxRecDepth 100000 in
theorem FG.lit {a : Act} {r : Nat} {st : Int} {ob : Bool} {vS : Value} {nS jv : Int} (h : FG a r st ob vS nS jv) : ∃ u : Nat → Value, a = ⟨#[.pointer (some ⟨r, 0, none⟩), u 1, u 2, u 3, u 4, .int .i64 st, .bool ob, u 7, u 8, u 9, u 10, u 11, u 12, u 13, u 14, u 15, u 16, u 17, u 18, u 19, u 20, u 21, u 22, u 23, u 24, u 25, u 26, u 27, u 28, u 29, u 30, u 31, u 32, u 33, u 34, vS, .int .i64 nS, .int .i64 jv, u 38, u 39, u 40, u 41, u 42, u 43, u 44, u 45, u 46, u 47, u 48, u 49, u 50, u 51, u 52, u 53, u 54, u 55, u 56, u 57, u 58, u 59, u 60, u 61, u 62, u 63, u 64, u 65, u 66, u 67, u 68], []⟩ := by
  obtain ⟨tmps, dfr⟩ := a
  refine ⟨fun i => tmps.getD i undef, ?_⟩
  have hd : dfr = [] := h.dfr
  have hl := arr_lit (show tmps.size = 69 from h.sz)
  have g0 : tmps.getD 0 undef = .pointer (some ⟨r, 0, none⟩) := getD_some h.s0
  have g5 : tmps.getD 5 undef = .int .i64 st := getD_some h.s5
  have g6 : tmps.getD 6 undef = .bool ob := getD_some h.s6
  have g35 : tmps.getD 35 undef = vS := getD_some h.s35
  have g36 : tmps.getD 36 undef = .int .i64 nS := getD_some h.s36
  have g37 : tmps.getD 37 undef = .int .i64 jv := getD_some h.s37
  subst hd
  congr 1
  have e : ((List.range 69).map fun i => tmps.getD i undef).toArray = #[tmps.getD 0 undef, tmps.getD 1 undef, tmps.getD 2 undef, tmps.getD 3 undef, tmps.getD 4 undef, tmps.getD 5 undef, tmps.getD 6 undef, tmps.getD 7 undef, tmps.getD 8 undef, tmps.getD 9 undef, tmps.getD 10 undef, tmps.getD 11 undef, tmps.getD 12 undef, tmps.getD 13 undef, tmps.getD 14 undef, tmps.getD 15 undef, tmps.getD 16 undef, tmps.getD 17 undef, tmps.getD 18 undef, tmps.getD 19 undef, tmps.getD 20 undef, tmps.getD 21 undef, tmps.getD 22 undef, tmps.getD 23 undef, tmps.getD 24 undef, tmps.getD 25 undef, tmps.getD 26 undef, tmps.getD 27 undef, tmps.getD 28 undef, tmps.getD 29 undef, tmps.getD 30 undef, tmps.getD 31 undef, tmps.getD 32 undef, tmps.getD 33 undef, tmps.getD 34 undef, tmps.getD 35 undef, tmps.getD 36 undef, tmps.getD 37 undef, tmps.getD 38 undef, tmps.getD 39 undef, tmps.getD 40 undef, tmps.getD 41 undef, tmps.getD 42 undef, tmps.getD 43 undef, tmps.getD 44 undef, tmps.getD 45 undef, tmps.getD 46 undef, tmps.getD 47 undef, tmps.getD 48 undef, tmps.getD 49 undef, tmps.getD 50 undef, tmps.getD 51 undef, tmps.getD 52 undef, tmps.getD 53 undef, tmps.getD 54 undef, tmps.getD 55 undef, tmps.getD 56 undef, tmps.getD 57 undef, tmps.getD 58 undef, tmps.getD 59 undef, tmps.getD 60 undef, tmps.getD 61 undef, tmps.getD 62 undef, tmps.getD 63 undef, tmps.getD 64 undef, tmps.getD 65 undef, tmps.getD 66 undef, tmps.getD 67 undef, tmps.getD 68 undef] := rfl
  rw [e, g0, g5, g6, g35, g36, g37] at hl
  exact hl
/-- In the midst of the way back: j of the trail are set back. -/
def FI (w0 : World) (B r : Nat) (ρ : Nat → Nat × Nat) (q : Mv) (k : KS) (st : Nat) (ob : Bool) (gL capS : Nat) (a : Act) (w : World) : Prop :=
  ∃ j : Nat, FG a r st ob (.slice (some ⟨gL, st, none⟩) (k.trail.length - st) capS) ((k.trail.length - st : Nat) : Int) j ∧ j ≤ k.trail.length - st ∧ Ck w0 w B r ρ q k (trz (2 * k.pl.length) k.trail st j)
set_option maxRecDepth 100000 in
set_option maxHeartbeats 16000000 in
theorem back_round {Q : Exit → Act → World → Prop} {a : Act} {w0 w : World} {B r : Nat} {ρ : Nat → Nat × Nat} {q : Mv} {k : KS} {st gL capL capS : Nat} {ob : Bool} (hI : FI w0 B r ρ q k st ob gL capS a w) (hvL : q.vL = .slice (some ⟨gL, 0, none⟩) k.trail.length capL) (hst : st ≤ k.trail.length) (hP : k.pl.length ≤ 1000000000) (htl : ∀ y ∈ k.trail, y < 2 * k.pl.length) (hT : k.trail.length ≤ 2 * k.pl.length)
    (hx : ∀ a' w', FS a' r st ob → Ck w0 w' B r ρ q k (trz (2 * k.pl.length) k.trail st (k.trail.length - st)) → Q (.exit 0) a' w') :
    Code.wp Try.prog (fLoop Try.f21) (Exit.then (fun a' w' => FI w0 B r ρ q k st ob gL capS a' w' ∧ (k.trail.length - st) - (intOf (a'.tmps.getD 37 undef)).toNat < (k.trail.length - st) - (intOf (a.tmps.getD 37 undef)).toNat) Q) a w := by
  obtain ⟨j, hs, hj, hck⟩ := hI
  obtain ⟨u, rfl⟩ := hs.lit
  clear hs
  obtain ⟨m, hm⟩ : ∃ m, k.trail.length - st = m := ⟨_, rfl⟩
  rw [hm] at hj
  have HE : Hid (∀ (a' : Act) (w' : World) (j' : Nat), FG a' r st ob (.slice (some ⟨gL, st, none⟩) m capS) (m : Int) j' → j' ≤ m → Ck w0 w' B r ρ q k (trz (2 * k.pl.length) k.trail st j') → FI w0 B r ρ q k st ob gL capS a' w') := fun a' w' j' h1 h2 h3 => ⟨j', by rw [hm]; exact h1, by rw [hm]; exact h2, h3⟩
  rw [hm]
  by_cases hlt : j < m
  · have hrT := hck.rT
    rw [hvL] at hrT
    obtain ⟨z, hz⟩ : ∃ z, k.trail[st + j]? = some z := ⟨k.trail[st + j]'(by omega), List.getElem?_eq_getElem _⟩
    have cZ := (hrT.cell (j := st + j) (u := .int .i64 z) (by rw [List.getElem?_map, hz]; rfl)).1
    have hzl := htl z (List.mem_of_getElem? hz)
    have hrt := hck.rt
    obtain ⟨gT, capT, hvT, y1, y2, hBT, hltT, hrTT⟩ := hrt.open (by rw [trz_length]; omega)
    have d3 := hck.cells.2.2.2.1
    rw [hvT, trz_length] at d3
    rw [hvT] at hrt
    have hx1 := hrt.cell (j := z) (by rw [List.getElem?_map, trz_get hzl]; rfl)
    have hx2 := hrt.cell (j := op z) (by rw [List.getElem?_map, trz_get (op_lt hzl)]; rfl)
    rw [trz_length] at hvT
    have H1 := hide ((hck.setTruth hvT (by rw [trz_length]) z 0).setTruth hvT (by rw [List.length_set, trz_length]) (op z) 0).drew
    rw [trz_step hz hzl] at H1
    obtain ⟨NT, hNT⟩ : ∃ NT, 2 * k.pl.length = NT := ⟨_, rfl⟩
    rw [hNT] at d3
    obtain ⟨v1, hv1⟩ : ∃ v1, (if z ∈ (k.trail.drop st).take j ∨ op z ∈ (k.trail.drop st).take j then (0 : Int) else tv k.trail z) = v1 := ⟨_, rfl⟩
    obtain ⟨v2, hv2⟩ : ∃ v2, (if op z ∈ (k.trail.drop st).take j ∨ op (op z) ∈ (k.trail.drop st).take j then (0 : Int) else tv k.trail (op z)) = v2 := ⟨_, rfl⟩
    rw [hv1] at hx1
    rw [hv2] at hx2
    obtain ⟨a1, a2⟩ := hx1
    obtain ⟨b1, b2⟩ := hx2
    have hzb : z < 4611686018427387904 := by omega
    have hol := op_lt hzl
    have hrg : r ≠ gT := (hck.ne hrTT (by simp) (by simp)).1
    have hrg' := Ne.symm hrg
    have hne := op_ne z
    have hne' := Ne.symm hne
    have i1 : (0 : Int) ≤ (z : Int) := by omega
    have i2 : (z : Int) < (NT : Int) := by omega
    have i3 : (0 : Int) ≤ (op z : Int) := by omega
    have i4 : (op z : Int) < (NT : Int) := by omega
    have j1 : (0 : Int) ≤ (j : Int) := by omega
    have j2 : (j : Int) < (m : Int) := by omega
    have j3 : (m : Int) ≤ 2000000000 := by omega
    have HLT : Hid (j < m) := hlt
    clear hrT hz hzl hrt hvT y1 y2 hBT hltT hrTT hNT hv1 hv2 hol hck hx hvL htl hlt hm hj hst hP hT
    conv => arg 2; whnf
    go_wp2
    refine wp_region_noPanic ?_
    go_region_held3 (fun w' => w'.cell? ⟨r, 3, none⟩ = some (.slice (some ⟨gT, 0, none⟩) NT capT)) (go_keep) (first | (go_at_call 26; refine (opposite_any z _ (by assumption)).mono ?_; rintro e w' ⟨rfl, rfl⟩))
    refine NoPanic.normal ?_
    rename_i hHeld
    clear hHeld
    go_wp2
    refine ⟨unhide HE _ _ (j + 1) ⟨rfl, rfl, rfl, rfl, rfl, rfl, rfl, by simp⟩ (by have := unhide HLT; omega) (unhide H1), ?_⟩
    have := unhide HLT
    simp [intOf]
    omega
  · have hf : decide ((j : Int) < (m : Int)) = false := by simp; omega
    have hle : (m : Int) ≤ (j : Int) := by omega
    have hjm : j = m := by omega
    subst hjm
    rw [hm] at hx
    have HX := hide hx
    have HC := hide hck
    clear hx hck
    conv => arg 2; whnf
    go_wp2
    exact unhide HX _ _ ⟨rfl, rfl, rfl, rfl, rfl⟩ (unhide HC)
end Go.Proofs.Ytmkkhpoedlbafaa

/- Package rup: follows, its way back, whole. -/
namespace Go.Proofs.Ytmkkhpoedlbafaa
open Go Go.RowKit
set_option maxRecDepth 100000 in
set_option maxHeartbeats 16000000 in
theorem back_more {Q : Exit → Act → World → Prop} {a : Act} {w0 w : World} {B r : Nat} {ρ : Nat → Nat × Nat} {q : Mv} {k : KS} {st : Nat} {ob : Bool} (hs : FS a r st ob) (hck : Ck w0 w B r ρ q k (trs (2 * k.pl.length) k.trail)) (hst : st < k.trail.length) (hP : k.pl.length ≤ 1000000000) (htl : ∀ y ∈ k.trail, y < 2 * k.pl.length) (hT : k.trail.length ≤ 2 * k.pl.length) (hnd : k.trail.Nodup) (hcon : ∀ y ∈ k.trail, op y ∉ k.trail)
    (hq : ∀ a' w', a'.defers = [] → a'.tmps[4]? = some (.bool ob) → (∃ q', Ck w0 w' B r ρ q' { k with trail := k.trail.take st, head := st } (trs (2 * k.pl.length) (k.trail.take st))) → Q .ret a' w') : Code.wp Try.prog (fTail Try.f21) Q a w := by
  obtain ⟨u, rfl⟩ := hs.lit
  clear hs
  obtain ⟨gL, capL, hvL, y1, y2, hBL, hltL, hrL⟩ := hck.rT.open (by omega)
  have d4 := hck.cells.2.2.2.2.1
  rw [hvL] at d4
  obtain ⟨n, hn⟩ : ∃ n, k.trail.length = n := ⟨_, rfl⟩
  rw [hn] at d4 y1
  have HK := hide hck
  have hnc : ¬ capL = st := by omega
  have p1 : (0 : Int) ≤ (st : Int) := by omega
  have p2 : (st : Int) ≤ (n : Int) := by omega
  have p3 : (n : Int) ≤ (capL : Int) := by omega
  have p4 : (st : Int) ≤ (capL : Int) := by omega
  have p5 : (n : Int) ≤ 2000000000 := by omega
  have HR : Hid (∀ (Q : Exit → Act → World → Prop) (a : Act) (w : World), FI w0 B r ρ q k st ob gL (capL - st) a w → (∀ a' w', FS a' r st ob → Ck w0 w' B r ρ q k (trz (2 * k.pl.length) k.trail st (k.trail.length - st)) → Q (.exit 0) a' w') → Code.wp Try.prog (fLoop Try.f21) (Exit.then (fun a' w' => FI w0 B r ρ q k st ob gL (capL - st) a' w' ∧ (k.trail.length - st) - (intOf (a'.tmps.getD 37 undef)).toNat < (k.trail.length - st) - (intOf (a.tmps.getD 37 undef)).toNat) Q) a w) := fun Q a w h1 h2 => back_round h1 hvL (by omega) hP htl hT h2
  have HQ := hide hq
  have HN := hide hn
  have HVL := hide hvL
  have HEnd := hide (trz_end (N := 2 * k.pl.length) (st := st) (j := k.trail.length - st) hnd hcon (by omega))
  have HST : Hid (st < n) := by show _ < _; omega
  clear hck hvL y1 y2 hBL hltL hrL hn hnd hcon hq htl hT hst hP
  conv => arg 2; whnf
  go_wp2
  change Code.wp Try.prog (.loop (fLoop Try.f21)) _ _ _
  refine wp_loop (FI w0 B r ρ q k st ob gL (capL - st)) (fun a w => (k.trail.length - st) - (intOf (a.tmps.getD 37 undef)).toNat) ?_ (fun a' w' hI => unhide HR _ a' w' hI ?_)
  · refine ⟨0, ?_, Nat.zero_le _, by rw [trz_zero]; exact unhide HK⟩
    rw [unhide HN]
    exact ⟨rfl, rfl, rfl, rfl, rfl, rfl, by simp, rfl⟩
  · intro a' w' hs hck
    obtain ⟨u', rfl⟩ := hs.lit
    rw [unhide HEnd] at hck
    clear hs d4 HK
    obtain ⟨z0, z1, z2, z3, d4, d5, z6, z7, df⟩ := hck.cells
    have f4 := df 4
    have f5 := df 5
    clear z0 z1 z2 z3 z6 z7 df
    rw [unhide HVL, unhide HN] at d4
    have H1 := hide ((hck.cutTrail (m := st) (unhide HVL) rfl (by have := unhide HST; rw [unhide HN]; omega)).setHead st)
    clear hck HR
    go_wp2
    exact unhide HQ _ _ rfl rfl ⟨_, unhide H1⟩
set_option maxRecDepth 100000 in
set_option maxHeartbeats 16000000 in
theorem back_same {Q : Exit → Act → World → Prop} {a : Act} {w0 w : World} {B r : Nat} {ρ : Nat → Nat × Nat} {q : Mv} {k : KS} {st : Nat} {ob : Bool} (hs : FS a r st ob) (hck : Ck w0 w B r ρ q k (trs (2 * k.pl.length) k.trail)) (hst : st = k.trail.length) (hP : k.pl.length ≤ 1000000000) (hT : k.trail.length ≤ 2 * k.pl.length)
    (hq : ∀ a' w', a'.defers = [] → a'.tmps[4]? = some (.bool ob) → (∃ q', Ck w0 w' B r ρ q' { k with trail := k.trail.take st, head := st } (trs (2 * k.pl.length) (k.trail.take st))) → Q .ret a' w') : Code.wp Try.prog (fTail Try.f21) Q a w := by
  obtain ⟨u, rfl⟩ := hs.lit
  clear hs
  have htk : k.trail.take st = k.trail := by rw [hst, List.take_length]
  rw [htk] at hq
  obtain ⟨z0, z1, z2, z3, d4, d5, z6, z7, df⟩ := hck.cells
  have f4 := df 4
  have f5 := df 5
  clear z0 z1 z2 z3 z6 z7 df
  have hp0 : (st : Int) ≤ 2000000000 := by omega
  have p1 : (0 : Int) ≤ (st : Int) := by omega
  rcases hck.rT.1.2 with ⟨hv, h0⟩ | ⟨gL, capL, cur, hv, _, _, hc1, hc2, _⟩
  · have hst0 : st = 0 := by omega
    subst hst0
    have hT0 : k.trail = [] := List.eq_nil_of_length_eq_zero h0
    rw [hv] at d4
    have H1 := hide ((hck.cutTrail0 hv hT0).setHead 0)
    have HQ := hide hq
    clear hck hq hT0 hT hst hv htk h0
    conv => arg 2; whnf
    go_wp2
    refine wp_loop (fun a' w' => a' = _ ∧ w' = w) (fun _ _ => 0) ⟨rfl, rfl⟩ ?_
    rintro a' w' ⟨rfl, rfl⟩
    go_wp2
    exact unhide HQ _ _ rfl rfl ⟨_, unhide H1⟩
  · rw [hv, ← hst] at d4
    rw [← hst] at hc1
    have hcut := (hck.cutTrail (m := st) hv rfl (by omega)).setHead st
    rw [htk] at hcut
    have H1 := hide hcut
    have HQ := hide hq
    have p2 : (st : Int) ≤ (capL : Int) := by omega
    by_cases hcc : capL = st
    · subst hcc
      clear hck hq hT hst hv htk hcut hc1 hc2
      conv => arg 2; whnf
      go_wp2
      refine wp_loop (fun a' w' => a' = _ ∧ w' = w) (fun _ _ => 0) ⟨rfl, rfl⟩ ?_
      rintro a' w' ⟨rfl, rfl⟩
      go_wp2
      exact unhide HQ _ _ rfl rfl ⟨_, unhide H1⟩
    · clear hck hq hT hst hv htk hcut hc1 hc2
      conv => arg 2; whnf
      go_wp2
      refine wp_loop (fun a' w' => a' = _ ∧ w' = w) (fun _ _ => 0) ⟨rfl, rfl⟩ ?_
      rintro a' w' ⟨rfl, rfl⟩
      go_wp2
      exact unhide HQ _ _ rfl rfl ⟨_, unhide H1⟩
end Go.Proofs.Ytmkkhpoedlbafaa

namespace Go.Proofs.Ytmkkhpoedlbafaa
open Go Go.RowKit
/-- What follows answers, and what it leaves. -/
def FlPost (w0 : World) (B r : Nat) (k : KS) (xs : List Int) (L : List (List Int)) (e : Ending) (w' : World) : Prop := ∃ b k' ρ' q', e = .returned (.bool b) ∧ (b = true ↔ Fol L xs) ∧ Ck w0 w' B r ρ' q' k' (trs (2 * k'.pl.length) k'.trail) ∧ Rep L k' ∧ Bs k' ∧ k'.empty = k.empty ∧ k'.pl.length ≤ k.pl.length + xs.length ∧ k'.cs.length = k.cs.length
/-- The way back leads to what stood before. -/
theorem back_rep {L : List (List Int)} {xs : List Int} {k k2 : KS} {p : List Int} {t : List Nat} (hR : Rep L k) (hr : k.refuted = false) (hst : Str L L (opp xs) k.trail.length k2.pl k2.cs k2.ws k2.trail) (hpl : k2.pl = k.pl ++ p) (htr : k2.trail = k.trail ++ t) (hem : k2.empty = k.empty) (hre : k2.refuted = k.refuted) : Rep L { k2 with trail := k2.trail.take k.trail.length, head := k.trail.length } ∧ Bs { k2 with trail := k2.trail.take k.trail.length, head := k.trail.length } := by
  have htk : k2.trail.take k.trail.length = k.trail := by rw [htr, List.take_append_of_le_length (Nat.le_refl _), List.take_length]
  obtain ⟨s0, _, _⟩ := hR.no hr
  obtain ⟨b1, b2⟩ := hst.back (S1 := no0) (fun y hy => by
    rw [htk] at hy
    rw [hpl, num_app (s0.tlt y hy)]
    exact s0.up y hy)
  rw [htk] at b1 b2
  rw [htk]
  have e1 : ({ k2 with trail := k.trail, head := k.trail.length } : KS).refuted = false := hre.trans hr
  have e2 : ({ k2 with trail := k.trail, head := k.trail.length } : KS).empty = k.empty := hem
  refine ⟨⟨fun e => ?_, fun _ => ⟨b1, b2, rfl⟩, ?_⟩, ⟨b1.wl, b1.tlt, b1.ppl⟩⟩
  · rw [e1] at e; cases e
  · rw [e2]; exact hR.emp
theorem back_any {Q : Exit → Act → World → Prop} {a : Act} {w0 w : World} {B r : Nat} {ρ : Nat → Nat × Nat} {q : Mv} {k : KS} {st : Nat} {ob : Bool} (hs : FS a r st ob) (hck : Ck w0 w B r ρ q k (trs (2 * k.pl.length) k.trail)) (hst : st ≤ k.trail.length) (hP : k.pl.length ≤ 1000000000) (htl : ∀ y ∈ k.trail, y < 2 * k.pl.length) (hT : k.trail.length ≤ 2 * k.pl.length) (hnd : k.trail.Nodup) (hcon : ∀ y ∈ k.trail, op y ∉ k.trail)
    (hq : ∀ a' w', a'.defers = [] → a'.tmps[4]? = some (.bool ob) → (∃ q', Ck w0 w' B r ρ q' { k with trail := k.trail.take st, head := st } (trs (2 * k.pl.length) (k.trail.take st))) → Q .ret a' w') : Code.wp Try.prog (fTail Try.f21) Q a w := by
  by_cases h : st < k.trail.length
  · exact back_more hs hck h hP htl hT hnd hcon hq
  · exact back_same hs hck (by omega) hP hT hq
/-- The end of follows, whatever was found. -/
theorem follows_end {a : Act} {w0 w : World} {B r : Nat} {ρ : Nat → Nat × Nat} {q : Mv} {k k2 : KS} {xs : List Int} {L : List (List Int)} {p : List Int} {t : List Nat} {ob : Bool} (hs : FS a r (k.trail.length : Nat) ob) (hck : Ck w0 w B r ρ q k2 (trs (2 * k2.pl.length) k2.trail)) (hR : Rep L k) (hr : k.refuted = false) (hst : Str L L (opp xs) k.trail.length k2.pl k2.cs k2.ws k2.trail) (hpl : k2.pl = k.pl ++ p) (hp : p.length ≤ xs.length) (htr : k2.trail = k.trail ++ t) (hem : k2.empty = k.empty) (hre : k2.refuted = k.refuted) (hcs : k2.cs.length = k.cs.length) (hP : k.pl.length + xs.length ≤ 1000000000) (hob : ob = true ↔ Fol L xs) :
    Code.wp Try.prog (fTail Try.f21) (bodyPost Try.prog Try.f21 (FlPost w0 B r k xs L)) a w := by
  have hl : k2.pl.length ≤ k.pl.length + xs.length := by rw [hpl, List.length_append]; omega
  refine back_any hs hck (by rw [htr]; simp) (by omega) hst.tlt hst.len hst.tnd hst.tcon fun a' w' h1 h2 h3 => ?_
  obtain ⟨q', h3⟩ := h3
  obtain ⟨r1, r2⟩ := back_rep hR hr hst hpl htr hem hre
  exact bodyPost_ret (res_t rfl h2) h1 ⟨ob, _, ρ, q', rfl, hob, h3, r1, r2, hem, hl, hcs⟩
set_option maxRecDepth 100000 in
set_option maxHeartbeats 16000000 in
theorem follows_any (w0 w : World) (B r : Nat) (ρ : Nat → Nat × Nat) (q : Mv) (k : KS) (v : Value) (xs : List Int) (L : List (List Int)) (hC : Ck w0 w B r ρ q k (trs (2 * k.pl.length) k.trail)) (hR : Rep L k) (hB : Bs k) (hv : Sl w0 B v xs) (hP : k.pl.length + xs.length ≤ 1000000000) (hcs : k.cs.length ≤ 1000000000) :
    Calls Try.prog 21 #[.pointer (some ⟨r, 0, none⟩), v] w (FlPost w0 B r k xs L) := by
  have HI := hide (isClause_any B v xs w (hv.below hC.bl))
  have d7 := hC.cells.2.2.2.2.2.2.2.1
  obtain ⟨a, cap, hva, _, _⟩ := hv.open
  cases hwh : whB xs with
  | false =>
    have hnf : ¬ Fol L xs := fun h => by have := whB_iff.2 h.1; rw [hwh] at this; cases this
    have HR : Hid (FlPost w0 B r k xs L (.returned (.bool false)) w) := ⟨false, k, ρ, q, rfl, ⟨fun e => (by cases e), fun h => absurd h hnf⟩, hC, hR, hB, rfl, by omega, rfl⟩
    have HW := hide hwh
    rw [hva] at HI ⊢
    clear hwh hnf hC hR hB hv hva d7
    go_enter Try.func21, Try.ntmps21
    go_wp2_with (go_at_call 23; refine (unhide HI).mono ?_; rintro e w' ⟨rfl, rfl⟩; rw [unhide HW])
    go_ret
    exact unhide HR
  | true =>
    have hw := whB_iff.1 hwh
    have HW := hide hwh
    cases hre : k.refuted with
    | true =>
      have hf : Fol L xs := ⟨hw, .inr ((hR.yes hre).mono (fun _ h => h) fun _ h => h.elim)⟩
      have HR : Hid (FlPost w0 B r k xs L (.returned (.bool true)) w) := ⟨true, k, ρ, q, rfl, ⟨fun _ => hf, fun _ => rfl⟩, hC, hR, hB, rfl, by omega, rfl⟩
      rw [hva] at HI ⊢
      rw [hre] at d7
      clear hwh hf hC hR hB hv hva hre hw
      go_enter Try.func21, Try.ntmps21
      go_wp2_with (go_at_call 23; refine (unhide HI).mono ?_; rintro e w' ⟨rfl, rfl⟩; rw [unhide HW])
      go_ret
      exact unhide HR
    | false =>
      obtain ⟨s0, s1, s2⟩ := hR.no hre
      have s0' : Str L L (opp xs) k.trail.length k.pl k.cs k.ws k.trail := s0.weak fun _ h => h.elim
      have hTR : TR w0 w B r k xs L L k.trail.length 0 k ρ q := ⟨hC, s0', by rw [s2]; exact s1, rfl, rfl, rfl, rfl, ⟨[], by simp⟩, ⟨[], by simp, Nat.le_refl _⟩, fun x hx => by simp at hx, by omega⟩
      have HTake := hide (take_any w0 w B r ρ q k v xs L L k.trail.length hTR hv hw hP)
      have d4 := hC.cells.2.2.2.2.1
      obtain ⟨av, capv, hav, _, _⟩ := hC.rT.form
      rw [hav] at d4
      have HEnd : Hid (∀ (a : Act) (w : World) (ρ : Nat → Nat × Nat) (q : Mv) (k2 : KS) (p : List Int) (t : List Nat) (ob : Bool), FS a r (k.trail.length : Nat) ob → Ck w0 w B r ρ q k2 (trs (2 * k2.pl.length) k2.trail) → Str L L (opp xs) k.trail.length k2.pl k2.cs k2.ws k2.trail → k2.pl = k.pl ++ p → p.length ≤ xs.length → k2.trail = k.trail ++ t → k2.empty = k.empty → k2.refuted = k.refuted → k2.cs.length = k.cs.length → (ob = true ↔ Fol L xs) → Code.wp Try.prog (fTail Try.f21) (bodyPost Try.prog Try.f21 (FlPost w0 B r k xs L)) a w) := fun a w ρ q k2 p t ob h1 h2 h3 h4 h5 h6 h7 h8 h9 h10 => follows_end h1 h2 hR hre h3 h4 h5 h6 h7 h8 h9 hP h10
      have HPB : Hid (k.pl.length + xs.length ≤ 1000000000 ∧ k.cs.length ≤ 1000000000 ∧ k.head = k.trail.length) := ⟨hP, hcs, s2⟩
      have HWh := hide hw
      obtain ⟨n, hn⟩ : ∃ n, k.trail.length = n := ⟨_, rfl⟩
      rw [hn] at d4
      have HN := hide hn
      rw [hva] at HI HTake ⊢
      rw [hre] at d7
      clear hwh hC hR hB hv hva hre hw s0 s1 s2 s0' hTR hav hP hcs hn
      go_enter Try.func21, Try.ntmps21
      change Code.wp Try.prog (.seq (cL (fAll Try.f21)) (.seq (cL (cR (fAll Try.f21))) (.seq (cL (cR (cR (fAll Try.f21)))) (.seq (cL (cR (cR (cR (fAll Try.f21))))) (.seq (cL (cR (cR (cR (cR (fAll Try.f21)))))) (fTail Try.f21)))))) _ _ _
      conv => arg 2; arg 1; whnf
      conv => arg 2; arg 2; arg 1; whnf
      conv => arg 2; arg 2; arg 2; arg 1; whnf
      conv => arg 2; arg 2; arg 2; arg 2; arg 1; whnf
      conv => arg 2; arg 2; arg 2; arg 2; arg 2; arg 1; whnf
      go_wp2_with (first
        | (go_at_call 23; refine (unhide HI).mono ?_; rintro e w' ⟨rfl, rfl⟩; rw [unhide HW])
        | (go_at_call 24; refine (unhide HTake).mono ?_; intro e w2 h2; obtain ⟨b, k2, ρ2, q2, rfl, h2⟩ := h2; have H2 := hide h2; clear h2; refine ?roundEnd))
      case roundEnd =>
        dsimp only
        obtain ⟨tq, hgot, hfol⟩ := unhide H2
        obtain ⟨p, hp1, hp2⟩ := tq.pl
        obtain ⟨t, ht⟩ := tq.tr
        have hcsl : k2.cs.length = k.cs.length := by rw [tq.cs]
        cases b with
        | false =>
          have HR := hide (fun (a : Act) (h : FS a r (k.trail.length : Nat) true) => unhide HEnd a w2 ρ2 q2 k2 p t true h tq.ck tq.st hp1 hp2 ht tq.em tq.re hcsl ⟨fun _ => hfol rfl, fun _ => rfl⟩)
          clear tq hgot hfol hp1 hp2 ht hcsl H2 HEnd HTake HI d4 d7
          go_wp2
          exact unhide HR _ (by rw [unhide HN]; exact ⟨rfl, rfl, rfl, rfl, rfl⟩)
        | true =>
          obtain ⟨hb1, hb2, hb3⟩ := unhide HPB
          have hpl2 : k2.pl.length ≤ 1000000000 := by rw [hp1, List.length_append]; omega
          have hpr : PR w0 w2 B r k2 L L (opp xs) k.trail.length k2 ρ2 q2 := ⟨tq.ck, Lp.refl k2, tq.st, tq.aw, by rw [tq.hd, hb3]; exact Nat.le_refl _, tq.hh⟩
          have HProp := hide (propagate_any w0 w2 B r ρ2 q2 k2 L L (opp xs) k.trail.length hpr hpl2 (by rw [hcsl]; exact hb2))
          have HR : Hid (∀ (w3 : World) (b3 : Bool) (k3 : KS) (ρ3 : Nat → Nat × Nat) (q3 : Mv), Ck w0 w3 B r ρ3 q3 k3 (trs (2 * k3.pl.length) k3.trail) ∧ Lp k2 k3 ∧ Str L L (opp xs) k.trail.length k3.pl k3.cs k3.ws k3.trail ∧ (b3 = true → AllW k3 k3.trail.length ∧ k3.head = k3.trail.length) ∧ (b3 = false → Clash L (opp xs)) → ∀ a : Act, FS a r (k.trail.length : Nat) (!b3) → Code.wp Try.prog (fTail Try.f21) (bodyPost Try.prog Try.f21 (FlPost w0 B r k xs L)) a w3) := by
            rintro w3 b3 k3 ρ3 q3 ⟨c3, l3, st3, t3, f3⟩ a hs
            obtain ⟨t4, ht4⟩ := l3.tr
            refine unhide HEnd a w3 ρ3 q3 k3 p (t ++ t4) (!b3) hs c3 st3 (l3.pl.trans hp1) hp2 (by rw [ht4, ht, List.append_assoc]) (l3.em.trans tq.em) (l3.re.trans tq.re) (l3.cs.trans hcsl) ?_
            cases b3 with
            | false => exact ⟨fun _ => ⟨unhide HWh, .inr (f3 rfl)⟩, fun _ => rfl⟩
            | true =>
              have hno : ¬ Fol L xs := st3.shut (t3 rfl).1 fun x hx => by
                obtain ⟨y, hy, e⟩ := hgot rfl x hx
                exact ⟨y, by rw [ht4]; exact List.mem_append_left _ hy, by rw [l3.pl]; exact e⟩
              exact ⟨fun e => (by cases e), fun h => absurd h hno⟩
          clear tq hgot hfol hp1 hp2 ht hcsl H2 HEnd HTake HI d4 d7 hpr hpl2 hb1 hb2 hb3
          go_wp2_with (go_at_call 25; refine (unhide HProp).mono ?_; intro e w3 h3; obtain ⟨b3, k3, ρ3, q3, rfl, h3⟩ := h3; have H3 := hide h3; clear h3)
          exact unhide HR _ b3 k3 ρ3 q3 (unhide H3) _ (by rw [unhide HN]; exact ⟨rfl, rfl, rfl, rfl, rfl⟩)
end Go.Proofs.Ytmkkhpoedlbafaa
