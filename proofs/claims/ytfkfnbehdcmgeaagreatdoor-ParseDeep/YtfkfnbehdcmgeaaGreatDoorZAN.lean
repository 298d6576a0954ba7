/- The document's parser: expr where it may be deeper. -/
import Derived.Test.YtfkfnbehdcmgeaaGreatDoorZAM
set_option linter.unusedVariables false
set_option linter.unusedSimpArgs false

/- Package parse: words of effects and kinds. -/
namespace Go.Proofs.YtfkfnbehdcmgeaaGreatDoor
open Go Go.RowKit
set_option maxRecDepth 100000 in
set_option maxHeartbeats 16000000 in
theorem effOf_eq (s : ByteArray) (w : World) : Calls Tryz.prog 106 #[.string s] w (fun e w' => e = .returned (.int .i64 (effD s)) ∧ w' = w) := by
  obtain ⟨o, ho⟩ : ∃ o, effD s = o := ⟨_, rfl⟩
  rw [ho]
  unfold effD at ho
  simp only [eqb s ⟨#[80, 117, 114, 101]⟩ [80, 117, 114, 101] rfl, eqb s ⟨#[83, 116, 97, 116, 101]⟩ [83, 116, 97, 116, 101] rfl, eqb s ⟨#[69, 120, 110]⟩ [69, 120, 110] rfl, eqb s ⟨#[65, 108, 108]⟩ [65, 108, 108] rfl, eqb s ⟨#[68, 105, 118]⟩ [68, 105, 118] rfl] at ho
  replace ho := hide ho
  go_enter Tryz.func106, Tryz.ntmps106
  go_wp2_with fail
  all_goals
    go_ret
    refine ⟨?_, rfl⟩
    have ho2 := unhide ho
    simp only [*, if_true, if_false, Bool.false_eq_true] at ho2
    rw [← ho2]
    rfl
theorem effOf_any (s : ByteArray) (w : World) : Calls Tryz.prog 106 #[.string s] w (VP (.int .i64 (effD s)) w) := (effOf_eq s w).mono fun _ _ h => ⟨h.1, by rw [h.2]; exact Below.refl _ _⟩
set_option maxRecDepth 100000 in
set_option maxHeartbeats 16000000 in
theorem kindOf_eq (s : ByteArray) (w : World) : Calls Tryz.prog 108 #[.string s] w (fun e w' => e = .returned (.int .i64 (kindD s)) ∧ w' = w) := by
  obtain ⟨o, ho⟩ : ∃ o, kindD s = o := ⟨_, rfl⟩
  rw [ho]
  unfold kindD at ho
  simp only [eqb s ⟨#[105, 110, 116]⟩ [105, 110, 116] rfl, eqb s ⟨#[98, 111, 111, 108]⟩ [98, 111, 111, 108] rfl, eqb s ⟨#[117, 110, 105, 116]⟩ [117, 110, 105, 116] rfl] at ho
  replace ho := hide ho
  go_enter Tryz.func108, Tryz.ntmps108
  go_wp2_with fail
  all_goals
    go_ret
    refine ⟨?_, rfl⟩
    have ho2 := unhide ho
    simp only [*, if_true, if_false, Bool.false_eq_true] at ho2
    rw [← ho2]
    rfl
theorem kindOf_any (s : ByteArray) (w : World) : Calls Tryz.prog 108 #[.string s] w (VP (.int .i64 (kindD s)) w) := (kindOf_eq s w).mono fun _ _ h => ⟨h.1, by rw [h.2]; exact Below.refl _ _⟩
theorem effD_txt {s : ByteArray} (h : effD s ≠ 0) : s ≠ ⟨#[]⟩ := fun e => h (by subst e; decide)
theorem kindD_txt {s : ByteArray} (h : kindD s ≠ 0) : s ≠ ⟨#[]⟩ := fun e => h (by subst e; decide)
def InOk (_ : World) (v : Value) (x : Int) : Prop := v = .int .i64 x
set_option maxRecDepth 100000 in
set_option maxHeartbeats 4000000 in
theorem effect_any {w : World} {r p d : Nat} {ts : List (Int × ByteArray × Int)} (hR : RD w r ts p d) (hT : TsOk ts) : Calls Tryz.prog 90 #[.pointer (some ⟨r, 0, none⟩)] w (RP InOk (effR ts p) r ts p d w) := by
  have HS := hide (next_any hR hT)
  obtain ⟨X, hX⟩ : ∃ X, effR ts p = X := ⟨_, rfl⟩
  rw [hX]
  unfold effR txt at hX
  have hlen : effD (nx ts p).2.1 ≠ 0 → p + 1 < ts.length := fun h => nx_txt hT hR.lt (effD_txt h)
  have HT := hide (And.intro hR (And.intro hT hlen))
  unfold tkV at HS
  obtain ⟨⟨kk, T, i⟩, hN⟩ : ∃ Y, nx ts p = Y := ⟨_, rfl⟩
  rw [hN] at HS hX
  have h1 := fld1 (.int .i64 kk) (.string T) (.int .i64 i)
  obtain ⟨o, ho⟩ : ∃ o, effD T = o := ⟨_, rfl⟩
  have HO := effOf_any T
  rw [ho] at HO
  replace HO := hide HO
  have HA := hide (And.intro hX (And.intro hN ho))
  clear hR hT hX hN hlen ho
  by_cases ho0 : o = 0
  · subst ho0
    go_enter Tryz.func90, Tryz.ntmps90
    go_wp2_with fail
    refine (unhide HS).mono ?_
    rintro e w2 ⟨rfl, hb2⟩
    have HB2 := hide hb2
    clear hb2 HS
    go_wp2_with fail
    refine (unhide HO w2).mono ?_
    rintro e w3 ⟨rfl, hb3⟩
    have HRf := hide (refused_any (((unhide HT).1.keep (unhide HB2)).keep hb3) (unhide HT).2.1 150)
    have HB3 := hide hb3
    clear hb3
    go_wp2_with fail
    refine (unhide HRf).mono ?_
    rintro e w4 ⟨rfl, hb4⟩
    have HB4 := hide hb4
    clear hb4 HRf
    go_wp2
    obtain ⟨hX, hN, ho⟩ := unhide HA
    rw [if_pos ho] at hX
    obtain rfl := hX
    refine ⟨rfl, (But.of (unhide HB2)).trans ((But.of (unhide HB3)).trans (But.of (unhide HB4))), ?_⟩
    show Ref _ _ _
    rw [show (nx ts p).2.2 = i from by rw [hN]]
    rfl
  · have g0 : (o == 0) = false := by simpa using ho0
    have g1 : decide (o = 0) = false := by simpa using ho0
    go_enter Tryz.func90, Tryz.ntmps90
    go_wp2_with fail
    refine (unhide HS).mono ?_
    rintro e w2 ⟨rfl, hb2⟩
    have HB2 := hide hb2
    clear hb2 HS
    go_wp2_with fail
    refine (unhide HO w2).mono ?_
    rintro e w3 ⟨rfl, hb3⟩
    have HTk := hide (take_any (((unhide HT).1.keep (unhide HB2)).keep hb3) (unhide HT).2.1 ((unhide HT).2.2 (by rw [(unhide HA).2.1]; show effD T ≠ 0; rw [(unhide HA).2.2]; exact ho0)))
    have HB3 := hide hb3
    clear hb3
    go_wp2_with fail
    refine (unhide HTk).mono ?_
    rintro e w4 ⟨rfl, hb4, hR4⟩
    have HB4 := hide (And.intro hb4 hR4)
    clear hb4 hR4 HTk
    go_wp2
    obtain ⟨hX, hN, ho⟩ := unhide HA
    rw [if_neg (by rw [ho]; exact ho0), ho] at hX
    obtain rfl := hX
    refine bodyPost_ret (results_tmp rfl _ _ _) rfl ?_
    exact ⟨(But.of (unhide HB2)).trans ((But.of (unhide HB3)).trans (unhide HB4).1), Nat.le_succ _, (unhide HB4).2, _, rfl, rfl⟩
end Go.Proofs.YtfkfnbehdcmgeaaGreatDoor

/- Package parse: types, parameters, declarations as they lie. -/
namespace Go.Proofs.YtfkfnbehdcmgeaaGreatDoor
open Go Go.RowKit
/-- Cells are written one behind the other. -/
def setN (W : World) (q : Nat) : Nat → List Value → World
  | _, [] => W
  | o, x :: cs => setN (W.setCell ⟨q, o, none⟩ x) q (o + 1) cs
theorem But.setN {r q : Nat} {w : World} : ∀ (cs : List Value) (A : World) (o : Nat), But r w A → w.heap.size ≤ q → But r w (setN A q o cs)
  | [], _, _, h, _ => h
  | x :: cs, A, o, h, hq => But.setN cs _ (o + 1) (but_new h hq o x) hq
theorem Stays.setN {lo q : Nat} {w : World} : ∀ (cs : List Value) (A : World) (o : Nat), Stays lo w A → q < lo → Stays lo w (setN A q o cs)
  | [], _, _, h, _ => h
  | x :: cs, A, o, h, hq => Stays.setN cs _ (o + 1) (h.set hq o x) hq
theorem Bu.setN {q r : Nat} {w : World} : ∀ (cs : List Value) (A : World) (o : Nat), Bu q r w A → Bu q r w (setN A q o cs)
  | [], _, _, h => h
  | x :: cs, A, o, h => Bu.setN cs _ (o + 1) (h.set o x)
theorem heap_setN {q k : Nat} (h : k ≠ q) : ∀ (cs : List Value) (A : World) (o : Nat), (setN A q o cs).heap[k]? = A.heap[k]?
  | [], _, _ => rfl
  | x :: cs, A, o => (heap_setN h cs _ (o + 1)).trans (heap_set o x h)
theorem blk_setN {q : Nat} {ty : TypeId} : ∀ (cs : List Value) (A : World) (o : Nat) (xs : List Value), A.heap[q]? = some (.cells xs.toArray ty) → o + cs.length ≤ xs.length → (setN A q o cs).heap[q]? = some (.cells (xs.take o ++ cs ++ xs.drop (o + cs.length)).toArray ty)
  | [], A, o, xs, h, _ => by
    simp only [List.append_nil, List.length_nil, Nat.add_zero, List.take_append_drop]
    exact h
  | x :: cs, A, o, xs, h, hl => by
    have hl' : o + 1 + cs.length ≤ xs.length := by simpa [Nat.add_assoc, Nat.add_comm 1] using hl
    have h2 := blk_setN (ty := ty) cs (A.setCell ⟨q, o, none⟩ x) (o + 1) (xs.set o x) (by rw [set_block h x]; simp) (by simpa using hl')
    rw [show setN A q o (x :: cs) = setN (A.setCell ⟨q, o, none⟩ x) q (o + 1) cs from rfl, h2]
    have ho : o < xs.length := by omega
    have e1 : (xs.set o x).take (o + 1) = xs.take o ++ [x] := by
      rw [List.take_add_one, List.take_set_of_le (Nat.le_refl _)]
      simp [ho]
    have e2 : (xs.set o x).drop (o + 1 + cs.length) = xs.drop (o + 1 + cs.length) := by
      rw [List.drop_set_of_lt (by omega)]
    rw [e1, e2]
    simp [Nat.add_assoc, Nat.add_comm 1]
theorem blk_all {q : Nat} {ty : TypeId} {A : World} {cs xs : List Value} (h : A.heap[q]? = some (.cells xs.toArray ty)) (hl : cs.length = xs.length) : (setN A q 0 cs).heap[q]? = some (.cells cs.toArray ty) := by
  rw [blk_setN cs A 0 xs h (by omega)]
  simp [hl]
theorem size_setN {q : Nat} : ∀ (cs : List Value) (A : World) (o : Nat), (setN A q o cs).heap.size = A.heap.size
  | [], _, _ => rfl
  | x :: cs, A, o => (size_setN cs _ (o + 1)).trans (by simp)
theorem RD.setN {r p d q : Nat} {ts : List (Int × ByteArray × Int)} {A : World} (hR : RD A r ts p d) (hq : r < q) (o : Nat) (cs : List Value) : RD (setN A q o cs) r ts p d := by
  obtain ⟨⟨g, c, h1, h2, h3, h4⟩, h5⟩ := hR
  exact ⟨⟨g, c, (heap_setN (by omega) cs A o).trans h1, h2, h3, fun j x hx => range_same (h4 j x hx) (heap_setN (by omega) cs A o)⟩, h5⟩
theorem zkeep {w w' : World} {q r : Nat} {cs : Array Value} {ty : TypeId} (h : w.heap[q]? = some (.cells cs ty)) (hb : But r w w') (hr : r ≠ q) : w'.heap[q]? = some (.cells cs ty) := (hb.block q (blk h).1 (Ne.symm hr)).trans h
/-- A row of rows of k cells. -/
def IsRow (w : World) (k lo : Nat) (v : Value) (n : Nat) (p : Nat → List Value → Prop) : Prop := ∃ a c, v = .slice a n c ∧ n ≤ c ∧ n ≤ 1000000 ∧ (n ≠ 0 → ∃ b off, a = some ⟨b, off, none⟩ ∧ lo ≤ b ∧ b < w.heap.size ∧ ∀ j, j < n → ∃ cs, w.rangeAt b (off + j * k) cs ∧ p j cs)
theorem IsRow.keep {w w' : World} {k lo lo' n : Nat} {v : Value} {p q : Nat → List Value → Prop} (h : IsRow w k lo v n p) (hb : Stays lo w w') (hl : lo' ≤ lo) (hp : ∀ j cs, p j cs → q j cs) : IsRow w' k lo' v n q := by
  obtain ⟨a, c, e, h1, h2, h3⟩ := h
  refine ⟨a, c, e, h1, h2, fun h0 => ?_⟩
  obtain ⟨b, off, e2, h4, h5, h6⟩ := h3 h0
  refine ⟨b, off, e2, Nat.le_trans hl h4, Nat.lt_of_lt_of_le h5 hb.1, fun j hj => ?_⟩
  obtain ⟨cs, h7, h8⟩ := h6 j hj
  exact ⟨cs, range_same h7 (hb.2 b h4 h5), hp j cs h8⟩
/-- A type's cells. -/
def IsTy (w : World) (lo : Nat) (cs : List Value) (t : Ty) : Prop := ∃ a n c, cs = [.int .i64 t.kind, .string t.name, .slice a n c, .int .i64 t.at'] ∧ IsLs w lo (.slice a n c) t.r
theorem IsTy.keep {w w' : World} {lo lo' : Nat} {cs : List Value} {t : Ty} (h : IsTy w lo cs t) (hb : Stays lo w w') (hl : lo' ≤ lo) : IsTy w' lo' cs t := by
  obtain ⟨a, n, c, e, h⟩ := h
  exact ⟨a, n, c, e, h.keep hb hl⟩
/-- A type as a value. -/
def TyV (w : World) (lo : Nat) (v : Value) (t : Ty) : Prop := ∃ a n c, v = .agg #[.int .i64 t.kind, .string t.name, .slice a n c, .int .i64 t.at'] ∧ IsLs w lo (.slice a n c) t.r
theorem TyV.keep (w w' : World) (lo lo' : Nat) (v : Value) (t : Ty) (h : TyV w lo v t) (hb : Stays lo w w') (hl : lo' ≤ lo) : TyV w' lo' v t := by
  obtain ⟨a, n, c, e, h⟩ := h
  exact ⟨a, n, c, e, h.keep hb hl⟩
/-- A parameter's cells. -/
def IsPm (w : World) (lo : Nat) (cs : List Value) (x : Pm) : Prop := ∃ a n c, cs = [.string x.name, .int .i64 x.t.kind, .string x.t.name, .slice a n c, .int .i64 x.t.at', .int .i64 x.at'] ∧ IsLs w lo (.slice a n c) x.t.r
theorem IsPm.keep {w w' : World} {lo lo' : Nat} {cs : List Value} {t : Pm} (h : IsPm w lo cs t) (hb : Stays lo w w') (hl : lo' ≤ lo) : IsPm w' lo' cs t := by
  obtain ⟨a, n, c, e, h⟩ := h
  exact ⟨a, n, c, e, h.keep hb hl⟩
/-- A row of parameters. -/
def IsPs (w : World) (lo : Nat) (v : Value) (l : List Pm) : Prop := IsRow w 6 lo v l.length fun j cs => ∀ x, l[j]? = some x → IsPm w lo cs x
theorem IsPs.keep {w w' : World} {lo lo' : Nat} {v : Value} {l : List Pm} (h : IsPs w lo v l) (hb : Stays lo w w') (hl : lo' ≤ lo) : IsPs w' lo' v l := IsRow.keep h hb hl fun _ _ h x hx => (h x hx).keep hb hl
/-- A declaration's cells. -/
structure DeV where
  pa : Option Addr
  pn : Nat
  pc : Nat
  ta : Option Addr
  tn : Nat
  tc : Nat
  ra : Option Addr
  rn : Nat
  rc : Nat
  ea : Option Addr
  en : Nat
  ec : Nat
  ma : Option Addr
  mn : Nat
  mc : Nat
  ba : Option Addr
  bn : Nat
  bc : Nat
def deCells (d : De) (x : DeV) : List Value := [.bool d.cell, .string d.name, .string d.num, .bool d.again, .slice x.pa x.pn x.pc, .int .i64 d.eff, .int .i64 d.t.kind, .string d.t.name, .slice x.ta x.tn x.tc, .int .i64 d.t.at', .slice x.ra x.rn x.rc, .string d.res, .slice x.ea x.en x.ec, .slice x.ma x.mn x.mc, .int .i64 d.body.op, .string d.body.name, .string d.body.num, .bool d.body.b, .slice x.ba x.bn x.bc, .int .i64 0, .int .i64 d.body.at', .int .i64 d.at']
structure DeIn (w : World) (lo : Nat) (d : De) (x : DeV) : Prop where
  ps : IsPs w lo (.slice x.pa x.pn x.pc) d.ps
  ty : IsLs w lo (.slice x.ta x.tn x.tc) d.t.r
  req : IsLs w lo (.slice x.ra x.rn x.rc) d.req
  ens : IsLs w lo (.slice x.ea x.en x.ec) d.ens
  mea : IsLs w lo (.slice x.ma x.mn x.mc) d.mea
  body : IsLs w lo (.slice x.ba x.bn x.bc) d.body.l
theorem DeIn.keep {w w' : World} {lo lo' : Nat} {d : De} {x : DeV} (h : DeIn w lo d x) (hb : Stays lo w w') (hl : lo' ≤ lo) : DeIn w' lo' d x := ⟨h.ps.keep hb hl, h.ty.keep hb hl, h.req.keep hb hl, h.ens.keep hb hl, h.mea.keep hb hl, h.body.keep hb hl⟩
def IsDe (w : World) (lo : Nat) (cs : List Value) (d : De) : Prop := ∃ x, cs = deCells d x ∧ DeIn w lo d x
theorem IsDe.keep {w w' : World} {lo lo' : Nat} {cs : List Value} {d : De} (h : IsDe w lo cs d) (hb : Stays lo w w') (hl : lo' ≤ lo) : IsDe w' lo' cs d := by
  obtain ⟨x, e, h⟩ := h
  exact ⟨x, e, h.keep hb hl⟩
def IsDs (w : World) (lo : Nat) (v : Value) (l : List De) : Prop := IsRow w 22 lo v l.length fun j cs => ∀ x, l[j]? = some x → IsDe w lo cs x
theorem IsDs.keep {w w' : World} {lo lo' : Nat} {v : Value} {l : List De} (h : IsDs w lo v l) (hb : Stays lo w w') (hl : lo' ≤ lo) : IsDs w' lo' v l := IsRow.keep h hb hl fun _ _ h x hx => (h x hx).keep hb hl
theorem lsn {w : World} {lo : Nat} : IsLs w lo (.slice none 0 0) [] := ⟨0, none, 0, rfl, Nat.le_refl _, by simp, fun h => absurd rfl h⟩
theorem psn {w : World} {lo : Nat} : IsPs w lo (.slice none 0 0) [] := ⟨none, 0, rfl, Nat.le_refl _, by simp, fun h => absurd rfl h⟩
/-- An expression's row of operands. -/
theorem IsE.ls {w : World} {lo : Nat} {i0 i6 : Int} {s1 s2 : ByteArray} {b3 : Bool} {a4 : Option Addr} {n4 c4 : Nat} {t : Ex} (h : IsE w lo (.agg #[.int .i64 i0, .string s1, .string s2, .bool b3, .slice a4 n4 c4, .int .i64 0, .int .i64 i6]) t) : i0 = t.op ∧ s1 = t.name ∧ s2 = t.num ∧ b3 = t.b ∧ i6 = t.at' ∧ IsLs w lo (.slice a4 n4 c4) t.l := by
  obtain ⟨op, nm, nu, bl, l, i⟩ := t
  obtain ⟨k, a, c, e, h2⟩ := h
  obtain ⟨rfl, rfl, rfl, rfl, ⟨rfl, rfl, rfl⟩, rfl⟩ : i0 = op ∧ s1 = nm ∧ s2 = nu ∧ b3 = bl ∧ (a4 = a ∧ n4 = l.length ∧ c4 = c) ∧ i6 = i := by simpa using e
  exact ⟨rfl, rfl, rfl, rfl, rfl, k, _, _, rfl, h2⟩
/-- A row of one expression. -/
theorem one_ls {w W : World} {lo : Nat} {x0 x1 x2 x3 x4 x5 x6 : Value} {t : Ex} (h : IsE w lo (.agg #[x0, x1, x2, x3, x4, x5, x6]) t) (eW : w.alloc (.cells #[x0, x1, x2, x3, x4, x5, x6] 36) = W) (hlo : lo ≤ w.heap.size) : IsLs W lo (.slice (some ⟨w.heap.size, 0, none⟩) 1 1) [t] :=
  (node (l := [t]) (vs := [[x0, x1, x2, x3, x4, x5, x6]]) 0 0 ⟨#[]⟩ ⟨#[]⟩ false eW rfl (by simp) rfl (by simp) hlo (fun j v t' hv ht => by
    rcases j with _ | j
    · obtain rfl := Option.some.inj hv
      obtain rfl := Option.some.inj ht
      exact h
    · simp at hv)).ls.2.2.2.2.2
/-- A rule hands back what it was handed: a result in a box. -/
theorem ret_row {α : Type} {Φ : World → Nat → Value → α → Prop} (hΦ : ∀ w w' lo lo' v t, Φ w lo v t → Stays lo w w' → lo' ≤ lo → Φ w' lo' v t) {fn : Func} {a : Act} {tt : Nat} {w w3 : World} {r p q d lo : Nat} {ts : List (Int × ByteArray × Int)} {t : α} {Y : (Except (Int × Int) (α × Nat))} {xs cs : List Value} {ty : TypeId} {dd : TypeDesc} (hf : fn.results = #[.cell tt ty]) (ht : a.tmps[tt]? = some (.pointer (some ⟨w.heap.size, 0, none⟩))) (hdf : a.defers = []) (hbu : But r w w3) (hr : r < w.heap.size) (hz : w3.heap[w.heap.size]? = some (.cells xs.toArray ty)) (hl : cs.length = xs.length) (hu : Tryz.prog.underlying ty = some dd) (hd : dd.isRow = true) (hi : (Tryz.prog.info? ty).map (·.size) = some cs.length) (hY : Y = .ok (t, q)) (hpq : p ≤ q) (hR : RD w3 r ts q d) (hlo : w.heap.size < lo) (hv : Φ w3 lo (.agg cs.toArray) t) :
    bodyPost Tryz.prog fn (RP (fun w' v t => Φ w' w.heap.size v t) Y r ts p d w) .ret a (setN w3 w.heap.size 0 cs) := by
  subst hY
  refine bodyPost_ret (res_row (cs := cs) hf ht (range_block (blk_all hz hl)) hu hd hi) hdf ?_
  refine ⟨But.setN cs w3 0 hbu (Nat.le_refl _), hpq, ?_, _, rfl, hΦ _ _ _ _ _ _ hv (Stays.setN cs w3 0 (Stays.of (Below.refl _ _)) hlo) (by omega)⟩
  obtain ⟨⟨g, c, h1, h2, h3, h4⟩, h5⟩ := hR
  refine ⟨⟨g, c, (heap_setN (by omega) cs w3 0).trans h1, h2, h3, fun j x hx => range_same (h4 j x hx) (heap_setN (by omega) cs w3 0)⟩, h5⟩
end Go.Proofs.YtfkfnbehdcmgeaaGreatDoor

/- The document's parser: a rule's contract; expr. -/
namespace Go.Proofs.YtfkfnbehdcmgeaaGreatDoor
open Go Go.RowKit
/-- What a rule of expressions answers. -/
def DE (x : Ex × PS) (r : Nat) (ts : List (Int × ByteArray × Int)) (d : Nat) (w : World) (e : Ending) (w' : World) : Prop := DP (fun w' v t => IsE w' w.heap.size v t) x r ts d w e w'
theorem PD.put {w : World} {r d q : Nat} {st : PS} {ts : List (Int × ByteArray × Int)} (h : PD w r ts st d) (hq : r < q) (x0 x1 x2 x3 x4 x5 x6 : Value) : PD (set7 w q x0 x1 x2 x3 x4 x5 x6) r ts st d := h.out hq fun k hk => by
  unfold set7
  exact same7 (by omega) _ _ _ _ _ _ _
theorem PD.deep {w : World} {r d e : Nat} {st : PS} {ts : List (Int × ByteArray × Int)} (h : PD w r ts st d) : PD (w.setCell ⟨r, 4, none⟩ (.int .i64 (e : Int))) r ts st e := h.set ((But.refl r w).set _ _) h.lt fun g c h => set_block h _
theorem dret_put {fn : Func} {a : Act} {tt : Nat} {w w3 : World} {r d lo : Nat} {ts : List (Int × ByteArray × Int)} {t : Ex} {st : PS} {Y : Ex × PS} {x0 x1 x2 x3 x4 x5 x6 : Value} (hf : fn.results = #[.cell tt 36]) (ht : a.tmps[tt]? = some (.pointer (some ⟨w.heap.size, 0, none⟩))) (hdf : a.defers = []) (hbu : But r w w3) (hr : r < w.heap.size) (hz : ZB w3 w.heap.size) (hY : Y = (t, st)) (hR : PD w3 r ts st d) (hlo : w.heap.size < lo) (hv : IsE w3 lo (.agg #[x0, x1, x2, x3, x4, x5, x6]) t) :
    bodyPost Tryz.prog fn (DE Y r ts d w) .ret a (set7 w3 w.heap.size x0 x1 x2 x3 x4 x5 x6) := by
  subst hY
  refine bodyPost_ret (res_row (cs := [x0, x1, x2, x3, x4, x5, x6]) hf ht (range_block (fill7 hz)) Tryz.underlying36 rfl (by kernel_rfl)) hdf ?_
  exact ⟨but7 hbu (Nat.le_refl _) _ _ _ _ _ _ _, hR.put hr _ _ _ _ _ _ _, _, rfl, hv.keep (stays7 (Stays.of (Below.refl _ _)) hlo _ _ _ _ _ _ _) (by omega)⟩
/-- A rule's contract at a depth. -/
def DcC (f : Nat) (r : Nat) (ts : List (Int × ByteArray × Int)) (d : Nat) (X : PS → Ex × PS) : Prop := ∀ (w : World) (st : PS), PD w r ts st d → Calls Tryz.prog f #[.pointer (some ⟨r, 0, none⟩)] w (DE (X st) r ts d w)
set_option maxRecDepth 100000 in
set_option maxHeartbeats 4000000 in
theorem dexpr_top {r d : Nat} {ts : List (Int × ByteArray × Int)} (hT : TsOk ts) (hd : 200 ≤ d) (hd2 : d ≤ 100000) : DcC 37 r ts d (fun st => (zEx, st.fail (tD ts st).2.2 151)) := by
  intro w st hR
  obtain ⟨A, eA, hbA, hzA, hsA⟩ := zb_new w
  have hr := hR.rlt
  have HC := hide (down_no (hR.keep hbA) hT hd hd2)
  have HA := hide (And.intro hbA hzA)
  have HE := hide eA
  obtain ⟨s2, hs⟩ : ∃ s2, st.fail (tD ts st).2.2 151 = s2 := ⟨_, rfl⟩
  rw [hs] at HC
  have HSS := hide hs
  have g1 : (0 : Int) ≤ (d : Int) := by omega
  have g2 : (d : Int) ≤ 100000 := by omega
  have hne : r ≠ w.heap.size := by omega
  clear hR hT hd hd2 eA hbA hzA hsA hs
  go_enter Tryz.func37, Tryz.ntmps37
  go_wp2_with fail
  rw [unhide HE]
  refine (unhide HC).mono ?_
  rintro e w2 ⟨rfl, hb2, hR2⟩
  have hz2 := (unhide HA).2.but hb2 hne
  obtain ⟨g, c, x0, x1, x2, x3, x4, hc, hrl, hf, ht⟩ := hR2.facts (Below.refl _ _)
  have f4 := hf 4
  obtain ⟨y0, y1, y2, y3, y4, y5, y6⟩ := blk7 hz2
  obtain ⟨z0, z1, z2, z3, z4, z5, z6⟩ := frz7 hz2
  have H2 := hide (And.intro ((But.of (r := r) (unhide HA).1).trans hb2) (And.intro hR2 hz2))
  clear hb2 hR2 hz2 HC hc hf ht x0 x1 x2 x3
  go_wp2
  obtain ⟨hb, hR2, hz2⟩ := unhide H2
  have hz3 : ZB (w2.setCell ⟨r, 4, none⟩ (.int .i64 (d : Int))) w.heap.size := hz2.but ((But.refl r w2).set _ _) hne
  refine bodyPost_ret (res_row (cs := [.int .i64 0, .string ⟨#[]⟩, .string ⟨#[]⟩, .bool false, .slice none 0 0, .int .i64 0, .int .i64 0]) rfl rfl (range_block (fill7 hz3)) Tryz.underlying36 rfl (by kernel_rfl)) rfl ?_
  refine ⟨but7 (hb.set 4 _) (Nat.le_refl _) _ _ _ _ _ _ _, ?_, _, rfl, leaf 0 0 ⟨#[]⟩ ⟨#[]⟩ false⟩
  rw [unhide HSS]
  exact hR2.deep.put hr _ _ _ _ _ _ _
end Go.Proofs.YtfkfnbehdcmgeaaGreatDoor

namespace Go.Proofs.YtfkfnbehdcmgeaaGreatDoor
open Go Go.RowKit
/-- A rule's contract at a depth, where there is no error yet. -/
def DcO (f : Nat) (r : Nat) (ts : List (Int × ByteArray × Int)) (d : Nat) (X : PS → Ex × PS) : Prop := ∀ (w : World) (st : PS), st.e = 0 → PD w r ts st d → Calls Tryz.prog f #[.pointer (some ⟨r, 0, none⟩)] w (DE (X st) r ts d w)
set_option maxRecDepth 100000 in
set_option maxHeartbeats 4000000 in
theorem dexpr_of {r d : Nat} {ts : List (Int × ByteArray × Int)} {X : PS → Ex × PS} (hd : d < 200) (hX : DcO 61 r ts (d + 1) X) : DcC 37 r ts d (fun st => if st.e = 0 then X st else (zEx, st)) := by
  intro w st hR
  obtain ⟨A, eA, hbA, hzA, hsA⟩ := zb_new w
  have hr := hR.rlt
  have HC := hide (down_yes (hR.keep hbA) hd)
  have HA := hide (And.intro hbA hzA)
  have HE := hide eA
  obtain ⟨Y, hY⟩ : ∃ Y, (if st.e = 0 then X st else (zEx, st)) = Y := ⟨_, rfl⟩
  show Calls _ _ _ _ (DE (if st.e = 0 then X st else (zEx, st)) r ts d w)
  rw [hY]
  have g1 : (0 : Int) ≤ (d : Int) := by omega
  have g2 : (d : Int) < 200 := by omega
  have hne : r ≠ w.heap.size := by omega
  clear hR hd eA hbA hzA hsA
  by_cases he : st.e = 0
  · have d1 : decide (st.e = 0) = true := decide_eq_true he
    rw [d1] at HC
    rw [if_pos he] at hY
    have HEr := hide he
    have HX := hide hX
    clear d1 he hX
    have HY := hide hY
    clear hY
    go_enter Tryz.func37, Tryz.ntmps37
    go_wp2_with fail
    rw [unhide HE]
    refine (unhide HC).mono ?_
    rintro e w2 ⟨rfl, hb2, hR2⟩
    have HC2 := hide (unhide HX w2 st (unhide HEr) hR2)
    rw [unhide HY] at HC2
    have H2 := hide (And.intro ((But.of (r := r) (unhide HA).1).trans hb2) ((unhide HA).2.but hb2 hne))
    clear HX hb2 hR2 HC
    go_wp2_with fail
    refine (unhide HC2).mono ?_
    rintro e w3 ⟨hb3, hR3, v, rfl, hv⟩
    obtain ⟨i0, i6, s1, s2, b3, a4, n4, c4, rfl⟩ := hv.form
    have hz3 := (unhide H2).2.but hb3 hne
    obtain ⟨B, eB, hbB, hsB, hhB⟩ := box_new w3 #[.int .i64 i0, .string s1, .string s2, .bool b3, .slice a4 n4 c4, .int .i64 0, .int .i64 i6] 36
    have hzB := hz3.but (But.of (r := r) hbB) hne
    have hRB := hR3.keep hbB
    have n2 : r ≠ w3.heap.size := by have := hR3.rlt; omega
    have n3 : w.heap.size ≠ w3.heap.size := by have := (blk hz3).1; omega
    obtain ⟨g, c, x0, x1, x2, x3, x4, hc, hrl, hf, ht⟩ := hRB.facts (Below.refl _ _)
    have f4 := hf 4
    obtain ⟨y0, y1, y2, y3, y4, y5, y6⟩ := blk7 hzB
    obtain ⟨z0, z1, z2, z3, z4, z5, z6⟩ := frz7 hzB
    obtain ⟨q0, q1, q2, q3, q4, q5, q6⟩ := blk7 hhB
    have hs2 := (blk (unhide H2).2).1
    have H3 := hide (And.intro ((unhide H2).1.trans (hb3.trans (But.of (r := r) hbB))) (And.intro hRB (And.intro hzB (And.intro hv (And.intro hbB hs2)))))
    have HEB := hide eB
    rw [← eB] at x4 hrl f4 y0 y1 y2 y3 y4 y5 y6 z0 z1 z2 z3 z4 z5 z6 q0 q1 q2 q3 q4 q5 q6
    clear hb3 hR3 hv hz3 eB hbB hsB hhB hzB hRB hc hf ht x0 x1 x2 x3 HC2 hs2
    go_wp2
    rw [unhide HEB]
    obtain ⟨hbu, hRB, hzB, hv, hbB, hs2⟩ := unhide H3
    have hz4 : ZB (B.setCell ⟨r, 4, none⟩ (.int .i64 (d : Int))) w.heap.size := hzB.but ((But.refl r B).set _ _) hne
    refine bodyPost_ret (res_row (cs := [.int .i64 i0, .string s1, .string s2, .bool b3, .slice a4 n4 c4, .int .i64 0, .int .i64 i6]) rfl rfl (range_block (fill7 hz4)) Tryz.underlying36 rfl (by kernel_rfl)) rfl ?_
    refine ⟨but7 (hbu.set 4 _) (Nat.le_refl _) _ _ _ _ _ _ _, hRB.deep.put hr _ _ _ _ _ _ _, _, rfl, ?_⟩
    exact hv.keep (stays7 ((Stays.of hbB).set (by omega) _ _) hs2 _ _ _ _ _ _ _) (by omega)
  · have d1 : decide (st.e = 0) = false := decide_eq_false he
    rw [d1] at HC
    rw [if_neg he] at hY
    subst hY
    clear d1 he hX
    go_enter Tryz.func37, Tryz.ntmps37
    go_wp2_with fail
    rw [unhide HE]
    refine (unhide HC).mono ?_
    rintro e w2 ⟨rfl, hb2, hR2⟩
    have hz2 := (unhide HA).2.but hb2 hne
    obtain ⟨g, c, x0, x1, x2, x3, x4, hc, hrl, hf, ht⟩ := hR2.facts (Below.refl _ _)
    have f4 := hf 4
    obtain ⟨y0, y1, y2, y3, y4, y5, y6⟩ := blk7 hz2
    obtain ⟨z0, z1, z2, z3, z4, z5, z6⟩ := frz7 hz2
    have H2 := hide (And.intro ((But.of (r := r) (unhide HA).1).trans hb2) (And.intro hR2 hz2))
    clear hb2 hR2 hz2 HC hc hf ht x0 x1 x2 x3
    go_wp2
    obtain ⟨hb, hR2, hz2⟩ := unhide H2
    have hz3 : ZB (w2.setCell ⟨r, 4, none⟩ (.int .i64 (d : Int))) w.heap.size := hz2.but ((But.refl r w2).set _ _) hne
    refine bodyPost_ret (res_row (cs := [.int .i64 0, .string ⟨#[]⟩, .string ⟨#[]⟩, .bool false, .slice none 0 0, .int .i64 0, .int .i64 0]) rfl rfl (range_block (fill7 hz3)) Tryz.underlying36 rfl (by kernel_rfl)) rfl ?_
    exact ⟨but7 (hb.set 4 _) (Nat.le_refl _) _ _ _ _ _ _ _, hR2.deep.put hr _ _ _ _ _ _ _, _, rfl, leaf 0 0 ⟨#[]⟩ ⟨#[]⟩ false⟩
end Go.Proofs.YtfkfnbehdcmgeaaGreatDoor
