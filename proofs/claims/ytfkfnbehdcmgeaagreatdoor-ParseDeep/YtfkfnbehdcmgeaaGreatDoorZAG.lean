/- Package parse: joined. -/
import Derived.Test.YtfkfnbehdcmgeaaGreatDoorZAE
import Derived.Test.YtfkfnbehdcmgeaaGreatDoorZAF
set_option linter.unusedVariables false
set_option linter.unusedSimpArgs false

/- Package parse: a chain of operands. -/
namespace Go.Proofs.YtfkfnbehdcmgeaaGreatDoor
open Go Go.RowKit
/-- What joined answers. -/
def JoC (k r : Nat) (ts : List (Int × ByteArray × Int)) (d lo : Nat) (O : Nat → (Except (Int × Int) (Ex × Nat))) : Prop := ∀ (w : World) (p : Nat) (P : Nat → Prop) (t : Ex) (i0 i6 : Int) (s1 s2 : ByteArray) (b3 : Bool) (a4 : Option Addr) (n4 c4 : Nat), lo ≤ p → p + 1 < ts.length → RD w r ts p d → IsEP w P (.agg #[.int .i64 i0, .string s1, .string s2, .bool b3, .slice a4 n4 c4, .int .i64 0, .int .i64 i6]) t → ¬ P r → (∀ b, w.heap.size ≤ b → P b) → Calls Tryz.prog 121 #[.pointer (some ⟨r, 0, none⟩), .agg #[.int .i64 i0, .string s1, .string s2, .bool b3, .slice a4 n4 c4, .int .i64 0, .int .i64 i6], .func (.func k) #[.pointer (some ⟨r, 0, none⟩)] #[]] w (RP (fun w' v t => IsEP w' P v t) (joinR ts O t p) r ts (p + 1) d w)
theorem chainL_no {ts : List (Int × ByteArray × Int)} {O : Nat → (Except (Int × Int) (Ex × Nat))} {signs : List ByteArray} {n q : Nat} {t : Ex} (h : signs.any (sees ts q) = false) : chainL ts O signs n t q = .ok (t, q) := by
  cases n with
  | zero => rfl
  | succ n => unfold chainL; rw [h]; rfl
theorem chainL_yes {ts : List (Int × ByteArray × Int)} {O : Nat → (Except (Int × Int) (Ex × Nat))} {signs : List ByteArray} {n q : Nat} {t : Ex} (h : signs.any (sees ts q) = true) : chainL ts O signs (n + 1) t q = thenR (joinR ts O t q) fun y q => chainL ts O signs n y q := by
  rw [chainL, h]
  rfl
theorem ExAt.bnd {w : World} {P : Nat → Prop} : ∀ (h b o : Nat) (t : Ex), ExAt w P h b o t → ExAt w (fun b => P b ∧ b < w.heap.size) h b o t
  | 0, _, _, _, h => h
  | h + 1, b, o, .mk op nm nu bl l i, hx => by
    obtain ⟨a, c, h1, h2, h3, h4⟩ := hx
    refine ⟨a, c, h1, h2, h3, fun h0 => ?_⟩
    obtain ⟨b, off, e, hr, hb, hj⟩ := h4 h0
    exact ⟨b, off, e, ⟨hr, hb⟩, hb, fun j hjn t ht => ExAt.bnd h _ _ t (hj j hjn t ht)⟩
theorem IsEP.bnd {w : World} {P : Nat → Prop} {v : Value} {t : Ex} (h : IsEP w P v t) : IsEP w (fun b => P b ∧ b < w.heap.size) v t := by
  obtain ⟨op, nm, nu, bl, l, i⟩ := t
  obtain ⟨k, a, c, e, h2, h3, h4⟩ := h
  refine ⟨k, a, c, e, h2, h3, fun h0 => ?_⟩
  obtain ⟨b, off, e, hr, hb, hj⟩ := h4 h0
  exact ⟨b, off, e, ⟨hr, hb⟩, hb, fun j hjn t ht => ExAt.bnd k _ _ t (hj j hjn t ht)⟩
/-- While a chain is read. -/
structure CI (w : World) (r : Nat) (ts : List (Int × ByteArray × Int)) (p d lo b7 g0 : Nat) (O : Nat → (Except (Int × Int) (Ex × Nat))) (signs : List ByteArray) (Y : (Except (Int × Int) (Ex × Nat))) (i0 i6 : Int) (s1 s2 : ByteArray) (b3 : Bool) (a4 : Option Addr) (n4 c4 : Nat) (t : Ex) (q n : Nat) (V : World) : Prop where
  but : But r w V
  rd : RD V r ts q d
  zb : ZB V w.heap.size
  bx : V.heap[b7]? = some (.cells #[.int .i64 i0, .string s1, .string s2, .bool b3, .slice a4 n4 c4, .int .i64 0, .int .i64 i6] 36)
  tr : IsEP V (fun b => w.heap.size < b ∧ b ≠ b7) (.agg #[.int .i64 i0, .string s1, .string s2, .bool b3, .slice a4 n4 c4, .int .i64 0, .int .i64 i6]) t
  le : p ≤ q ∧ lo ≤ q
  fu : ts.length ≤ q + n
  ch : chainL ts O signs n t q = Y
  sg : ∀ (j : Nat) s, signs[j]? = some s → V.cell? ⟨g0, j, none⟩ = some (.string s)
  gs : g0 < V.heap.size ∧ r ≠ g0 ∧ g0 < w.heap.size
  sz : w.heap.size < V.heap.size
set_option maxRecDepth 100000 in
set_option maxHeartbeats 8000000 in
theorem chain_of {r d lo k g0 nn0 cc0 : Nat} {ts : List (Int × ByteArray × Int)} {O : Nat → (Except (Int × Int) (Ex × Nat))} {signs : List ByteArray} (hT : TsOk ts) (hEn : Enters Tryz.prog k) (hO : RuC k r ts d lo O) (hJ : JoC k r ts d lo O) {w : World} {p : Nat} (hlo : lo ≤ p) (hR : RD w r ts p d) (hn0 : nn0 = signs.length) (hne : ∀ s ∈ signs, s ≠ ⟨#[]⟩) (hnl : signs.length ≤ 100) (hg0 : g0 < w.heap.size ∧ r ≠ g0) (hsg : ∀ (j : Nat) s, signs[j]? = some s → w.cell? ⟨g0, j, none⟩ = some (.string s)) : Calls Tryz.prog 119 #[.pointer (some ⟨r, 0, none⟩), .func (.func k) #[.pointer (some ⟨r, 0, none⟩)] #[], .slice (some ⟨g0, 0, none⟩) nn0 cc0] w (PE (chainR ts O signs p) r ts p d w) := by
  obtain ⟨Y, hY⟩ : ∃ Y, chainR ts O signs p = Y := ⟨_, rfl⟩
  rw [hY]
  unfold chainR at hY
  have hr := hR.rlt
  obtain ⟨A, eA, hbA, hzA, hsA⟩ := zb_new w
  have HB := hide (But.of (r := r) hbA)
  have HR := hide (hR.keep hbA)
  have HZ := hide hzA
  have HS : Hid (w.heap.size < A.heap.size) := by show _ < _; omega
  have HL : Hid (p ≤ p ∧ lo ≤ p) := ⟨Nat.le_refl _, hlo⟩
  have HE := hide eA
  have HT := hide hT
  have HY := hide hY
  have hrne : r ≠ w.heap.size := by omega
  have hmf : ∀ (fn : Fn) (first cap : Array Value) (w : World), (Instr.makeFunc fn first cap).run Tryz.prog w = .ok (.func fn first cap) w := fun _ _ _ _ => rfl
  replace hEn := hide hEn
  replace hO := hide hO
  replace hJ := hide hJ
  clear hlo hR hbA hzA hsA eA hT hY
  have HSg := hide (And.intro hn0 (And.intro hnl (And.intro hg0 hsg)))
  have HNe := hide hne
  clear hn0 hnl hg0 hsg hne
  go_enter Tryz.func119, Tryz.ntmps119
  have HC0 := hide (unhide hO A (p) (unhide HL).2 (unhide HR))
  go_wp2_with fail
  rw [(unhide hEn).run, unhide HE]
  refine Calls.mono (unhide HC0) ?_
  intro e w0 h0
  rcases hX0 : O (p) with er | ⟨t0, q0⟩
  · rw [hX0] at h0
    obtain ⟨ei, en⟩ := er
    have hYe : Y = .error (ei, en) := by have h := unhide HY; rw [hX0] at h; exact h.symm
    subst hYe
    obtain ⟨hb0, h0⟩ := h0
    obtain rfl : e = _ := h0
    have HP := hide ((unhide HB).trans hb0)
    clear hb0 HC0 hX0
    go_wp2
    exact ⟨rfl, unhide HP, rfl⟩
  rw [hX0] at h0
  obtain ⟨hb0, hle0, hR0, v0, rfl, hv0⟩ := h0
  have hY0 := unhide HY
  rw [hX0] at hY0
  simp only [thenR] at hY0
  replace HY := hide hY0
  clear hY0
  obtain ⟨i0, j0, s0, m0, b0, a0, n0, c0, rfl⟩ := hv0.form
  have HT0 := hide (hv0.keep (lo' := w.heap.size + 1) (Stays.of (Below.refl _ _)) (unhide HS))
  replace HB := hide ((unhide HB).trans hb0)
  replace HZ := hide ((unhide HZ).but hb0 hrne)
  replace HS := hide (Nat.lt_of_lt_of_le (unhide HS) hb0.size)
  replace HR := hide hR0
  replace HL := hide (And.intro (Nat.le_trans (unhide HL).1 hle0) (Nat.le_trans (unhide HL).2 hle0))
  clear hb0 hle0 hR0 hv0 HC0 hX0
  have HSo := HS
  have HTP := hide (IsEP.bnd (unhide HT0))
  obtain ⟨B1, eB1, hbB1, hsB1, hhB1⟩ := box_new w0 #[.int .i64 i0, .string s0, .string m0, .bool b0, .slice a0 n0 c0, .int .i64 0, .int .i64 j0] 36
  have ne1 : r ≠ w0.heap.size := by have := unhide HS; omega
  have hbu2 := But.of (r := r) hbB1
  replace HR := hide ((unhide HR).keep hbB1)
  replace HB := hide ((unhide HB).trans hbu2)
  replace HZ := hide ((unhide HZ).but hbu2 hrne)
  replace HT0 := hide ((unhide HT0).keep (Stays.but hbu2 (Nat.lt_succ_of_lt hr)) (Nat.le_refl _))
  replace HS := hide (Nat.lt_of_lt_of_le (unhide HS) hbu2.size)
  have HX1 := hide hhB1
  have HEB1 := hide eB1
  have HSB1 := hide hsB1
  clear eB1 hbB1 hhB1 hsB1
  obtain ⟨b7, hb7⟩ : ∃ b7, w0.heap.size = b7 := ⟨_, rfl⟩
  have h70 : w.heap.size < b7 := by have := unhide HSo; omega
  have HI : Hid (CI w r ts p d lo b7 g0 O signs Y i0 j0 s0 m0 b0 a0 n0 c0 t0 q0 ts.length B1) := by
    obtain ⟨hn0, hnl, hg0, hsg⟩ := unhide HSg
    have hbx := unhide HX1
    rw [hb7] at hbx
    have hbt := unhide HB
    refine ⟨hbt, unhide HR, unhide HZ, hbx, (unhide HTP).keep ⟨hbu2.size, fun k hk hs => hbu2.block k hs (by omega)⟩ (fun b hb => ⟨hb.1, by omega⟩), unhide HL, by omega, unhide HY, fun j s hs => ?_, ⟨Nat.lt_of_lt_of_le hg0.1 hbt.size, hg0.2, hg0.1⟩, unhide HS⟩
    rw [World.cell?_of_block (w := w) (a := ⟨g0, j, none⟩) (hbt.block g0 hg0.1 (Ne.symm hg0.2))]
    exact hsg j s hs
  have hn0 := (unhide HSg).1
  subst hn0
  have hr7 : r ≠ b7 := by omega
  have h7w : w.heap.size ≠ b7 := by omega
  go_wp2_with fail
  rw [unhide HEB1]
  clear hb7 HB HZ HS HL HY HR HSo HTP HT0 HX1 HSB1 HEB1 
  go_loopw [10] (fun _ wr => ∃ i0 i6 s1 s2 b3 a4 n4 c4 t q n, Hid (CI w r ts p d lo b7 g0 O signs Y i0 i6 s1 s2 b3 a4 n4 c4 t q n wr)) (fun _ wr => ts.length - (intOf ((wr.cell? ⟨r, 1, none⟩).getD undef)).toNat)
  case atStart => exact ⟨_, _, _, _, _, _, _, _, _, _, _, HI⟩
  case round =>
    obtain ⟨i0, i6, s1, s2, b3, a4, n4, c4, t, q, n, hCI⟩ := hrel
    have h := unhide hCI
    obtain ⟨bo, hbo⟩ : ∃ b, signs.any (sees ts q) = b := ⟨_, rfl⟩
    have HC := hide (one_any (c := cc0) h.rd (unhide HT) h.gs.1 (unhide HSg).2.1 h.sg)
    rw [hbo] at HC
    have HO := hide hbo
    clear hbo h
    go_wp2_with fail
    refine (unhide HC).mono ?_
    rintro e w9 ⟨rfl, hb9⟩
    have h := unhide hCI
    have hbu9 := But.of (r := r) hb9
    have h9 : CI w r ts p d lo b7 g0 O signs Y i0 i6 s1 s2 b3 a4 n4 c4 t q n w9 := ⟨h.but.trans hbu9, h.rd.keep hb9, h.zb.but hbu9 hrne, (hb9.block b7 (blk h.bx).1).trans h.bx, h.tr.keep ⟨hb9.size, fun k _ hk => hb9.block k hk⟩ (fun _ h => h), h.le, h.fu, h.ch, (fun j s hs => by rw [hb9.cell (p := ⟨g0, j, none⟩) h.gs.1]; exact h.sg j s hs), ⟨Nat.lt_of_lt_of_le h.gs.1 hb9.size, h.gs.2⟩, Nat.lt_of_lt_of_le h.sz hb9.size⟩
    obtain ⟨x0, x1, x2, x3, x4, x5, x6⟩ := blk7 h9.bx
    have H9 := hide h9
    have hqo : (wr.cell? ⟨r, 1, none⟩) = some (.int .i64 (q : Int)) := by
      obtain ⟨g', c', p0, p1, -⟩ := h.rd.facts (Below.refl _ _)
      exact p1
    replace hqo := hide hqo
    clear hCI h hb9 hbu9 h9 HC
    rcases bo with _ | _
    · obtain ⟨y0, y1, y2, y3, y4, y5, y6⟩ := blk7 (unhide H9).zb
      obtain ⟨z0, z1, z2, z3, z4, z5, z6⟩ := frz7 (unhide H9).zb
      go_wp2
      have h := unhide H9
      exact ret_put rfl rfl rfl h.but hr h.zb (h.ch.symm.trans (chainL_no (unhide HO))) h.le.1 h.rd (Nat.lt_succ_self _) (h.tr.keep (P' := fun b => w.heap.size + 1 ≤ b) ⟨Nat.le_refl _, fun _ _ _ => rfl⟩ (fun b hb => hb.1))
    · have h := unhide H9
      have hp1 : q + 1 < ts.length := by
        obtain ⟨s, hs, hs2⟩ := List.any_eq_true.1 (unhide HO)
        exact nx_txt (unhide HT) h.rd.lt (by rw [sees_txt hs2]; exact unhide HNe s hs)
      obtain ⟨n, rfl⟩ : ∃ m, n = m + 1 := ⟨n - 1, by have := h.fu; omega⟩
      have hch := h.ch
      rw [chainL_yes (unhide HO)] at hch
      have HCh := hide hch
      have HC := hide (unhide hJ w9 q _ t i0 i6 s1 s2 b3 a4 n4 c4 h.le.2 hp1 h.rd h.tr (fun hP => by omega) (fun b hb => ⟨Nat.lt_of_lt_of_le h.sz hb, by have := (blk h.bx).1; omega⟩))
      have hsz9 : w.heap.size < w9.heap.size := h.sz
      replace hsz9 := hide hsz9
      clear hch h hp1
      go_wp2_with fail
      refine (unhide HC).mono ?_
      intro e w8 h8
      rcases hX : joinR ts O t q with er | ⟨t2, q2⟩
      · rw [hX] at h8
        obtain ⟨ei, en⟩ := er
        have hYe : Y = .error (ei, en) := by have h := unhide HCh; rw [hX] at h; exact h.symm
        subst hYe
        obtain ⟨hb8, h8⟩ := h8
        obtain rfl : e = _ := h8
        have HP := hide ((unhide H9).but.trans hb8)
        clear hb8 HC hX
        go_wp2
        exact ⟨rfl, unhide HP, rfl⟩
      · rw [hX] at h8
        obtain ⟨hb8, hle8, hR8, v8, rfl, hv8⟩ := h8
        obtain ⟨i8, j8, s8, m8, b8, a8, n8, c8, rfl⟩ := hv8.form
        have h := unhide H9
        have hbx8 := (hb8.block b7 (blk h.bx).1 (Ne.symm hr7)).trans h.bx
        obtain ⟨y0, y1, y2, y3, y4, y5, y6⟩ := blk7 hbx8
        obtain ⟨z0, z1, z2, z3, z4, z5, z6⟩ := frz7 hbx8
        have hch := unhide HCh
        rw [hX] at hch
        simp only [thenR] at hch
        have H8 := hide (And.intro hb8 (And.intro hle8 (And.intro hR8 (And.intro hv8 (And.intro hbx8 hch)))))
        clear x0 x1 x2 x3 x4 x5 x6 hb8 hle8 hR8 hv8 hbx8 hch h HC hX
        go_wp2
        obtain ⟨hb8, hle8, hR8, hv8, hbx8, hch⟩ := unhide H8
        have h := unhide H9
        have hRn := hR8.put (q := b7) (by omega) (.int .i64 i8) (.string s8) (.string m8) (.bool b8) (.slice a8 n8 c8) (.int .i64 0) (.int .i64 j8)
        have hqn : (set7 w8 b7 (.int .i64 i8) (.string s8) (.string m8) (.bool b8) (.slice a8 n8 c8) (.int .i64 0) (.int .i64 j8)).cell? ⟨r, 1, none⟩ = some (.int .i64 (q2 : Int)) := by
          obtain ⟨g', c', p0, p1, -⟩ := hRn.facts (Below.refl _ _)
          exact p1
        refine ⟨⟨i8, j8, s8, m8, b8, a8, n8, c8, t2, q2, n, ⟨but7 (h.but.trans hb8) (by omega) _ _ _ _ _ _ _, hRn, ?_, fill7 hbx8, ?_, ⟨by have := h.le; omega, by have := h.le; omega⟩, by have := h.fu; omega, hch, ?_, ⟨?_, h.gs.2⟩, ?_⟩⟩, ?_⟩
        · show (set7 w8 b7 _ _ _ _ _ _ _).heap[w.heap.size]? = _
          unfold set7
          rw [same7 h7w]
          exact h.zb.but hb8 hrne
        · refine hv8.keep ⟨?_, fun k hk hs => ?_⟩ (fun _ h => h)
          · simp
          · exact same7 hk.2 _ _ _ _ _ _ _
        · intro j s hs
          have hg := h.gs
          have hc := h.sg j s hs
          rw [← hc]
          refine World.cell?_of_block (a := ⟨g0, j, none⟩) ?_
          exact (same7 (show g0 ≠ b7 by omega) _ _ _ _ _ _ _).trans (hb8.block g0 hg.1 (Ne.symm hg.2.1))
        · have := hb8.size
          have := h.gs.1
          simp
          omega
        · have := hb8.size
          have := h.sz
          simp
          omega
        · have e1 : intOf (((set7 w8 b7 (.int .i64 i8) (.string s8) (.string m8) (.bool b8) (.slice a8 n8 c8) (.int .i64 0) (.int .i64 j8)).cell? ⟨r, 1, none⟩).getD undef) = (q2 : Int) := by rw [hqn]; rfl
          have e2 : intOf ((wr.cell? ⟨r, 1, none⟩).getD undef) = (q : Int) := by rw [unhide hqo]; rfl
          have hlt := h.rd.lt
          show ts.length - (intOf (((set7 w8 b7 (.int .i64 i8) (.string s8) (.string m8) (.bool b8) (.slice a8 n8 c8) (.int .i64 0) (.int .i64 j8)).cell? ⟨r, 1, none⟩).getD undef)).toNat < _
          rw [e1, e2]
          omega
end Go.Proofs.YtfkfnbehdcmgeaaGreatDoor

/- Package parse: steps of drawn regions; the region in which joined makes its node. -/
namespace Go.Proofs.YtfkfnbehdcmgeaaGreatDoor
open Go Go.RowKit
def regionsOf : Code → List (Nat × List Oper)
  | .region id ops _ => [(id, ops.toList)]
  | .seq a b => regionsOf a ++ regionsOf b
  | .cond _ a b => regionsOf a ++ regionsOf b
  | .block _ c => regionsOf c
  | .loop c => regionsOf c
  | _ => []
def regionOf (f : Func) (k : Nat) : List Oper := ((f.body.map regionsOf).getD []).findSome? (fun p => if p.1 == k then some p.2 else none) |>.getD []
theorem wnone {o : Oper} {y : Nat → Option Bool} (h : o.guard = none) : Region.wanted o y = true := by simp [Region.wanted, h]
section
variable {X : Exit → Act → World → Prop} {K : Act → World → Prop} {a : Act} {w : World} {dst : Option Tmp} {ty : TypeId} {pos : String} {af : Array Edge} {gd : Option (Nat × Bool)}
set_option maxRecDepth 100000 in
set_option maxHeartbeats 4000000 in
theorem op_bs2E {k1 k2 : Nat} {x0 x1 x2 x3 x4 x5 x6 y0 y1 y2 y3 y4 y5 y6 : Value} (h1 : a.tmps.getD k1 undef = .agg #[x0, x1, x2, x3, x4, x5, x6]) (h2 : a.tmps.getD k2 undef = .agg #[y0, y1, y2, y3, y4, y5, y6]) (h : K (a.put dst (.slice (some ⟨w.heap.size, 0, none⟩) 2 2)) (w.alloc (.cells #[x0, x1, x2, x3, x4, x5, x6, y0, y1, y2, y3, y4, y5, y6] 36))) : Oper.wp Tryz.prog ⟨dst, .buildSlice 34 2 #[(0, .tmp k1), (1, .tmp k2)], ty, pos, af, gd⟩ a w K X := by
  have e1 : a.eval (.tmp k1) = .agg #[x0, x1, x2, x3, x4, x5, x6] := h1
  have e2 : a.eval (.tmp k2) = .agg #[y0, y1, y2, y3, y4, y5, y6] := h2
  unfold Oper.wp
  simp only [execOp, List.map_toArray, List.map_cons, List.map_nil, e1, e2]
  go_simp
  exact h
set_option maxRecDepth 100000 in
set_option maxHeartbeats 4000000 in
theorem op_bs1E {k1 : Nat} {x0 x1 x2 x3 x4 x5 x6 : Value} (h1 : a.tmps.getD k1 undef = .agg #[x0, x1, x2, x3, x4, x5, x6]) (h : K (a.put dst (.slice (some ⟨w.heap.size, 0, none⟩) 1 1)) (w.alloc (.cells #[x0, x1, x2, x3, x4, x5, x6] 36))) : Oper.wp Tryz.prog ⟨dst, .buildSlice 34 1 #[(0, .tmp k1)], ty, pos, af, gd⟩ a w K X := by
  have e1 : a.eval (.tmp k1) = .agg #[x0, x1, x2, x3, x4, x5, x6] := h1
  unfold Oper.wp
  simp only [execOp, List.map_toArray, List.map_cons, List.map_nil, e1]
  go_simp
  exact h
set_option maxRecDepth 100000 in
set_option maxHeartbeats 4000000 in
theorem op_stE {k1 k2 q : Nat} {i0 i6 : Int} {s1 s2 : ByteArray} {b3 : Bool} {a4 : Option Addr} {n4 c4 : Nat} (h1 : a.tmps.getD k1 undef = .pointer (some ⟨q, 0, none⟩)) (h2 : a.tmps.getD k2 undef = .agg #[.int .i64 i0, .string s1, .string s2, .bool b3, .slice a4 n4 c4, .int .i64 0, .int .i64 i6]) (hz : ZB w q) (h : K a (set7 w q (.int .i64 i0) (.string s1) (.string s2) (.bool b3) (.slice a4 n4 c4) (.int .i64 0) (.int .i64 i6))) : Oper.wp Tryz.prog ⟨none, .store 36 (.tmp k1) (.tmp k2), ty, pos, af, gd⟩ a w K X := by
  have e1 : a.eval (.tmp k1) = .pointer (some ⟨q, 0, none⟩) := h1
  have e2 : a.eval (.tmp k2) = .agg #[.int .i64 i0, .string s1, .string s2, .bool b3, .slice a4 n4 c4, .int .i64 0, .int .i64 i6] := h2
  obtain ⟨y0, y1, y2, y3, y4, y5, y6⟩ := blk7 hz
  obtain ⟨z0, z1, z2, z3, z4, z5, z6⟩ := frz7 hz
  unfold Oper.wp
  simp only [execOp, e1, e2]
  simp [go_sem, y0, y1, y2, y3, y4, y5, y6, z0, z1, z2, z3, z4, z5, z6]
  exact h
end
theorem op_callP {P : Program} {X : Exit → Act → World → Prop} {K : Act → World → Prop} {a : Act} {w : World} {dst : Option Tmp} {ty : TypeId} {pos : String} {af : Array Edge} {gd : Option (Nat × Bool)} {f : FuncId} {args : Array Operand} {tys : Array TypeId} (hf : Enters P f)
    (hc : Calls P f (args.map a.eval) w fun e w' => (∃ v, e = .returned v ∧ K (a.put dst v) w') ∨ ∃ c, e = .panicked c ∧ X (.panic c) a w') : Oper.wp P ⟨dst, .call ⟨.value (.func f), args, tys⟩, ty, pos, af, gd⟩ a w K X := by
  unfold Oper.wp
  simp [go_sem]
  rw [hf.run]
  refine Calls.mono hc ?_
  rintro e w' (⟨v, rfl, h⟩ | ⟨c, rfl, h⟩)
  · exact h
  · exact h
set_option maxRecDepth 100000 in
theorem ld_Tok {q : Nat} {x y z : Value} {w : World} (h : w.heap[q]? = some (.cells #[x, y, z] 74)) : (Instr.loadAt 74 (.pointer (some ⟨q, 0, none⟩))).run Tryz.prog w = .ok (.agg #[x, y, z]) w := run_loadAt_mid (P := Tryz.prog) w q 0 74 [x, y, z] _ (range_block h) rfl rfl rfl
set_option maxRecDepth 100000 in
theorem ld_Ex {q : Nat} {x0 x1 x2 x3 x4 x5 x6 : Value} {w : World} (h : w.heap[q]? = some (.cells #[x0, x1, x2, x3, x4, x5, x6] 36)) : (Instr.loadAt 36 (.pointer (some ⟨q, 0, none⟩))).run Tryz.prog w = .ok (.agg #[x0, x1, x2, x3, x4, x5, x6]) w := run_loadAt_mid (P := Tryz.prog) w q 0 36 [x0, x1, x2, x3, x4, x5, x6] _ (range_block h) rfl rfl rfl
set_option maxRecDepth 100000 in
theorem fa_tok (q : Nat) (j : Nat) (w : World) (hj : j < 3) : (Instr.fieldAt 74 (.pointer (some ⟨q, 0, none⟩)) j).run Tryz.prog w = .ok (.pointer (some ⟨q, j, none⟩)) w := by
  rcases j with _ | _ | _ | j
  · go_simp
  · go_simp
  · go_simp
  · omega
set_option maxRecDepth 100000 in
theorem ld_str {q o : Nat} {s : ByteArray} {w : World} (h : w.cell? ⟨q, o, none⟩ = some (.string s)) : (Instr.loadAt 9 (.pointer (some ⟨q, o, none⟩))).run Tryz.prog w = .ok (.string s) w := by go_simp
set_option maxRecDepth 100000 in
theorem ld_int {q o : Nat} {i : Int} {w : World} (h : w.cell? ⟨q, o, none⟩ = some (.int .i64 i)) : (Instr.loadAt 3 (.pointer (some ⟨q, o, none⟩))).run Tryz.prog w = .ok (.int .i64 i) w := by go_simp
theorem enter_made : Enters Tryz.prog 110 := ⟨fun xs w => by go_simp⟩
theorem enter_named : Enters Tryz.prog 111 := ⟨fun xs w => by go_simp⟩
theorem enter_opOf : Enters Tryz.prog 123 := ⟨fun xs w => by go_simp⟩
theorem enter_unb : Enters Tryz.prog 127 := ⟨fun xs w => by go_simp⟩
theorem enter_imp : Enters Tryz.prog 115 := ⟨fun xs w => by go_simp⟩
theorem enter_mustBe : Enters Tryz.prog 88 := ⟨fun xs w => by go_simp⟩
theorem enter_take : Enters Tryz.prog 87 := ⟨fun xs w => by go_simp⟩
end Go.Proofs.YtfkfnbehdcmgeaaGreatDoor

/- Package parse: joined: its drawn region. -/
namespace Go.Proofs.YtfkfnbehdcmgeaaGreatDoor
open Go Go.RowKit
def stJ (W : World) (q6 : Nat) (ai : Int) (T : ByteArray) (i0 i6 j0 j6 : Int) (s1 s2 u1 u2 : ByteArray) (b3 d3 : Bool) (a4 e4 : Option Addr) (n4 c4 m4 k4 : Nat) (n : Nat) (s : Nat → Value) (w : World) : Prop := match n with
  | 0 => w = W.drew
  | 1 => s 6 = .slice (some ⟨W.heap.size, 0, none⟩) 2 2 ∧ w = (W.drew.alloc (.cells #[.int .i64 i0, .string s1, .string s2, .bool b3, .slice a4 n4 c4, .int .i64 0, .int .i64 i6, .int .i64 j0, .string u1, .string u2, .bool d3, .slice e4 m4 k4, .int .i64 0, .int .i64 j6] 36))
  | 2 => s 7 = .agg #[.int .i64 (opOf T), .string ⟨#[]⟩, .string ⟨#[]⟩, .bool false, .slice (some ⟨W.heap.size, 0, none⟩) 2 2, .int .i64 0, .int .i64 ai] ∧ Below (W.drew.alloc (.cells #[.int .i64 i0, .string s1, .string s2, .bool b3, .slice a4 n4 c4, .int .i64 0, .int .i64 i6, .int .i64 j0, .string u1, .string u2, .bool d3, .slice e4 m4 k4, .int .i64 0, .int .i64 j6] 36)).heap.size (W.drew.alloc (.cells #[.int .i64 i0, .string s1, .string s2, .bool b3, .slice a4 n4 c4, .int .i64 0, .int .i64 i6, .int .i64 j0, .string u1, .string u2, .bool d3, .slice e4 m4 k4, .int .i64 0, .int .i64 j6] 36)) w
  | _ => ∃ W2, Below (W.drew.alloc (.cells #[.int .i64 i0, .string s1, .string s2, .bool b3, .slice a4 n4 c4, .int .i64 0, .int .i64 i6, .int .i64 j0, .string u1, .string u2, .bool d3, .slice e4 m4 k4, .int .i64 0, .int .i64 j6] 36)).heap.size (W.drew.alloc (.cells #[.int .i64 i0, .string s1, .string s2, .bool b3, .slice a4 n4 c4, .int .i64 0, .int .i64 i6, .int .i64 j0, .string u1, .string u2, .bool d3, .slice e4 m4 k4, .int .i64 0, .int .i64 j6] 36)) W2 ∧ w = set7 W2 q6 (.int .i64 (opOf T)) (.string ⟨#[]⟩) (.string ⟨#[]⟩) (.bool false) (.slice (some ⟨W.heap.size, 0, none⟩) 2 2) (.int .i64 0) (.int .i64 ai)
theorem stJ_at {W : World} {q6 : Nat} {ai : Int} {T : ByteArray} {i0 i6 j0 j6 : Int} {s1 s2 u1 u2 : ByteArray} {b3 d3 : Bool} {a4 e4 : Option Addr} {n4 c4 m4 k4 : Nat} {n : Nat} {s : Nat → Value} {w : World} (h : stJ W q6 ai T i0 i6 j0 j6 s1 s2 u1 u2 b3 d3 a4 e4 n4 c4 m4 k4 n s w) : ∀ q, q < W.heap.size → q ≠ q6 → w.heap[q]? = W.heap[q]? := by
  intro q hq hne
  have hC : Below W.heap.size W (W.drew.alloc (.cells #[.int .i64 i0, .string s1, .string s2, .bool b3, .slice a4 n4 c4, .int .i64 0, .int .i64 i6, .int .i64 j0, .string u1, .string u2, .bool d3, .slice e4 m4 k4, .int .i64 0, .int .i64 j6] 36)) := ((Below.refl _ W).drew).alloc (Nat.le_refl _) _
  rcases n with _ | _ | _ | n
  · obtain rfl : w = W.drew := h
    rfl
  · obtain ⟨-, rfl⟩ := h
    exact hC.block q hq
  · obtain ⟨-, hb⟩ := h
    exact (hb.block q (Nat.lt_of_lt_of_le hq hC.size)).trans (hC.block q hq)
  · obtain ⟨W2, hb, rfl⟩ := h
    unfold set7
    rw [same7 hne]
    exact (hb.block q (Nat.lt_of_lt_of_le hq hC.size)).trans (hC.block q hq)
def spJ (q7 : Nat) (kk ai : Int) (T : ByteArray) (x y : Value) : List Value := [.pointer (some ⟨q7, 1, none⟩), .string T, .int .i64 (opOf T), .agg #[.int .i64 kk, .string T, .int .i64 ai], x, y]
set_option maxRecDepth 100000 in
set_option maxHeartbeats 4000000 in
theorem joined_r3 {Q : Exit → Act → World → Prop} {a0 : Act} {W : World} {q4 q6 q7 q8 : Nat} {kk ai : Int} {T : ByteArray} {i0 i6 j0 j6 : Int} {s1 s2 u1 u2 : ByteArray} {b3 d3 : Bool} {a4 e4 : Option Addr} {n4 c4 m4 k4 : Nat} (hN : a0.tmps.size = 21) (h4 : a0.tmps[4]? = some (.pointer (some ⟨q4, 0, none⟩))) (h6 : a0.tmps[6]? = some (.pointer (some ⟨q6, 0, none⟩))) (h7 : a0.tmps[7]? = some (.pointer (some ⟨q7, 0, none⟩))) (h8 : a0.tmps[8]? = some (.pointer (some ⟨q8, 0, none⟩)))
    (b4 : W.heap[q4]? = some (.cells #[.int .i64 i0, .string s1, .string s2, .bool b3, .slice a4 n4 c4, .int .i64 0, .int .i64 i6] 36)) (b8 : W.heap[q8]? = some (.cells #[.int .i64 j0, .string u1, .string u2, .bool d3, .slice e4 m4 k4, .int .i64 0, .int .i64 j6] 36)) (b7 : W.heap[q7]? = some (.cells #[.int .i64 kk, .string T, .int .i64 ai] 74)) (z6 : ZB W q6) (n4' : q4 ≠ q6) (n7' : q7 ≠ q6) (n8' : q8 ≠ q6)
    (hend : ∀ (a : Act) (W2 : World), a.defers = a0.defers → (∀ k, k ∈ List.range 13 → a.tmps[k]? = a0.tmps[k]?) → Below (W.drew.alloc (.cells #[.int .i64 i0, .string s1, .string s2, .bool b3, .slice a4 n4 c4, .int .i64 0, .int .i64 i6, .int .i64 j0, .string u1, .string u2, .bool d3, .slice e4 m4 k4, .int .i64 0, .int .i64 j6] 36)).heap.size (W.drew.alloc (.cells #[.int .i64 i0, .string s1, .string s2, .bool b3, .slice a4 n4 c4, .int .i64 0, .int .i64 i6, .int .i64 j0, .string u1, .string u2, .bool d3, .slice e4 m4 k4, .int .i64 0, .int .i64 j6] 36)) W2 → Q .normal a (set7 W2 q6 (.int .i64 (opOf T)) (.string ⟨#[]⟩) (.string ⟨#[]⟩) (.bool false) (.slice (some ⟨W.heap.size, 0, none⟩) 2 2) (.int .i64 0) (.int .i64 ai))) :
    (Code.region 3 (regionOf Tryz.f121 3).toArray true).wp Tryz.prog Q a0 W := by
  have hl : (regionOf Tryz.f121 3).length = 9 := by kernel_rfl
  have hds : ((List.range 8).all fun i => ((regionOf Tryz.f121 3).getD i default).dst.isSome) = true := by kernel_rfl
  have bx : ∀ {n : Nat} {s : Nat → Value} {w : World}, stJ W q6 ai T i0 i6 j0 j6 s1 s2 u1 u2 b3 d3 a4 e4 n4 c4 m4 k4 n s w → w.heap[q4]? = some (.cells #[.int .i64 i0, .string s1, .string s2, .bool b3, .slice a4 n4 c4, .int .i64 0, .int .i64 i6] 36) ∧ w.heap[q8]? = some (.cells #[.int .i64 j0, .string u1, .string u2, .bool d3, .slice e4 m4 k4, .int .i64 0, .int .i64 j6] 36) ∧ w.heap[q7]? = some (.cells #[.int .i64 kk, .string T, .int .i64 ai] 74) := fun h => ⟨(stJ_at h q4 (blk b4).1 n4').trans b4, (stJ_at h q8 (blk b8).1 n8').trans b8, (stJ_at h q7 (blk b7).1 n7').trans b7⟩
  refine wp_region_any (by kernel_rfl) ?_
  refine seqN (l := (regionOf Tryz.f121 3)) 21 (List.range 13) [6, 7, 8] (fun j v => j < 6 → v = (spJ q7 kk ai T (.agg #[.int .i64 i0, .string s1, .string s2, .bool b3, .slice a4 n4 c4, .int .i64 0, .int .i64 i6]) (.agg #[.int .i64 j0, .string u1, .string u2, .bool d3, .slice e4 m4 k4, .int .i64 0, .int .i64 j6])).getD j undef) (stJ W q6 ai T i0 i6 j0 j6 s1 s2 u1 u2 b3 d3 a4 e4 n4 c4 m4 k4) (by kernel_rfl) hN (by decide) (by rw [hl]; decide) ?_ ?_ ?_ rfl ?_ ?_ ?_
  · intro k hk
    have hk2 : k = 0 ∨ k = 1 := by simp at hk; omega
    rcases hk2 with rfl | rfl
    · show (preds ((regionOf Tryz.f121 3).getD 7 default)).contains 6 = true
      kernel_rfl
    · show (preds ((regionOf Tryz.f121 3).getD 8 default)).contains 7 = true
      kernel_rfl
  · intro i o ho hd
    have hi : i < 9 := by rw [← hl]; exact (List.getElem?_eq_some_iff.1 ho).1
    have he : (regionOf Tryz.f121 3).getD i default = o := by simp [List.getD, ho]
    rcases Nat.lt_or_ge i 8 with h | h
    · have := List.all_eq_true.1 hds i (List.mem_range.2 h)
      rw [he, hd] at this
      cases this
    · obtain rfl : i = 8 := by omega
      exact ⟨by decide, fun v h => by omega⟩
  · intro n s s' w h hs
    have e6 := h 0 (by decide) (by kernel_rfl)
    have e7 := h 1 (by decide) (by kernel_rfl)
    have e6' : s 6 = s' 6 := e6
    have e7' : s 7 = s' 7 := e7
    rcases n with _ | _ | _ | n
    · exact hs
    · exact ⟨e6' ▸ hs.1, hs.2⟩
    · exact ⟨e7' ▸ hs.1, hs.2⟩
    · exact hs
  · intro i hi hni a w n s hd hsz hk hp hn hs
    rw [hl] at hi
    have hi6 : i = 0 ∨ i = 1 ∨ i = 2 ∨ i = 3 ∨ i = 4 ∨ i = 5 := by simp at hni; omega
    have ke4 : a.eval (.tmp 4) = .pointer (some ⟨q4, 0, none⟩) := getD_of ((hk 4 (by decide)).trans h4)
    have ke7 : a.eval (.tmp 7) = .pointer (some ⟨q7, 0, none⟩) := getD_of ((hk 7 (by decide)).trans h7)
    have ke8 : a.eval (.tmp 8) = .pointer (some ⟨q8, 0, none⟩) := getD_of ((hk 8 (by decide)).trans h8)
    obtain ⟨cc4, cc8, cc7⟩ := bx hs
    rcases hi6 with rfl | rfl | rfl | rfl | rfl | rfl
    · exact st_want (wnone rfl) (op_fieldAddr ke7 (fa_tok q7 1 w (by omega)) ⟨_, rfl, rfl, fun _ => rfl⟩)
    · have e1 : a.eval (.tmp 13) = .pointer (some ⟨q7, 1, none⟩) := hp 0 (by kernel_rfl) (by omega)
      exact st_want (wnone rfl) (op_load e1 (ld_str ((blk cc7).2.1 1 _ rfl)) ⟨_, rfl, rfl, fun _ => rfl⟩)
    · have e1 : a.tmps.getD 14 undef = .string T := hp 1 (by kernel_rfl) (by omega)
      refine st_want (wnone rfl) (op_call enter_opOf ?_)
      have hargs : (#[Operand.tmp 14]).map a.eval = #[.string T] := by
        simp only [List.map_toArray, List.map_cons, List.map_nil, Act.eval]
        rw [e1]
      rw [hargs]
      refine (opOf_eq T w).mono ?_
      rintro ex w' ⟨rfl, rfl⟩
      exact ⟨_, rfl, _, rfl, rfl, fun _ => rfl⟩
    · exact st_want (wnone rfl) (op_load ke7 (ld_Tok cc7) ⟨_, rfl, rfl, fun _ => rfl⟩)
    · exact st_want (wnone rfl) (op_load ke4 (ld_Ex cc4) ⟨_, rfl, rfl, fun _ => rfl⟩)
    · exact st_want (wnone rfl) (op_load ke8 (ld_Ex cc8) ⟨_, rfl, rfl, fun _ => rfl⟩)
  · intro k hk a w hd hsz hkp hp hs
    have hk3 : k = 0 ∨ k = 1 ∨ k = 2 := by simp at hk; omega
    have k6 : a.tmps.getD 6 undef = .pointer (some ⟨q6, 0, none⟩) := getD_of ((hkp 6 (by decide)).trans h6)
    rcases hk3 with rfl | rfl | rfl
    · obtain rfl : w = W.drew := hs
      have e1 : a.tmps.getD 17 undef = .agg #[.int .i64 i0, .string s1, .string s2, .bool b3, .slice a4 n4 c4, .int .i64 0, .int .i64 i6] := hp 4 (by kernel_rfl) (by omega)
      have e2 : a.tmps.getD 18 undef = .agg #[.int .i64 j0, .string u1, .string u2, .bool d3, .slice e4 m4 k4, .int .i64 0, .int .i64 j6] := hp 5 (by kernel_rfl) (by omega)
      exact st_want (wnone rfl) (op_bs2E e1 e2 ⟨_, rfl, (fun _ h => absurd (show (6 : Nat) < 6 from h) (by decide)), rfl, rfl⟩)
    · obtain ⟨hs6, rfl⟩ := hs
      have e0 : a.tmps.getD 15 undef = .int .i64 (opOf T) := hp 2 (by kernel_rfl) (by omega)
      have e1 : a.tmps.getD 16 undef = .agg #[.int .i64 kk, .string T, .int .i64 ai] := hp 3 (by kernel_rfl) (by omega)
      have e2 : a.tmps.getD 19 undef = .slice (some ⟨W.heap.size, 0, none⟩) 2 2 := hs6
      refine st_want (wnone rfl) (op_call enter_made ?_)
      have hargs : (#[Operand.tmp 15, .tmp 16, .tmp 19]).map a.eval = #[.int .i64 (opOf T), .agg #[.int .i64 kk, .string T, .int .i64 ai], .slice (some ⟨W.heap.size, 0, none⟩) 2 2] := by
        simp only [List.map_toArray, List.map_cons, List.map_nil, Act.eval]
        rw [e0, e1, e2]
      rw [hargs]
      refine (made_any _ _ _ _ _ _ _ _).mono ?_
      rintro ex w' ⟨rfl, hb⟩
      exact ⟨_, rfl, _, rfl, (fun _ h => absurd (show (7 : Nat) < 6 from h) (by decide)), rfl, hb⟩
    · obtain ⟨hs7, hb⟩ := hs
      have e2 : a.tmps.getD 20 undef = .agg #[.int .i64 (opOf T), .string ⟨#[]⟩, .string ⟨#[]⟩, .bool false, .slice (some ⟨W.heap.size, 0, none⟩) 2 2, .int .i64 0, .int .i64 ai] := hs7
      have hC : Below W.heap.size W (W.drew.alloc (.cells #[.int .i64 i0, .string s1, .string s2, .bool b3, .slice a4 n4 c4, .int .i64 0, .int .i64 i6, .int .i64 j0, .string u1, .string u2, .bool d3, .slice e4 m4 k4, .int .i64 0, .int .i64 j6] 36)) := ((Below.refl _ W).drew).alloc (Nat.le_refl _) _
      have hz : ZB w q6 := (hb.block q6 (Nat.lt_of_lt_of_le (blk z6).1 hC.size)).trans ((hC.block q6 (blk z6).1).trans z6)
      exact st_want (wnone rfl) (op_stE k6 e2 hz ⟨undef, rfl, (fun h => absurd (show false = true from h) (by decide)), w, hb, rfl⟩)
  · intro a w hd hsz hk hp hs
    obtain ⟨W2, hb, rfl⟩ := hs
    exact hend a W2 hd hk hb
end Go.Proofs.YtfkfnbehdcmgeaaGreatDoor

namespace Go.Proofs.YtfkfnbehdcmgeaaGreatDoor
open Go Go.RowKit
theorem ret_putP {fn : Func} {a : Act} {tt : Nat} {w w3 : World} {r p q d q6 : Nat} {P : Nat → Prop} {ts : List (Int × ByteArray × Int)} {t : Ex} {Y : (Except (Int × Int) (Ex × Nat))} {x0 x1 x2 x3 x4 x5 x6 : Value} (hf : fn.results = #[.cell tt 36]) (ht : a.tmps[tt]? = some (.pointer (some ⟨q6, 0, none⟩))) (hdf : a.defers = []) (hbu : But r w w3) (hr : r < q6) (hq6 : w.heap.size ≤ q6) (hz : ZB w3 q6) (hY : Y = .ok (t, q)) (hpq : p ≤ q) (hR : RD w3 r ts q d) (hv : IsEP w3 (fun b => P b ∧ b ≠ q6) (.agg #[x0, x1, x2, x3, x4, x5, x6]) t) :
    bodyPost Tryz.prog fn (RP (fun w' v t => IsEP w' P v t) Y r ts p d w) .ret a (set7 w3 q6 x0 x1 x2 x3 x4 x5 x6) := by
  subst hY
  refine bodyPost_ret (res_row (cs := [x0, x1, x2, x3, x4, x5, x6]) hf ht (range_block (fill7 hz)) Tryz.underlying36 rfl (by kernel_rfl)) hdf ?_
  refine ⟨but7 hbu hq6 _ _ _ _ _ _ _, hpq, hR.put hr _ _ _ _ _ _ _, _, rfl, hv.keep ⟨by unfold set7; simp, fun k hk hs => same7 hk.2 _ _ _ _ _ _ _⟩ fun b hb => hb.1⟩
set_option maxRecDepth 100000 in
set_option maxHeartbeats 8000000 in
theorem joined_of {k r d lo : Nat} {ts : List (Int × ByteArray × Int)} {O : Nat → (Except (Int × Int) (Ex × Nat))} (hT : TsOk ts) (hEn : Enters Tryz.prog k) (hO : RuC k r ts d lo O) : JoC k r ts d lo O := by
  intro w p P t i0 i6 s1 s2 b3 a4 n4 c4 hlo hp1 hR hv hPr hPn
  obtain ⟨Y, hY⟩ : ∃ Y, joinR ts O t p = Y := ⟨_, rfl⟩
  rw [hY]
  unfold joinR at hY
  have hr := hR.rlt
  obtain ⟨A, eA, hbA, hsA, hhA⟩ := box_new w #[.int .i64 i0, .string s1, .string s2, .bool b3, .slice a4 n4 c4, .int .i64 0, .int .i64 i6] 36
  obtain ⟨B, eB, hbB, hzB, hsB⟩ := zb_new A
  rw [hsA] at hzB
  have hbAB : Below w.heap.size w B := hbA.trans (hbB.mono hbA.size)
  have hx4 := (hbB.block w.heap.size (blk hhA).1).trans hhA
  have hRB := hR.keep hbAB
  have HC := hide (take_any hRB hT hp1)
  unfold tkV at HC
  obtain ⟨⟨kk, T, ai⟩, hN⟩ : ∃ X, nx ts p = X := ⟨_, rfl⟩
  rw [hN] at HC
  have HA := hide (And.intro hY (And.intro hN (And.intro hv (And.intro hPr (And.intro hPn (And.intro hlo (And.intro hT (And.intro hO hEn))))))))
  have HM := hide (And.intro hbAB (And.intro hx4 (And.intro hzB (And.intro hsA hsB))))
  have HE := hide (And.intro eA eB)
  clear hY hN hv hPr hPn hlo hT hO hEn hR hp1 hRB eA hbA hsA hhA eB hbB hzB hsB hbAB hx4
  go_enter Tryz.func121, Tryz.ntmps121
  go_wp2_with fail
  rw [(unhide HE).1, (unhide HE).2]
  refine (unhide HC).mono ?_
  rintro e w2 ⟨rfl, hb2, hR2⟩
  obtain ⟨hY, hN, hv, hPr, hPn, hlo, hT, hO, hEn⟩ := unhide HA
  obtain ⟨hbAB, hx4, hzB, hsA, hsB⟩ := unhide HM
  have hs2 := hb2.size
  have hbw2 : But r w w2 := (But.of hbAB).trans hb2
  have hx42 := (hb2.block w.heap.size (blk hx4).1 (by omega)).trans hx4
  have hz2 : ZB w2 (w.heap.size + 1) := hzB.but hb2 (by omega)
  obtain ⟨C, eC, hbC, hsC, hhC⟩ := box_new w2 #[.int .i64 kk, .string T, .int .i64 ai] 74
  have hRC := hR2.keep hbC
  have HC2 := hide (hO C (p + 1) (by omega) hRC)
  have hx4C := (hbC.block w.heap.size (blk hx42).1).trans hx42
  have hzC : ZB C (w.heap.size + 1) := (hbC.block _ (blk hz2).1).trans hz2
  have hlt2 : w.heap.size + 1 < w2.heap.size := (blk hz2).1
  have HM2 := hide (And.intro (hbw2.trans (But.of hbC)) (And.intro hx4C (And.intro hzC (And.intro hhC (And.intro hlt2 hsC)))))
  have HEC := hide eC
  have hEn' := hide hEn
  clear hY hN hv hPr hPn hlo hT hO hEn hbAB hx4 hzB hsA hsB hs2 hbw2 hx42 hz2 eC hbC hsC hhC hRC hx4C hzC hlt2 hb2 hR2 HC HM HE
  go_wp2_with fail
  rw [(unhide hEn').run, unhide HEC]
  refine Calls.mono (unhide HC2) ?_
  intro e w4 h4
  obtain ⟨hY, hN, hv, hPr, hPn, hlo, hT, hO, hEn⟩ := unhide HA
  obtain ⟨hbC, hx4, hzC, hx7, hlt2, hsC⟩ := unhide HM2
  rcases hX : O (p + 1) with er | ⟨ty, q⟩
  · rw [hX] at h4 hY
    obtain ⟨ei, en⟩ := er
    have hYe : Y = .error (ei, en) := hY.symm
    subst hYe
    obtain ⟨hb4, h4⟩ := h4
    obtain rfl : e = _ := h4
    have HP := hide (hbC.trans hb4)
    clear hY hN hv hPr hPn hlo hT hO hEn hbC hx4 hzC hx7 hlt2 hsC hb4 HC2 hX
    go_wp2
    exact ⟨rfl, unhide HP, rfl⟩
  · rw [hX] at h4 hY
    obtain ⟨hb4, hle4, hR4, v4, rfl, hv4⟩ := h4
    obtain ⟨j0, j6, u1, u2, d3, e4, m4, k4, rfl⟩ := hv4.form
    simp only [thenR] at hY
    have hs4 := hb4.size
    have hx44 := (hb4.block w.heap.size (blk hx4).1 (by omega)).trans hx4
    have hz4 : ZB w4 (w.heap.size + 1) := hzC.but hb4 (by omega)
    have hx74 := (hb4.block w2.heap.size (blk hx7).1 (by omega)).trans hx7
    obtain ⟨D, eD, hbD, hsD, hhD⟩ := box_new w4 #[.int .i64 j0, .string u1, .string u2, .bool d3, .slice e4 m4 k4, .int .i64 0, .int .i64 j6] 36
    have hbwD : But r w D := (hbC.trans hb4).trans (But.of hbD)
    have hx4D := (hbD.block w.heap.size (blk hx44).1).trans hx44
    have hzD : ZB D (w.heap.size + 1) := (hbD.block _ (blk hz4).1).trans hz4
    have hx7D := (hbD.block w2.heap.size (blk hx74).1).trans hx74
    have hRD := hR4.keep hbD
    have hlD : IsEP D (fun b => P b ∧ b ≠ w.heap.size + 1) (.agg #[.int .i64 i0, .string s1, .string s2, .bool b3, .slice a4 n4 c4, .int .i64 0, .int .i64 i6]) t := hv.bnd.keep ⟨hbwD.size, fun k hk hs => hbwD.block k hs (fun e => hPr (e ▸ hk.1))⟩ fun b hb => ⟨hb.1, by have := hb.2; omega⟩
    have hrD : IsEP D (fun b => P b ∧ b ≠ w.heap.size + 1) (.agg #[.int .i64 j0, .string u1, .string u2, .bool d3, .slice e4 m4 k4, .int .i64 0, .int .i64 j6]) ty := IsEP.keep hv4 ⟨hbD.size, fun k _ hs => hbD.block k hs⟩ fun b hb => ⟨hPn b (by omega), by omega⟩
    have hsz4 : w2.heap.size < w4.heap.size := by omega
    have HF := hide (And.intro hbwD (And.intro hx4D (And.intro hzD (And.intro hx7D (And.intro hhD (And.intro hRD (And.intro hlD (And.intro hrD (And.intro hle4 hsD)))))))))
    have HG := hide (And.intro hY (And.intro hN (And.intro hPn (And.intro hlt2 hsz4))))
    have HED := hide eD
    clear hY hN hv hPr hPn hlo hT hO hEn hbC hx4 hzC hx7 hsC hb4 HC2 hX hle4 hR4 hv4 hs4 hx44 hz4 hx74 eD hbD hhD hsD hbwD hx4D hzD hx7D hRD hlD hrD hlt2 hsz4
    go_wp2_with fail
    rw [unhide HED]
    obtain ⟨hbwD, hx4D, hzD, hx7D, hhD, hRD, hlD, hrD, hle4, hsD⟩ := unhide HF
    obtain ⟨hY, hN, hPn, hlt2, hsz4⟩ := unhide HG
    refine joined_r3 rfl rfl rfl rfl rfl hx4D hhD hx7D hzD (by omega) (by omega) (by omega) ?_
    intro a W2 hd hk hb
    have h6 : a.tmps[6]? = some (.pointer (some ⟨w.heap.size + 1, 0, none⟩)) := (hk 6 (by decide)).trans rfl
    have hDD : Below D.heap.size D (D.drew.alloc (.cells #[.int .i64 i0, .string s1, .string s2, .bool b3, .slice a4 n4 c4, .int .i64 0, .int .i64 i6, .int .i64 j0, .string u1, .string u2, .bool d3, .slice e4 m4 k4, .int .i64 0, .int .i64 j6] 36)) := ((Below.refl _ D).drew).alloc (Nat.le_refl _) _
    have hD2 : Below D.heap.size D W2 := hDD.trans (hb.mono hDD.size)
    have hnode := nodeP (w := D.drew) (P := fun b => P b ∧ b ≠ w.heap.size + 1) (l := [t, ty]) (vs := [[.int .i64 i0, .string s1, .string s2, .bool b3, .slice a4 n4 c4, .int .i64 0, .int .i64 i6], [.int .i64 j0, .string u1, .string u2, .bool d3, .slice e4 m4 k4, .int .i64 0, .int .i64 j6]]) (cs := #[.int .i64 i0, .string s1, .string s2, .bool b3, .slice a4 n4 c4, .int .i64 0, .int .i64 i6, .int .i64 j0, .string u1, .string u2, .bool d3, .slice e4 m4 k4, .int .i64 0, .int .i64 j6]) (ty := 36) (opOf T) ai ⟨#[]⟩ ⟨#[]⟩ false rfl rfl (by simp) rfl (by simp) (show P D.heap.size ∧ D.heap.size ≠ w.heap.size + 1 from ⟨hPn _ hbwD.size, by omega⟩) (fun j v t' hv ht => by
      rcases j with _ | _ | j
      · obtain rfl := Option.some.inj hv
        obtain rfl := Option.some.inj ht
        exact hlD.keep ⟨Nat.le_refl _, fun _ _ _ => rfl⟩ fun _ h => h
      · obtain rfl := Option.some.inj hv
        obtain rfl := Option.some.inj ht
        exact hrD.keep ⟨Nat.le_refl _, fun _ _ _ => rfl⟩ fun _ h => h
      · simp at hv)
    have hn2 := IsEP.keep (w' := W2) hnode ⟨hb.size, fun k _ hs => hb.block k hs⟩ fun _ h => h
    have hz2 : ZB W2 (w.heap.size + 1) := (hD2.block _ (blk hzD).1).trans hzD
    have hYe : Y = .ok (madeR (opOf T) [t, ty] ai, q) := by
      rw [← hY]
      unfold txt
      rw [hN]
    have HQ := hide (And.intro hd (And.intro h6 (And.intro (hbwD.trans (But.of hD2)) (And.intro hz2 (And.intro hYe (And.intro hle4 (And.intro (hRD.keep hD2) hn2)))))))
    clear hd hk hb h6 hDD hD2 hnode hn2 hz2 hYe hbwD hx4D hzD hx7D hhD hRD hlD hrD hle4 hsD hY hN hPn hlt2 hsz4
    go_wp2
    obtain ⟨hd, h6, h1, h2, h3, h4, h5, h7⟩ := unhide HQ
    exact ret_putP rfl h6 hd h1 (by omega) (Nat.le_succ _) h2 h3 h4 h5 h7
end Go.Proofs.YtfkfnbehdcmgeaaGreatDoor
