/- Package parse: try. -/
import Derived.Test.YtfkfnbehdcmgeaaGreatDoorZAD
set_option linter.unusedVariables false
set_option linter.unusedSimpArgs false

/- Package parse: expr, unaryBehind. -/
namespace Go.Proofs.YtfkfnbehdcmgeaaGreatDoor
open Go Go.RowKit
def set7 (W : World) (q : Nat) (x0 x1 x2 x3 x4 x5 x6 : Value) : World := (((((((W.setCell ⟨q, 0, none⟩ x0).setCell ⟨q, 1, none⟩ x1).setCell ⟨q, 2, none⟩ x2).setCell ⟨q, 3, none⟩ x3).setCell ⟨q, 4, none⟩ x4).setCell ⟨q, 5, none⟩ x5).setCell ⟨q, 6, none⟩ x6)
/-- A box that is not yet filled. -/
def ZB (w : World) (q : Nat) : Prop := w.heap[q]? = some (.cells #[.int .i64 0, .string ⟨#[]⟩, .string ⟨#[]⟩, .bool false, .slice none 0 0, .int .i64 0, .int .i64 0] 36)
theorem ZB.but {w w' : World} {q r : Nat} (h : ZB w q) (hb : But r w w') (hr : r ≠ q) : ZB w' q := (hb.block q (blk h).1 (Ne.symm hr)).trans h
theorem RD.put {w : World} {r p d q : Nat} {ts : List (Int × ByteArray × Int)} (h : RD w r ts p d) (hq : r < q) (x0 x1 x2 x3 x4 x5 x6 : Value) : RD (set7 w q x0 x1 x2 x3 x4 x5 x6) r ts p d := by
  obtain ⟨⟨g, c, h1, h2, h3, h4⟩, h5⟩ := h
  refine ⟨⟨g, c, ?_, h2, h3, fun j x hx => range_same (h4 j x hx) ?_⟩, h5⟩
  · unfold set7
    rw [same7 (by omega)]
    exact h1
  · unfold set7
    rw [same7 (by omega)]
/-- A rule hands back what it was handed. -/
theorem ret_put {fn : Func} {a : Act} {tt : Nat} {w w3 : World} {r p q d lo : Nat} {ts : List (Int × ByteArray × Int)} {t : Ex} {Y : (Except (Int × Int) (Ex × Nat))} {x0 x1 x2 x3 x4 x5 x6 : Value} (hf : fn.results = #[.cell tt 36]) (ht : a.tmps[tt]? = some (.pointer (some ⟨w.heap.size, 0, none⟩))) (hdf : a.defers = []) (hbu : But r w w3) (hr : r < w.heap.size) (hz : ZB w3 w.heap.size) (hY : Y = .ok (t, q)) (hpq : p ≤ q) (hR : RD w3 r ts q d) (hlo : w.heap.size < lo) (hv : IsE w3 lo (.agg #[x0, x1, x2, x3, x4, x5, x6]) t) :
    bodyPost Tryz.prog fn (PE Y r ts p d w) .ret a (set7 w3 w.heap.size x0 x1 x2 x3 x4 x5 x6) := by
  subst hY
  refine bodyPost_ret (res_row (cs := [x0, x1, x2, x3, x4, x5, x6]) hf ht (range_block (fill7 hz)) Tryz.underlying36 rfl (by kernel_rfl)) hdf ?_
  exact ⟨but7 hbu (Nat.le_refl _) _ _ _ _ _ _ _, hpq, hR.put hr _ _ _ _ _ _ _, _, rfl, hv.keep (stays7 (Stays.of (Below.refl _ _)) hlo _ _ _ _ _ _ _) (by omega)⟩
/-- A rule throws on what was thrown. -/
theorem pe_err {r p d p2 d2 : Nat} {ts : List (Int × ByteArray × Int)} {Y Z : (Except (Int × Int) (Ex × Nat))} {er : Int × Int} {w w1 w3 : World} {e : Ending} (hY : Y = .error er) (hZ : Z = .error er) (hb : But r w w1) (h : PE Y r ts p2 d2 w1 e w3) : PE Z r ts p d w e w3 := by
  subst hY hZ
  obtain ⟨i, n⟩ := er
  exact ⟨hb.trans h.1, h.2⟩
theorem pe_ref {r p2 d2 : Nat} {ts : List (Int × ByteArray × Int)} {Y : (Except (Int × Int) (Ex × Nat))} {er : Int × Int} {w1 w3 : World} {e : Ending} (hY : Y = .error er) (h : PE Y r ts p2 d2 w1 e w3) : e = .panicked [{ v := .iface 89 (.agg #[.int .i64 er.1, .int .i64 er.2]), recovered := false }] := by
  subst hY
  obtain ⟨i, n⟩ := er
  exact h.2
theorem zb_new (w : World) : ∃ A, w.alloc (.cells #[.int .i64 0, .string ⟨#[]⟩, .string ⟨#[]⟩, .bool false, .slice none 0 0, .int .i64 0, .int .i64 0] 36) = A ∧ Below w.heap.size w A ∧ ZB A w.heap.size ∧ A.heap.size = w.heap.size + 1 := by
  obtain ⟨A, eA, hbA, hsA, hhA⟩ := box_new w #[.int .i64 0, .string ⟨#[]⟩, .string ⟨#[]⟩, .bool false, .slice none 0 0, .int .i64 0, .int .i64 0] 36
  exact ⟨A, eA, hbA, hhA, hsA⟩
theorem RD.rlt {w : World} {r p d : Nat} {ts : List (Int × ByteArray × Int)} (h : RD w r ts p d) : r < w.heap.size := by
  obtain ⟨⟨g, c, h1, -⟩, -⟩ := h
  exact (blk h1).1
set_option maxRecDepth 100000 in
set_option maxHeartbeats 4000000 in
theorem expr_of {r d lo : Nat} {ts : List (Int × ByteArray × Int)} {X : Nat → (Except (Int × Int) (Ex × Nat))} (hT : TsOk ts) (hd : d ≤ 1000000) (hE : Enters Tryz.prog 75) (hX : RuC 75 r ts (d + 1) lo X) : RuC 59 r ts d lo fun p => if begE ts p ∧ d = 200 then bad ts p 151 else X p := by
  intro w p hlo hR
  obtain ⟨Y, hY⟩ : ∃ Y, (if begE ts p ∧ d = 200 then bad ts p 151 else X p) = Y := ⟨_, rfl⟩
  show Calls _ _ _ _ (PE (if begE ts p ∧ d = 200 then bad ts p 151 else X p) r ts p d w)
  rw [hY]
  obtain ⟨A, eA, hbA, hzA, hsA⟩ := zb_new w
  have hRA := hR.keep hbA
  have HB := hide (begE_any hRA hT)
  obtain ⟨b, hb⟩ : ∃ b, begE ts p = b := ⟨_, rfl⟩
  rw [hb] at HB hY
  have HA := hide (And.intro hR (And.intro hRA (And.intro hbA (And.intro hzA (And.intro hT (And.intro hd (And.intro hE (And.intro hX (And.intro hlo (And.intro hY hsA))))))))))
  have HE := hide eA
  clear hT hd hE hX hlo hR hY eA hbA hzA hRA hb hsA
  go_enter Tryz.func59, Tryz.ntmps59
  go_wp2_with fail
  rw [unhide HE]
  refine (unhide HB).mono ?_
  rintro e w2 ⟨rfl, hb2⟩
  obtain ⟨hR, hRA, hbA, hzA, hT, hd, hE, hX, hlo, hY, hsA⟩ := unhide HA
  have HN := hide (nested_any (hRA.keep hb2) hT b hd hE hX hlo)
  rw [hY] at HN
  have H2 := hide hb2
  have hmf : ∀ (fn : Fn) (first cap : Array Value) (w : World), (Instr.makeFunc fn first cap).run Tryz.prog w = .ok (.func fn first cap) w := fun _ _ _ _ => rfl
  clear hR hRA hbA hzA hT hd hE hX hlo hY hsA hb2 HB
  go_wp2_with fail
  refine (unhide HN).mono ?_
  intro e w3 h3
  obtain ⟨hR, hRA, hbA, hzA, hT, hd, hE, hX, hlo, hY, hsA⟩ := unhide HA
  have hb02 : But r w w2 := (But.of hbA).trans (But.of (unhide H2))
  cases hYY : Y with
  | error er =>
    obtain rfl := pe_ref hYY h3
    have HP := hide (pe_err (p := p) (d := d) hYY rfl hb02 h3)
    clear hR hRA hbA hzA hT hd hE hX hlo hY hsA hb02 h3 HN
    go_wp2
    exact ⟨rfl, unhide HP⟩
  | ok tq =>
    obtain ⟨t, q⟩ := tq
    rw [hYY] at h3
    obtain ⟨hb3, hpq, hR3, v, rfl, hv⟩ := h3
    obtain ⟨i0, i6, s1, s2, b3, a4, n4, c4, rfl⟩ := hv.form
    have hr := hR.rlt
    have hs2 := (unhide H2).size
    have hz3 : ZB w3 w.heap.size := (ZB.but (r := r) hzA (But.of (unhide H2)) (by omega)).but hb3 (by omega)
    obtain ⟨y0, y1, y2, y3, y4, y5, y6⟩ := blk7 hz3
    obtain ⟨z0, z1, z2, z3, z4, z5, z6⟩ := frz7 hz3
    have HF := hide (And.intro hYY (And.intro (hb02.trans hb3) (And.intro hr (And.intro hz3 (And.intro hpq (And.intro hR3 (And.intro (show w.heap.size < w2.heap.size by omega) hv)))))))
    clear hR hRA hbA hzA hT hd hE hX hlo hY hsA hb02 hb3 hpq hR3 hv hr hs2 hz3 HN
    go_wp2
    obtain ⟨h0, h1, h2, h3, h4, h5, h6, h7⟩ := unhide HF
    exact ret_put rfl rfl rfl h1 h2 h3 h0 h4 h5 h6 h7
set_option maxRecDepth 100000 in
set_option maxHeartbeats 4000000 in
theorem unb_of {r d lo : Nat} {ts : List (Int × ByteArray × Int)} {X : Nat → (Except (Int × Int) (Ex × Nat))} (hT : TsOk ts) (hd : d ≤ 1000000) (hE : Enters Tryz.prog 126) (hX : RuC 126 r ts (d + 1) lo X) : RuC 127 r ts d lo fun p => if begU ts p ∧ d = 200 then bad ts p 151 else X p := by
  intro w p hlo hR
  obtain ⟨Y, hY⟩ : ∃ Y, (if begU ts p ∧ d = 200 then bad ts p 151 else X p) = Y := ⟨_, rfl⟩
  show Calls _ _ _ _ (PE (if begU ts p ∧ d = 200 then bad ts p 151 else X p) r ts p d w)
  rw [hY]
  obtain ⟨A, eA, hbA, hzA, hsA⟩ := zb_new w
  have hRA := hR.keep hbA
  have HB := hide (begU_any hRA hT)
  obtain ⟨b, hb⟩ : ∃ b, begU ts p = b := ⟨_, rfl⟩
  rw [hb] at HB hY
  have HA := hide (And.intro hR (And.intro hRA (And.intro hbA (And.intro hzA (And.intro hT (And.intro hd (And.intro hE (And.intro hX (And.intro hlo (And.intro hY hsA))))))))))
  have HE := hide eA
  clear hT hd hE hX hlo hR hY eA hbA hzA hRA hb hsA
  go_enter Tryz.func127, Tryz.ntmps127
  go_wp2_with fail
  rw [unhide HE]
  refine (unhide HB).mono ?_
  rintro e w2 ⟨rfl, hb2⟩
  obtain ⟨hR, hRA, hbA, hzA, hT, hd, hE, hX, hlo, hY, hsA⟩ := unhide HA
  have HN := hide (nested_any (hRA.keep hb2) hT b hd hE hX hlo)
  rw [hY] at HN
  have H2 := hide hb2
  have hmf : ∀ (fn : Fn) (first cap : Array Value) (w : World), (Instr.makeFunc fn first cap).run Tryz.prog w = .ok (.func fn first cap) w := fun _ _ _ _ => rfl
  clear hR hRA hbA hzA hT hd hE hX hlo hY hsA hb2 HB
  go_wp2_with fail
  refine (unhide HN).mono ?_
  intro e w3 h3
  obtain ⟨hR, hRA, hbA, hzA, hT, hd, hE, hX, hlo, hY, hsA⟩ := unhide HA
  have hb02 : But r w w2 := (But.of hbA).trans (But.of (unhide H2))
  cases hYY : Y with
  | error er =>
    obtain rfl := pe_ref hYY h3
    have HP := hide (pe_err (p := p) (d := d) hYY rfl hb02 h3)
    clear hR hRA hbA hzA hT hd hE hX hlo hY hsA hb02 h3 HN
    go_wp2
    exact ⟨rfl, unhide HP⟩
  | ok tq =>
    obtain ⟨t, q⟩ := tq
    rw [hYY] at h3
    obtain ⟨hb3, hpq, hR3, v, rfl, hv⟩ := h3
    obtain ⟨i0, i6, s1, s2, b3, a4, n4, c4, rfl⟩ := hv.form
    have hr := hR.rlt
    have hs2 := (unhide H2).size
    have hz3 : ZB w3 w.heap.size := (ZB.but (r := r) hzA (But.of (unhide H2)) (by omega)).but hb3 (by omega)
    obtain ⟨y0, y1, y2, y3, y4, y5, y6⟩ := blk7 hz3
    obtain ⟨z0, z1, z2, z3, z4, z5, z6⟩ := frz7 hz3
    have HF := hide (And.intro hYY (And.intro (hb02.trans hb3) (And.intro hr (And.intro hz3 (And.intro hpq (And.intro hR3 (And.intro (show w.heap.size < w2.heap.size by omega) hv)))))))
    clear hR hRA hbA hzA hT hd hE hX hlo hY hsA hb02 hb3 hpq hR3 hv hr hs2 hz3 HN
    go_wp2
    obtain ⟨h0, h1, h2, h3, h4, h5, h6, h7⟩ := unhide HF
    exact ret_put rfl rfl rfl h1 h2 h3 h0 h4 h5 h6 h7
end Go.Proofs.YtfkfnbehdcmgeaaGreatDoor

/- Package parse: a node of expressions that lie. -/
namespace Go.Proofs.YtfkfnbehdcmgeaaGreatDoor
open Go Go.RowKit
theorem IsEP.at {w W' : World} {P : Nat → Prop} {b o : Nat} {cs : List Value} {t : Ex} (h : IsEP w P (.agg cs.toArray) t) (hs : StaysP P w W') (hr : W'.rangeAt b o cs) : ∃ k, ExAt W' P k b o t := by
  obtain ⟨op, nm, nu, bl, l, i⟩ := t
  obtain ⟨k, a, c, e, h2⟩ := h
  have e2 : cs = [.int .i64 op, .string nm, .string nu, .bool bl, .slice a l.length c, .int .i64 0, .int .i64 i] := by simpa using e
  subst e2
  exact ⟨k + 1, a, c, hr, h2.mono hs.1 (fun _ h => h) fun b o j hr hbl hj t ht => ExAt.keep hs (fun _ h => h) k b o t hr hbl (hj t ht)⟩
theorem all_high {W : World} {P : Nat → Prop} {b : Nat} : ∀ (l : List Ex) (o : Nat), (∀ (j : Nat) t, l[j]? = some t → ∃ k, ExAt W P k b (o + j * 7) t) → ∃ k, ∀ (j : Nat) t, l[j]? = some t → ExAt W P k b (o + j * 7) t
  | [], _, _ => ⟨0, fun j t h => by simp at h⟩
  | x :: l, o, h => by
    obtain ⟨k1, h1⟩ := h 0 x rfl
    obtain ⟨k2, h2⟩ := all_high l (o + 7) fun j t ht => by
      obtain ⟨k, hk⟩ := h (j + 1) t (by simpa using ht)
      exact ⟨k, by rw [show o + 7 + j * 7 = o + (j + 1) * 7 by omega]; exact hk⟩
    refine ⟨max k1 k2, fun j t ht => ?_⟩
    cases j with
    | zero =>
      obtain rfl : x = t := by simpa using ht
      exact ExAt.up _ _ _ _ _ h1 (Nat.le_max_left _ _)
    | succ j =>
      have := h2 j t (by simpa using ht)
      rw [show o + 7 + j * 7 = o + (j + 1) * 7 by omega] at this
      exact ExAt.up _ _ _ _ _ this (Nat.le_max_right _ _)
theorem flat_at : ∀ (vs : List (List Value)) (j : Nat) (v : List Value), (∀ v ∈ vs, v.length = 7) → vs[j]? = some v → ∀ (k : Nat) u, v[k]? = some u → vs.flatten[j * 7 + k]? = some u
  | [], j, v, _, h => by simp at h
  | x :: vs, 0, v, hl, h => fun k u hu => by
    obtain rfl : x = v := by simpa using h
    rw [List.flatten_cons, Nat.zero_mul, Nat.zero_add, List.getElem?_append_left (List.getElem?_eq_some_iff.1 hu).1]
    exact hu
  | x :: vs, j + 1, v, hl, h => fun k u hu => by
    have h7 : x.length = 7 := hl x (by simp)
    have := flat_at vs j v (fun v hv => hl v (by simp [hv])) (by simpa using h) k u hu
    rw [List.flatten_cons, List.getElem?_append_right (by omega), h7, show (j + 1) * 7 + k - 7 = j * 7 + k by omega]
    exact this
/-- A row of operands that was laid anew. -/
theorem nodeP {w W : World} {P : Nat → Prop} {vs : List (List Value)} {l : List Ex} {cs : Array Value} {ty : TypeId} (op i : Int) (nm nu : ByteArray) (bl : Bool) (hW : w.alloc (.cells cs ty) = W) (hcs : cs = vs.flatten.toArray) (h7 : ∀ v ∈ vs, v.length = 7) (hlen : vs.length = l.length) (hn : l.length ≤ 1000000) (hlo : P w.heap.size) (h : ∀ (j : Nat) v t, vs[j]? = some v → l[j]? = some t → IsEP w P (.agg v.toArray) t) : IsEP W P (.agg #[.int .i64 op, .string nm, .string nu, .bool bl, .slice (some ⟨w.heap.size, 0, none⟩) l.length l.length, .int .i64 0, .int .i64 i]) (.mk op nm nu bl l i) := by
  have hh : W.heap[w.heap.size]? = some (.cells cs ty) := by rw [← hW]; exact (MapKept.heap_alloc w (.cells cs ty)).1
  have hB : Below w.heap.size w W := by rw [← hW]; exact (Below.refl _ w).alloc (Nat.le_refl _) _
  obtain ⟨k, hk⟩ := all_high (W := W) (P := P) (b := w.heap.size) l 0 fun j t ht => by
    obtain ⟨v, hv⟩ : ∃ v, vs[j]? = some v := ⟨_, List.getElem?_eq_getElem (by rw [hlen]; exact (List.getElem?_eq_some_iff.1 ht).1)⟩
    refine (h j v t hv ht).at (⟨hB.size, fun k _ hk => hB.block k hk⟩ : StaysP P w W) fun m u hu => ?_
    rw [Nat.zero_add]
    exact (blk hh).2.1 _ _ (by rw [hcs]; simpa using flat_at vs j v h7 hv m u hu)
  exact ⟨k, _, _, rfl, Nat.le_refl _, by omega, fun _ => ⟨w.heap.size, 0, rfl, hlo, (blk hh).1, fun j _ t ht => hk j t ht⟩⟩
theorem node {w W : World} {lo : Nat} {vs : List (List Value)} {l : List Ex} {cs : Array Value} {ty : TypeId} (op i : Int) (nm nu : ByteArray) (bl : Bool) (hW : w.alloc (.cells cs ty) = W) (hcs : cs = vs.flatten.toArray) (h7 : ∀ v ∈ vs, v.length = 7) (hlen : vs.length = l.length) (hn : l.length ≤ 1000000) (hlo : lo ≤ w.heap.size) (h : ∀ (j : Nat) v t, vs[j]? = some v → l[j]? = some t → IsE w lo (.agg v.toArray) t) : IsE W lo (.agg #[.int .i64 op, .string nm, .string nu, .bool bl, .slice (some ⟨w.heap.size, 0, none⟩) l.length l.length, .int .i64 0, .int .i64 i]) (.mk op nm nu bl l i) := nodeP op i nm nu bl hW hcs h7 hlen hn hlo h
theorem leaf {W : World} {lo : Nat} (op i : Int) (nm nu : ByteArray) (bl : Bool) : IsE W lo (.agg #[.int .i64 op, .string nm, .string nu, .bool bl, .slice none 0 0, .int .i64 0, .int .i64 i]) (.mk op nm nu bl [] i) := ⟨0, none, 0, rfl, Nat.le_refl _, by simp, fun h => absurd rfl h⟩
end Go.Proofs.YtfkfnbehdcmgeaaGreatDoor

/- Package parse: if. -/
namespace Go.Proofs.YtfkfnbehdcmgeaaGreatDoor
open Go Go.RowKit
set_option maxRecDepth 100000 in
set_option maxHeartbeats 8000000 in
theorem branch_of {r d lo : Nat} {ts : List (Int × ByteArray × Int)} {g : Ru → Nat → Nat → (Except (Int × Int) (Ex × Nat))} (hT : TsOk ts) (hE : RuC 59 r ts d (lo + 1) (g .rE d)) {w : World} {p : Nat} (hlo : lo ≤ p) (hp1 : p + 1 < ts.length) (hR : RD w r ts p d) : Calls Tryz.prog 95 #[.pointer (some ⟨r, 0, none⟩)] w (PE (branchR ts g d p) r ts p d w) := by
  obtain ⟨Y, hY⟩ : ∃ Y, branchR ts g d p = Y := ⟨_, rfl⟩
  rw [hY]
  unfold branchR at hY
  have hr := hR.rlt
  obtain ⟨A, eA, hbA, hzA, hsA⟩ := zb_new w
  have HB := hide (But.of (r := r) hbA)
  have HR := hide (hR.keep hbA)
  have HZ := hide hzA
  have HS : Hid (w.heap.size < A.heap.size) := by show _ < _; omega
  have HL : Hid (p ≤ p ∧ lo ≤ p) := ⟨Nat.le_refl _, hlo⟩
  have HSA := hide hsA
  have HE := hide eA
  have HT := hide hT
  have HY := hide hY
  have hrne : r ≠ w.heap.size := by omega
  have hmf : ∀ (fn : Fn) (first cap : Array Value) (w : World), (Instr.makeFunc fn first cap).run Tryz.prog w = .ok (.func fn first cap) w := fun _ _ _ _ => rfl
  replace hE := hide hE
  replace hp1 := hide hp1
  clear hlo hR hbA hzA hsA eA hT hY
  go_enter Tryz.func95, Tryz.ntmps95
  have HC0 := hide (take_any (unhide HR) (unhide HT) (unhide hp1))
  unfold tkV at HC0
  obtain ⟨⟨kk0, T0, at0⟩, hN0⟩ : ∃ X, nx ts p = X := ⟨_, rfl⟩
  rw [hN0] at HC0
  have HN0 := hide hN0
  clear hN0
  go_wp2_with fail
  rw [unhide HE]
  refine (unhide HC0).mono ?_
  rintro e w0 ⟨rfl, hb0, hR0⟩
  replace HB := hide ((unhide HB).trans hb0)
  replace HZ := hide ((unhide HZ).but hb0 hrne)
  replace HS := hide (Nat.lt_of_lt_of_le (unhide HS) hb0.size)
  replace HR := hide hR0
  replace HL : Hid (p ≤ p + 1 ∧ lo + 1 ≤ p + 1) := And.intro (Nat.le_succ_of_le (unhide HL).1) (Nat.succ_le_succ (unhide HL).2)
  clear hb0 hR0 HC0
  obtain ⟨B1, eB1, hbB1, hsB1, hhB1⟩ := box_new w0 #[.int .i64 kk0, .string T0, .int .i64 at0] 74
  have ne1 : r ≠ w0.heap.size := by have := unhide HS; omega
  have HQHX1 := HS
  have hbu2 := But.of (r := r) hbB1
  replace HR := hide ((unhide HR).keep hbB1)
  replace HB := hide ((unhide HB).trans hbu2)
  replace HZ := hide ((unhide HZ).but hbu2 hrne)
  replace HS := hide (Nat.lt_of_lt_of_le (unhide HS) hbu2.size)
  have HX1 := hide hhB1
  have HEB1 := hide eB1
  have HSB1 := hide hsB1
  clear eB1 hbB1 hhB1 hsB1
  have HC3 := hide (unhide hE B1 (p + 1) (unhide HL).2 (unhide HR))
  go_wp2_with fail
  rw [unhide HEB1]
  refine (unhide HC3).mono ?_
  intro e w3 h3
  rcases hX3 : g .rE d (p + 1) with er | ⟨t3, q3⟩
  · rw [hX3] at h3
    obtain ⟨ei, en⟩ := er
    have hYe : Y = .error (ei, en) := by have h := unhide HY; rw [hX3] at h; exact h.symm
    subst hYe
    obtain ⟨hb3, h3⟩ := h3
    obtain rfl : e = _ := h3
    have HP := hide ((unhide HB).trans hb3)
    clear hb3 HC3 hX3
    go_wp2
    exact ⟨rfl, unhide HP, rfl⟩
  rw [hX3] at h3
  obtain ⟨hb3, hle3, hR3, v3, rfl, hv3⟩ := h3
  have hY3 := unhide HY
  rw [hX3] at hY3
  simp only [thenR] at hY3
  replace HY := hide hY3
  clear hY3
  obtain ⟨i3, j3, s3, m3, b3, a3, n3, c3, rfl⟩ := hv3.form
  have HT3 := hide (hv3.keep (lo' := w.heap.size + 1) (Stays.of (Below.refl _ _)) (unhide HS))
  replace HB := hide ((unhide HB).trans hb3)
  replace HZ := hide ((unhide HZ).but hb3 hrne)
  replace HX1 := hide ((hb3.block _ (blk (unhide HX1)).1 (Ne.symm ne1)).trans (unhide HX1))
  replace HS := hide (Nat.lt_of_lt_of_le (unhide HS) hb3.size)
  replace HR := hide hR3
  replace HL := hide (And.intro (Nat.le_trans (unhide HL).1 hle3) (Nat.le_trans (unhide HL).2 hle3))
  clear hb3 hle3 hR3 hv3 HC3 hX3
  obtain ⟨B4, eB4, hbB4, hsB4, hhB4⟩ := box_new w3 #[.int .i64 i3, .string s3, .string m3, .bool b3, .slice a3 n3 c3, .int .i64 0, .int .i64 j3] 36
  have ne4 : r ≠ w3.heap.size := by have := unhide HS; omega
  have HQHX4 := HS
  have hbu5 := But.of (r := r) hbB4
  replace HR := hide ((unhide HR).keep hbB4)
  replace HB := hide ((unhide HB).trans hbu5)
  replace HZ := hide ((unhide HZ).but hbu5 hrne)
  replace HX1 := hide ((hbu5.block _ (blk (unhide HX1)).1 (Ne.symm ne1)).trans (unhide HX1))
  replace HT3 := hide ((unhide HT3).keep (Stays.but hbu5 (Nat.lt_succ_of_lt hr)) (Nat.le_refl _))
  replace HS := hide (Nat.lt_of_lt_of_le (unhide HS) hbu5.size)
  have HX4 := hide hhB4
  have HEB4 := hide eB4
  have HSB4 := hide hsB4
  clear eB4 hbB4 hhB4 hsB4
  have HC6 := hide (must_any (unhide HR) (unhide HT) (s := ⟨#[116, 104, 101, 110]⟩) (by decide))
  go_wp2_with fail
  rw [unhide HEB4]
  refine (unhide HC6).mono ?_
  intro e w6 h6
  rcases hX6 : mustR ts ⟨#[116, 104, 101, 110]⟩ (q3) with er | ⟨t6, q6⟩
  · rw [hX6] at h6
    obtain ⟨ei, en⟩ := er
    have hYe : Y = .error (ei, en) := by have h := unhide HY; rw [hX6] at h; exact h.symm
    subst hYe
    obtain ⟨hb6, h6⟩ := h6
    obtain rfl : e = _ := h6
    have HP := hide ((unhide HB).trans hb6)
    clear hb6 HC6 hX6
    go_wp2
    exact ⟨rfl, unhide HP, rfl⟩
  rw [hX6] at h6
  obtain ⟨hb6, hle6, hR6, v6, rfl, hv6⟩ := h6
  have hY6 := unhide HY
  rw [hX6] at hY6
  simp only [thenR] at hY6
  replace HY := hide hY6
  clear hY6
  obtain rfl : v6 = _ := hv6
  replace HB := hide ((unhide HB).trans hb6)
  replace HZ := hide ((unhide HZ).but hb6 hrne)
  replace HX1 := hide ((hb6.block _ (blk (unhide HX1)).1 (Ne.symm ne1)).trans (unhide HX1))
  replace HX4 := hide ((hb6.block _ (blk (unhide HX4)).1 (Ne.symm ne4)).trans (unhide HX4))
  replace HT3 := hide ((unhide HT3).keep (Stays.but hb6 (Nat.lt_succ_of_lt hr)) (Nat.le_refl _))
  replace HS := hide (Nat.lt_of_lt_of_le (unhide HS) hb6.size)
  replace HR := hide hR6
  replace HL := hide (And.intro (Nat.le_trans (unhide HL).1 hle6) (Nat.le_trans (unhide HL).2 hle6))
  clear hb6 hle6 hR6 HC6 hX6
  have HC7 := hide (unhide hE w6 (q6) (unhide HL).2 (unhide HR))
  go_wp2_with fail
  refine (unhide HC7).mono ?_
  intro e w7 h7
  rcases hX7 : g .rE d (q6) with er | ⟨t7, q7⟩
  · rw [hX7] at h7
    obtain ⟨ei, en⟩ := er
    have hYe : Y = .error (ei, en) := by have h := unhide HY; rw [hX7] at h; exact h.symm
    subst hYe
    obtain ⟨hb7, h7⟩ := h7
    obtain rfl : e = _ := h7
    have HP := hide ((unhide HB).trans hb7)
    clear hb7 HC7 hX7
    go_wp2
    exact ⟨rfl, unhide HP, rfl⟩
  rw [hX7] at h7
  obtain ⟨hb7, hle7, hR7, v7, rfl, hv7⟩ := h7
  have hY7 := unhide HY
  rw [hX7] at hY7
  simp only [thenR] at hY7
  replace HY := hide hY7
  clear hY7
  obtain ⟨i7, j7, s7, m7, b7, a7, n7, c7, rfl⟩ := hv7.form
  have HT7 := hide (hv7.keep (lo' := w.heap.size + 1) (Stays.of (Below.refl _ _)) (unhide HS))
  replace HB := hide ((unhide HB).trans hb7)
  replace HZ := hide ((unhide HZ).but hb7 hrne)
  replace HX1 := hide ((hb7.block _ (blk (unhide HX1)).1 (Ne.symm ne1)).trans (unhide HX1))
  replace HX4 := hide ((hb7.block _ (blk (unhide HX4)).1 (Ne.symm ne4)).trans (unhide HX4))
  replace HT3 := hide ((unhide HT3).keep (Stays.but hb7 (Nat.lt_succ_of_lt hr)) (Nat.le_refl _))
  replace HS := hide (Nat.lt_of_lt_of_le (unhide HS) hb7.size)
  replace HR := hide hR7
  replace HL := hide (And.intro (Nat.le_trans (unhide HL).1 hle7) (Nat.le_trans (unhide HL).2 hle7))
  clear hb7 hle7 hR7 hv7 HC7 hX7
  obtain ⟨B8, eB8, hbB8, hsB8, hhB8⟩ := box_new w7 #[.int .i64 i7, .string s7, .string m7, .bool b7, .slice a7 n7 c7, .int .i64 0, .int .i64 j7] 36
  have ne8 : r ≠ w7.heap.size := by have := unhide HS; omega
  have HQHX8 := HS
  have hbu9 := But.of (r := r) hbB8
  replace HR := hide ((unhide HR).keep hbB8)
  replace HB := hide ((unhide HB).trans hbu9)
  replace HZ := hide ((unhide HZ).but hbu9 hrne)
  replace HX1 := hide ((hbu9.block _ (blk (unhide HX1)).1 (Ne.symm ne1)).trans (unhide HX1))
  replace HX4 := hide ((hbu9.block _ (blk (unhide HX4)).1 (Ne.symm ne4)).trans (unhide HX4))
  replace HT3 := hide ((unhide HT3).keep (Stays.but hbu9 (Nat.lt_succ_of_lt hr)) (Nat.le_refl _))
  replace HT7 := hide ((unhide HT7).keep (Stays.but hbu9 (Nat.lt_succ_of_lt hr)) (Nat.le_refl _))
  replace HS := hide (Nat.lt_of_lt_of_le (unhide HS) hbu9.size)
  have HX8 := hide hhB8
  have HEB8 := hide eB8
  have HSB8 := hide hsB8
  clear eB8 hbB8 hhB8 hsB8
  have HC10 := hide (must_any (unhide HR) (unhide HT) (s := ⟨#[101, 108, 115, 101]⟩) (by decide))
  go_wp2_with fail
  rw [unhide HEB8]
  refine (unhide HC10).mono ?_
  intro e w10 h10
  rcases hX10 : mustR ts ⟨#[101, 108, 115, 101]⟩ (q7) with er | ⟨t10, q10⟩
  · rw [hX10] at h10
    obtain ⟨ei, en⟩ := er
    have hYe : Y = .error (ei, en) := by have h := unhide HY; rw [hX10] at h; exact h.symm
    subst hYe
    obtain ⟨hb10, h10⟩ := h10
    obtain rfl : e = _ := h10
    have HP := hide ((unhide HB).trans hb10)
    clear hb10 HC10 hX10
    go_wp2
    exact ⟨rfl, unhide HP, rfl⟩
  rw [hX10] at h10
  obtain ⟨hb10, hle10, hR10, v10, rfl, hv10⟩ := h10
  have hY10 := unhide HY
  rw [hX10] at hY10
  simp only [thenR] at hY10
  replace HY := hide hY10
  clear hY10
  obtain rfl : v10 = _ := hv10
  replace HB := hide ((unhide HB).trans hb10)
  replace HZ := hide ((unhide HZ).but hb10 hrne)
  replace HX1 := hide ((hb10.block _ (blk (unhide HX1)).1 (Ne.symm ne1)).trans (unhide HX1))
  replace HX4 := hide ((hb10.block _ (blk (unhide HX4)).1 (Ne.symm ne4)).trans (unhide HX4))
  replace HX8 := hide ((hb10.block _ (blk (unhide HX8)).1 (Ne.symm ne8)).trans (unhide HX8))
  replace HT3 := hide ((unhide HT3).keep (Stays.but hb10 (Nat.lt_succ_of_lt hr)) (Nat.le_refl _))
  replace HT7 := hide ((unhide HT7).keep (Stays.but hb10 (Nat.lt_succ_of_lt hr)) (Nat.le_refl _))
  replace HS := hide (Nat.lt_of_lt_of_le (unhide HS) hb10.size)
  replace HR := hide hR10
  replace HL := hide (And.intro (Nat.le_trans (unhide HL).1 hle10) (Nat.le_trans (unhide HL).2 hle10))
  clear hb10 hle10 hR10 HC10 hX10
  have HC11 := hide (unhide hE w10 (q10) (unhide HL).2 (unhide HR))
  go_wp2_with fail
  refine (unhide HC11).mono ?_
  intro e w11 h11
  rcases hX11 : g .rE d (q10) with er | ⟨t11, q11⟩
  · rw [hX11] at h11
    obtain ⟨ei, en⟩ := er
    have hYe : Y = .error (ei, en) := by have h := unhide HY; rw [hX11] at h; exact h.symm
    subst hYe
    obtain ⟨hb11, h11⟩ := h11
    obtain rfl : e = _ := h11
    have HP := hide ((unhide HB).trans hb11)
    clear hb11 HC11 hX11
    go_wp2
    exact ⟨rfl, unhide HP, rfl⟩
  rw [hX11] at h11
  obtain ⟨hb11, hle11, hR11, v11, rfl, hv11⟩ := h11
  have hY11 := unhide HY
  rw [hX11] at hY11
  simp only [thenR] at hY11
  replace HY := hide hY11
  clear hY11
  obtain ⟨i11, j11, s11, m11, b11, a11, n11, c11, rfl⟩ := hv11.form
  have HT11 := hide (hv11.keep (lo' := w.heap.size + 1) (Stays.of (Below.refl _ _)) (unhide HS))
  replace HB := hide ((unhide HB).trans hb11)
  replace HZ := hide ((unhide HZ).but hb11 hrne)
  replace HX1 := hide ((hb11.block _ (blk (unhide HX1)).1 (Ne.symm ne1)).trans (unhide HX1))
  replace HX4 := hide ((hb11.block _ (blk (unhide HX4)).1 (Ne.symm ne4)).trans (unhide HX4))
  replace HX8 := hide ((hb11.block _ (blk (unhide HX8)).1 (Ne.symm ne8)).trans (unhide HX8))
  replace HT3 := hide ((unhide HT3).keep (Stays.but hb11 (Nat.lt_succ_of_lt hr)) (Nat.le_refl _))
  replace HT7 := hide ((unhide HT7).keep (Stays.but hb11 (Nat.lt_succ_of_lt hr)) (Nat.le_refl _))
  replace HS := hide (Nat.lt_of_lt_of_le (unhide HS) hb11.size)
  replace HR := hide hR11
  replace HL := hide (And.intro (Nat.le_trans (unhide HL).1 hle11) (Nat.le_trans (unhide HL).2 hle11))
  clear hb11 hle11 hR11 hv11 HC11 hX11
  obtain ⟨B12, eB12, hbB12, hsB12, hhB12⟩ := box_new w11 #[.int .i64 i11, .string s11, .string m11, .bool b11, .slice a11 n11 c11, .int .i64 0, .int .i64 j11] 36
  have ne12 : r ≠ w11.heap.size := by have := unhide HS; omega
  have HQHX12 := HS
  have hbu13 := But.of (r := r) hbB12
  replace HR := hide ((unhide HR).keep hbB12)
  replace HB := hide ((unhide HB).trans hbu13)
  replace HZ := hide ((unhide HZ).but hbu13 hrne)
  replace HX1 := hide ((hbu13.block _ (blk (unhide HX1)).1 (Ne.symm ne1)).trans (unhide HX1))
  replace HX4 := hide ((hbu13.block _ (blk (unhide HX4)).1 (Ne.symm ne4)).trans (unhide HX4))
  replace HX8 := hide ((hbu13.block _ (blk (unhide HX8)).1 (Ne.symm ne8)).trans (unhide HX8))
  replace HT3 := hide ((unhide HT3).keep (Stays.but hbu13 (Nat.lt_succ_of_lt hr)) (Nat.le_refl _))
  replace HT7 := hide ((unhide HT7).keep (Stays.but hbu13 (Nat.lt_succ_of_lt hr)) (Nat.le_refl _))
  replace HT11 := hide ((unhide HT11).keep (Stays.but hbu13 (Nat.lt_succ_of_lt hr)) (Nat.le_refl _))
  replace HS := hide (Nat.lt_of_lt_of_le (unhide HS) hbu13.size)
  have HX12 := hide hhB12
  have HEB12 := hide eB12
  have HSB12 := hide hsB12
  clear eB12 hbB12 hhB12 hsB12
  have u01 := (blk (unhide HX1)).2.1 0 _ rfl
  have u11 := (blk (unhide HX1)).2.1 1 _ rfl
  have u21 := (blk (unhide HX1)).2.1 2 _ rfl
  obtain ⟨y04, y14, y24, y34, y44, y54, y64⟩ := blk7 (unhide HX4)
  obtain ⟨y08, y18, y28, y38, y48, y58, y68⟩ := blk7 (unhide HX8)
  obtain ⟨y012, y112, y212, y312, y412, y512, y612⟩ := blk7 (unhide HX12)
  rw [← unhide HEB12] at u01 u11 u21 y04 y14 y24 y34 y44 y54 y64 y08 y18 y28 y38 y48 y58 y68 y012 y112 y212 y312 y412 y512 y612
  go_wp2_with fail
  rw [unhide HEB12]
  clear u01 u11 u21 y04 y14 y24 y34 y44 y54 y64 y08 y18 y28 y38 y48 y58 y68 y012 y112 y212 y312 y412 y512 y612
  refine (made_any _ _ _ _ _ _ _ _).mono ?_
  rintro e w14 ⟨rfl, hb14⟩
  obtain ⟨C14, eC14, hbC14, hsC14, hhC14⟩ := box_new B12 #[.int .i64 i3, .string s3, .string m3, .bool b3, .slice a3 n3 c3, .int .i64 0, .int .i64 j3, .int .i64 i7, .string s7, .string m7, .bool b7, .slice a7 n7 c7, .int .i64 0, .int .i64 j7, .int .i64 i11, .string s11, .string m11, .bool b11, .slice a11 n11 c11, .int .i64 0, .int .i64 j11] 36
  rw [eC14] at hb14
  have hnode := node (l := [t3, t7, t11]) (vs := [[.int .i64 i3, .string s3, .string m3, .bool b3, .slice a3 n3 c3, .int .i64 0, .int .i64 j3], [.int .i64 i7, .string s7, .string m7, .bool b7, .slice a7 n7 c7, .int .i64 0, .int .i64 j7], [.int .i64 i11, .string s11, .string m11, .bool b11, .slice a11 n11 c11, .int .i64 0, .int .i64 j11]]) 22 at0 ⟨#[]⟩ ⟨#[]⟩ false eC14 rfl (by simp) rfl (by simp) (unhide HS) (fun j v t hv ht => by
    rcases j with _ | _ | _ | j
    · obtain rfl := Option.some.inj hv
      obtain rfl := Option.some.inj ht
      exact unhide HT3
    · obtain rfl := Option.some.inj hv
      obtain rfl := Option.some.inj ht
      exact unhide HT7
    · obtain rfl := Option.some.inj hv
      obtain rfl := Option.some.inj ht
      exact unhide HT11
    · simp at hv)
  rw [unhide HSB12] at hnode
  have hbCb := hbC14.trans (hb14.mono hbC14.size)
  replace hnode := hnode.keep (Stays.of hb14) (Nat.le_refl _)
  have hbu15 := But.of (r := r) hbCb
  replace HR := hide ((unhide HR).keep hbCb)
  replace HB := hide ((unhide HB).trans hbu15)
  replace HZ := hide ((unhide HZ).but hbu15 hrne)
  replace HX1 := hide ((hbu15.block _ (blk (unhide HX1)).1 (Ne.symm ne1)).trans (unhide HX1))
  replace HX4 := hide ((hbu15.block _ (blk (unhide HX4)).1 (Ne.symm ne4)).trans (unhide HX4))
  replace HX8 := hide ((hbu15.block _ (blk (unhide HX8)).1 (Ne.symm ne8)).trans (unhide HX8))
  replace HX12 := hide ((hbu15.block _ (blk (unhide HX12)).1 (Ne.symm ne12)).trans (unhide HX12))
  replace HS := hide (Nat.lt_of_lt_of_le (unhide HS) hbu15.size)
  obtain ⟨y0, y1, y2, y3, y4, y5, y6⟩ := blk7 (unhide HZ)
  obtain ⟨z0, z1, z2, z3, z4, z5, z6⟩ := frz7 (unhide HZ)
  have HNode := hide hnode
  go_wp2
  exact ret_put rfl rfl rfl (unhide HB) hr (unhide HZ) (by have h := unhide HY; rw [unhide HN0] at h; exact h.symm) (unhide HL).1 (unhide HR) (Nat.lt_succ_self _) (unhide HNode)
end Go.Proofs.YtfkfnbehdcmgeaaGreatDoor

/- Package parse: let. -/
namespace Go.Proofs.YtfkfnbehdcmgeaaGreatDoor
open Go Go.RowKit
set_option maxRecDepth 100000 in
set_option maxHeartbeats 8000000 in
theorem binding_of {r d lo : Nat} {ts : List (Int × ByteArray × Int)} {g : Ru → Nat → Nat → (Except (Int × Int) (Ex × Nat))} (hT : TsOk ts) (hE : RuC 59 r ts d (lo + 1) (g .rE d)) {w : World} {p : Nat} (hlo : lo ≤ p) (hp1 : p + 1 < ts.length) (hR : RD w r ts p d) : Calls Tryz.prog 96 #[.pointer (some ⟨r, 0, none⟩)] w (PE (bindR ts g d p) r ts p d w) := by
  obtain ⟨Y, hY⟩ : ∃ Y, bindR ts g d p = Y := ⟨_, rfl⟩
  rw [hY]
  unfold bindR at hY
  have hr := hR.rlt
  obtain ⟨A, eA, hbA, hzA, hsA⟩ := zb_new w
  have HB := hide (But.of (r := r) hbA)
  have HR := hide (hR.keep hbA)
  have HZ := hide hzA
  have HS : Hid (w.heap.size < A.heap.size) := by show _ < _; omega
  have HL : Hid (p ≤ p ∧ lo ≤ p) := ⟨Nat.le_refl _, hlo⟩
  have HE := hide eA
  have HT := hide hT
  have HY := hide hY
  have hrne : r ≠ w.heap.size := by omega
  have hmf : ∀ (fn : Fn) (first cap : Array Value) (w : World), (Instr.makeFunc fn first cap).run Tryz.prog w = .ok (.func fn first cap) w := fun _ _ _ _ => rfl
  replace hE := hide hE
  replace hp1 := hide hp1
  clear hlo hR hbA hzA hsA eA hT hY
  go_enter Tryz.func96, Tryz.ntmps96
  have HC0 := hide (take_any (unhide HR) (unhide HT) (unhide hp1))
  unfold tkV at HC0
  obtain ⟨⟨kk0, T0, at0⟩, hN0⟩ : ∃ X, nx ts p = X := ⟨_, rfl⟩
  rw [hN0] at HC0
  have HN0 := hide hN0
  clear hN0
  go_wp2_with fail
  rw [unhide HE]
  refine (unhide HC0).mono ?_
  rintro e w0 ⟨rfl, hb0, hR0⟩
  replace HB := hide ((unhide HB).trans hb0)
  replace HZ := hide ((unhide HZ).but hb0 hrne)
  replace HS := hide (Nat.lt_of_lt_of_le (unhide HS) hb0.size)
  replace HR := hide hR0
  replace HL : Hid (p ≤ p + 1 ∧ lo + 1 ≤ p + 1) := And.intro (Nat.le_succ_of_le (unhide HL).1) (Nat.succ_le_succ (unhide HL).2)
  clear hb0 hR0 HC0
  obtain ⟨B1, eB1, hbB1, hsB1, hhB1⟩ := box_new w0 #[.int .i64 kk0, .string T0, .int .i64 at0] 74
  have ne1 : r ≠ w0.heap.size := by have := unhide HS; omega
  have hbu2 := But.of (r := r) hbB1
  replace HR := hide ((unhide HR).keep hbB1)
  replace HB := hide ((unhide HB).trans hbu2)
  replace HZ := hide ((unhide HZ).but hbu2 hrne)
  replace HS := hide (Nat.lt_of_lt_of_le (unhide HS) hbu2.size)
  have HX1 := hide hhB1
  have HEB1 := hide eB1
  have HSB1 := hide hsB1
  clear eB1 hbB1 hhB1 hsB1
  have HC3 := hide (mustBe_any (unhide HR) (unhide HT) (k := 1) (by decide))
  go_wp2_with fail
  rw [unhide HEB1]
  refine (unhide HC3).mono ?_
  intro e w3 h3
  rcases hX3 : mustBeR ts 1 (p + 1) with er | ⟨t3, q3⟩
  · rw [hX3] at h3
    obtain ⟨ei, en⟩ := er
    have hYe : Y = .error (ei, en) := by have h := unhide HY; rw [hX3] at h; exact h.symm
    subst hYe
    obtain ⟨hb3, h3⟩ := h3
    obtain rfl : e = _ := h3
    have HP := hide ((unhide HB).trans hb3)
    clear hb3 HC3 hX3
    go_wp2
    exact ⟨rfl, unhide HP, rfl⟩
  rw [hX3] at h3
  obtain ⟨hb3, hle3, hR3, v3, rfl, hv3⟩ := h3
  have hY3 := unhide HY
  rw [hX3] at hY3
  simp only [thenR] at hY3
  replace HY := hide hY3
  clear hY3
  obtain ⟨kk3, T3, at3⟩ := t3
  obtain rfl : v3 = _ := hv3
  have hf03 := fld0 (.int .i64 kk3) (.string T3) (.int .i64 at3)
  have hf13 := fld1 (.int .i64 kk3) (.string T3) (.int .i64 at3)
  unfold tkV
  replace HB := hide ((unhide HB).trans hb3)
  replace HZ := hide ((unhide HZ).but hb3 hrne)
  replace HX1 := hide ((hb3.block _ (blk (unhide HX1)).1 (Ne.symm ne1)).trans (unhide HX1))
  replace HS := hide (Nat.lt_of_lt_of_le (unhide HS) hb3.size)
  replace HR := hide hR3
  replace HL := hide (And.intro (Nat.le_trans (unhide HL).1 hle3) (Nat.le_trans (unhide HL).2 hle3))
  clear hb3 hle3 hR3 HC3 hX3
  have HC4 := hide (must_any (unhide HR) (unhide HT) (s := ⟨#[61]⟩) (by decide))
  go_wp2_with fail
  refine (unhide HC4).mono ?_
  intro e w4 h4
  rcases hX4 : mustR ts ⟨#[61]⟩ (q3) with er | ⟨t4, q4⟩
  · rw [hX4] at h4
    obtain ⟨ei, en⟩ := er
    have hYe : Y = .error (ei, en) := by have h := unhide HY; rw [hX4] at h; exact h.symm
    subst hYe
    obtain ⟨hb4, h4⟩ := h4
    obtain rfl : e = _ := h4
    have HP := hide ((unhide HB).trans hb4)
    clear hb4 HC4 hX4
    go_wp2
    exact ⟨rfl, unhide HP, rfl⟩
  rw [hX4] at h4
  obtain ⟨hb4, hle4, hR4, v4, rfl, hv4⟩ := h4
  have hY4 := unhide HY
  rw [hX4] at hY4
  simp only [thenR] at hY4
  replace HY := hide hY4
  clear hY4
  obtain rfl : v4 = _ := hv4
  replace HB := hide ((unhide HB).trans hb4)
  replace HZ := hide ((unhide HZ).but hb4 hrne)
  replace HX1 := hide ((hb4.block _ (blk (unhide HX1)).1 (Ne.symm ne1)).trans (unhide HX1))
  replace HS := hide (Nat.lt_of_lt_of_le (unhide HS) hb4.size)
  replace HR := hide hR4
  replace HL := hide (And.intro (Nat.le_trans (unhide HL).1 hle4) (Nat.le_trans (unhide HL).2 hle4))
  clear hb4 hle4 hR4 HC4 hX4
  have HC5 := hide (unhide hE w4 (q4) (unhide HL).2 (unhide HR))
  go_wp2_with fail
  refine (unhide HC5).mono ?_
  intro e w5 h5
  rcases hX5 : g .rE d (q4) with er | ⟨t5, q5⟩
  · rw [hX5] at h5
    obtain ⟨ei, en⟩ := er
    have hYe : Y = .error (ei, en) := by have h := unhide HY; rw [hX5] at h; exact h.symm
    subst hYe
    obtain ⟨hb5, h5⟩ := h5
    obtain rfl : e = _ := h5
    have HP := hide ((unhide HB).trans hb5)
    clear hb5 HC5 hX5
    go_wp2
    exact ⟨rfl, unhide HP, rfl⟩
  rw [hX5] at h5
  obtain ⟨hb5, hle5, hR5, v5, rfl, hv5⟩ := h5
  have hY5 := unhide HY
  rw [hX5] at hY5
  simp only [thenR] at hY5
  replace HY := hide hY5
  clear hY5
  obtain ⟨i5, j5, s5, m5, b5, a5, n5, c5, rfl⟩ := hv5.form
  have HT5 := hide (hv5.keep (lo' := w.heap.size + 1) (Stays.of (Below.refl _ _)) (unhide HS))
  replace HB := hide ((unhide HB).trans hb5)
  replace HZ := hide ((unhide HZ).but hb5 hrne)
  replace HX1 := hide ((hb5.block _ (blk (unhide HX1)).1 (Ne.symm ne1)).trans (unhide HX1))
  replace HS := hide (Nat.lt_of_lt_of_le (unhide HS) hb5.size)
  replace HR := hide hR5
  replace HL := hide (And.intro (Nat.le_trans (unhide HL).1 hle5) (Nat.le_trans (unhide HL).2 hle5))
  clear hb5 hle5 hR5 hv5 HC5 hX5
  obtain ⟨B6, eB6, hbB6, hsB6, hhB6⟩ := box_new w5 #[.int .i64 i5, .string s5, .string m5, .bool b5, .slice a5 n5 c5, .int .i64 0, .int .i64 j5] 36
  have ne6 : r ≠ w5.heap.size := by have := unhide HS; omega
  have hbu7 := But.of (r := r) hbB6
  replace HR := hide ((unhide HR).keep hbB6)
  replace HB := hide ((unhide HB).trans hbu7)
  replace HZ := hide ((unhide HZ).but hbu7 hrne)
  replace HX1 := hide ((hbu7.block _ (blk (unhide HX1)).1 (Ne.symm ne1)).trans (unhide HX1))
  replace HT5 := hide ((unhide HT5).keep (Stays.but hbu7 (Nat.lt_succ_of_lt hr)) (Nat.le_refl _))
  replace HS := hide (Nat.lt_of_lt_of_le (unhide HS) hbu7.size)
  have HX6 := hide hhB6
  have HEB6 := hide eB6
  have HSB6 := hide hsB6
  clear eB6 hbB6 hhB6 hsB6
  have HC8 := hide (must_any (unhide HR) (unhide HT) (s := ⟨#[105, 110]⟩) (by decide))
  go_wp2_with fail
  rw [unhide HEB6]
  refine (unhide HC8).mono ?_
  intro e w8 h8
  rcases hX8 : mustR ts ⟨#[105, 110]⟩ (q5) with er | ⟨t8, q8⟩
  · rw [hX8] at h8
    obtain ⟨ei, en⟩ := er
    have hYe : Y = .error (ei, en) := by have h := unhide HY; rw [hX8] at h; exact h.symm
    subst hYe
    obtain ⟨hb8, h8⟩ := h8
    obtain rfl : e = _ := h8
    have HP := hide ((unhide HB).trans hb8)
    clear hb8 HC8 hX8
    go_wp2
    exact ⟨rfl, unhide HP, rfl⟩
  rw [hX8] at h8
  obtain ⟨hb8, hle8, hR8, v8, rfl, hv8⟩ := h8
  have hY8 := unhide HY
  rw [hX8] at hY8
  simp only [thenR] at hY8
  replace HY := hide hY8
  clear hY8
  obtain rfl : v8 = _ := hv8
  replace HB := hide ((unhide HB).trans hb8)
  replace HZ := hide ((unhide HZ).but hb8 hrne)
  replace HX1 := hide ((hb8.block _ (blk (unhide HX1)).1 (Ne.symm ne1)).trans (unhide HX1))
  replace HX6 := hide ((hb8.block _ (blk (unhide HX6)).1 (Ne.symm ne6)).trans (unhide HX6))
  replace HT5 := hide ((unhide HT5).keep (Stays.but hb8 (Nat.lt_succ_of_lt hr)) (Nat.le_refl _))
  replace HS := hide (Nat.lt_of_lt_of_le (unhide HS) hb8.size)
  replace HR := hide hR8
  replace HL := hide (And.intro (Nat.le_trans (unhide HL).1 hle8) (Nat.le_trans (unhide HL).2 hle8))
  clear hb8 hle8 hR8 HC8 hX8
  have HC9 := hide (unhide hE w8 (q8) (unhide HL).2 (unhide HR))
  go_wp2_with fail
  refine (unhide HC9).mono ?_
  intro e w9 h9
  rcases hX9 : g .rE d (q8) with er | ⟨t9, q9⟩
  · rw [hX9] at h9
    obtain ⟨ei, en⟩ := er
    have hYe : Y = .error (ei, en) := by have h := unhide HY; rw [hX9] at h; exact h.symm
    subst hYe
    obtain ⟨hb9, h9⟩ := h9
    obtain rfl : e = _ := h9
    have HP := hide ((unhide HB).trans hb9)
    clear hb9 HC9 hX9
    go_wp2
    exact ⟨rfl, unhide HP, rfl⟩
  rw [hX9] at h9
  obtain ⟨hb9, hle9, hR9, v9, rfl, hv9⟩ := h9
  have hY9 := unhide HY
  rw [hX9] at hY9
  simp only [thenR] at hY9
  replace HY := hide hY9
  clear hY9
  obtain ⟨i9, j9, s9, m9, b9, a9, n9, c9, rfl⟩ := hv9.form
  have HT9 := hide (hv9.keep (lo' := w.heap.size + 1) (Stays.of (Below.refl _ _)) (unhide HS))
  replace HB := hide ((unhide HB).trans hb9)
  replace HZ := hide ((unhide HZ).but hb9 hrne)
  replace HX1 := hide ((hb9.block _ (blk (unhide HX1)).1 (Ne.symm ne1)).trans (unhide HX1))
  replace HX6 := hide ((hb9.block _ (blk (unhide HX6)).1 (Ne.symm ne6)).trans (unhide HX6))
  replace HT5 := hide ((unhide HT5).keep (Stays.but hb9 (Nat.lt_succ_of_lt hr)) (Nat.le_refl _))
  replace HS := hide (Nat.lt_of_lt_of_le (unhide HS) hb9.size)
  replace HR := hide hR9
  replace HL := hide (And.intro (Nat.le_trans (unhide HL).1 hle9) (Nat.le_trans (unhide HL).2 hle9))
  clear hb9 hle9 hR9 hv9 HC9 hX9
  obtain ⟨B10, eB10, hbB10, hsB10, hhB10⟩ := box_new w9 #[.int .i64 i9, .string s9, .string m9, .bool b9, .slice a9 n9 c9, .int .i64 0, .int .i64 j9] 36
  have ne10 : r ≠ w9.heap.size := by have := unhide HS; omega
  have hbu11 := But.of (r := r) hbB10
  replace HR := hide ((unhide HR).keep hbB10)
  replace HB := hide ((unhide HB).trans hbu11)
  replace HZ := hide ((unhide HZ).but hbu11 hrne)
  replace HX1 := hide ((hbu11.block _ (blk (unhide HX1)).1 (Ne.symm ne1)).trans (unhide HX1))
  replace HX6 := hide ((hbu11.block _ (blk (unhide HX6)).1 (Ne.symm ne6)).trans (unhide HX6))
  replace HT5 := hide ((unhide HT5).keep (Stays.but hbu11 (Nat.lt_succ_of_lt hr)) (Nat.le_refl _))
  replace HT9 := hide ((unhide HT9).keep (Stays.but hbu11 (Nat.lt_succ_of_lt hr)) (Nat.le_refl _))
  replace HS := hide (Nat.lt_of_lt_of_le (unhide HS) hbu11.size)
  have HX10 := hide hhB10
  have HEB10 := hide eB10
  have HSB10 := hide hsB10
  clear eB10 hbB10 hhB10 hsB10
  have u01 := (blk (unhide HX1)).2.1 0 _ rfl
  have u11 := (blk (unhide HX1)).2.1 1 _ rfl
  have u21 := (blk (unhide HX1)).2.1 2 _ rfl
  obtain ⟨y06, y16, y26, y36, y46, y56, y66⟩ := blk7 (unhide HX6)
  obtain ⟨y010, y110, y210, y310, y410, y510, y610⟩ := blk7 (unhide HX10)
  rw [← unhide HEB10] at u01 u11 u21 y06 y16 y26 y36 y46 y56 y66 y010 y110 y210 y310 y410 y510 y610
  go_wp2_with fail
  rw [unhide HEB10]
  clear u01 u11 u21 y06 y16 y26 y36 y46 y56 y66 y010 y110 y210 y310 y410 y510 y610
  refine (named_any _ _ _ _ _ _ _ _ _).mono ?_
  rintro e w12 ⟨rfl, hb12⟩
  obtain ⟨C12, eC12, hbC12, hsC12, hhC12⟩ := box_new B10 #[.int .i64 i5, .string s5, .string m5, .bool b5, .slice a5 n5 c5, .int .i64 0, .int .i64 j5, .int .i64 i9, .string s9, .string m9, .bool b9, .slice a9 n9 c9, .int .i64 0, .int .i64 j9] 36
  rw [eC12] at hb12
  have hnode := node (l := [t5, t9]) (vs := [[.int .i64 i5, .string s5, .string m5, .bool b5, .slice a5 n5 c5, .int .i64 0, .int .i64 j5], [.int .i64 i9, .string s9, .string m9, .bool b9, .slice a9 n9 c9, .int .i64 0, .int .i64 j9]]) 23 at0 T3 ⟨#[]⟩ false eC12 rfl (by simp) rfl (by simp) (unhide HS) (fun j v t hv ht => by
    rcases j with _ | _ | j
    · obtain rfl := Option.some.inj hv
      obtain rfl := Option.some.inj ht
      exact unhide HT5
    · obtain rfl := Option.some.inj hv
      obtain rfl := Option.some.inj ht
      exact unhide HT9
    · simp at hv)
  rw [unhide HSB10] at hnode
  have hbCb := hbC12.trans (hb12.mono hbC12.size)
  replace hnode := hnode.keep (Stays.of hb12) (Nat.le_refl _)
  have hbu13 := But.of (r := r) hbCb
  replace HR := hide ((unhide HR).keep hbCb)
  replace HB := hide ((unhide HB).trans hbu13)
  replace HZ := hide ((unhide HZ).but hbu13 hrne)
  replace HX1 := hide ((hbu13.block _ (blk (unhide HX1)).1 (Ne.symm ne1)).trans (unhide HX1))
  replace HX6 := hide ((hbu13.block _ (blk (unhide HX6)).1 (Ne.symm ne6)).trans (unhide HX6))
  replace HX10 := hide ((hbu13.block _ (blk (unhide HX10)).1 (Ne.symm ne10)).trans (unhide HX10))
  replace HS := hide (Nat.lt_of_lt_of_le (unhide HS) hbu13.size)
  obtain ⟨y0, y1, y2, y3, y4, y5, y6⟩ := blk7 (unhide HZ)
  obtain ⟨z0, z1, z2, z3, z4, z5, z6⟩ := frz7 (unhide HZ)
  have HNode := hide hnode
  go_wp2
  exact ret_put rfl rfl rfl (unhide HB) hr (unhide HZ) (by have h := unhide HY; rw [unhide HN0] at h; exact h.symm) (unhide HL).1 (unhide HR) (Nat.lt_succ_self _) (unhide HNode)
end Go.Proofs.YtfkfnbehdcmgeaaGreatDoor

namespace Go.Proofs.YtfkfnbehdcmgeaaGreatDoor
open Go Go.RowKit
set_option maxRecDepth 100000 in
set_option maxHeartbeats 8000000 in
theorem handler_of {r d lo : Nat} {ts : List (Int × ByteArray × Int)} {g : Ru → Nat → Nat → (Except (Int × Int) (Ex × Nat))} (hT : TsOk ts) (hE : RuC 59 r ts d (lo + 1) (g .rE d)) {w : World} {p : Nat} (hlo : lo ≤ p) (hp1 : p + 1 < ts.length) (hR : RD w r ts p d) : Calls Tryz.prog 97 #[.pointer (some ⟨r, 0, none⟩)] w (PE (tryR ts g d p) r ts p d w) := by
  obtain ⟨Y, hY⟩ : ∃ Y, tryR ts g d p = Y := ⟨_, rfl⟩
  rw [hY]
  unfold tryR at hY
  have hr := hR.rlt
  obtain ⟨A, eA, hbA, hzA, hsA⟩ := zb_new w
  have HB := hide (But.of (r := r) hbA)
  have HR := hide (hR.keep hbA)
  have HZ := hide hzA
  have HS : Hid (w.heap.size < A.heap.size) := by show _ < _; omega
  have HL : Hid (p ≤ p ∧ lo ≤ p) := ⟨Nat.le_refl _, hlo⟩
  have HE := hide eA
  have HT := hide hT
  have HY := hide hY
  have hrne : r ≠ w.heap.size := by omega
  have hmf : ∀ (fn : Fn) (first cap : Array Value) (w : World), (Instr.makeFunc fn first cap).run Tryz.prog w = .ok (.func fn first cap) w := fun _ _ _ _ => rfl
  replace hE := hide hE
  replace hp1 := hide hp1
  clear hlo hR hbA hzA hsA eA hT hY
  go_enter Tryz.func97, Tryz.ntmps97
  have HC0 := hide (take_any (unhide HR) (unhide HT) (unhide hp1))
  unfold tkV at HC0
  obtain ⟨⟨kk0, T0, at0⟩, hN0⟩ : ∃ X, nx ts p = X := ⟨_, rfl⟩
  rw [hN0] at HC0
  have HN0 := hide hN0
  clear hN0
  go_wp2_with fail
  rw [unhide HE]
  refine (unhide HC0).mono ?_
  rintro e w0 ⟨rfl, hb0, hR0⟩
  replace HB := hide ((unhide HB).trans hb0)
  replace HZ := hide ((unhide HZ).but hb0 hrne)
  replace HS := hide (Nat.lt_of_lt_of_le (unhide HS) hb0.size)
  replace HR := hide hR0
  replace HL : Hid (p ≤ p + 1 ∧ lo + 1 ≤ p + 1) := And.intro (Nat.le_succ_of_le (unhide HL).1) (Nat.succ_le_succ (unhide HL).2)
  clear hb0 hR0 HC0
  obtain ⟨B1, eB1, hbB1, hsB1, hhB1⟩ := box_new w0 #[.int .i64 kk0, .string T0, .int .i64 at0] 74
  have ne1 : r ≠ w0.heap.size := by have := unhide HS; omega
  have hbu2 := But.of (r := r) hbB1
  replace HR := hide ((unhide HR).keep hbB1)
  replace HB := hide ((unhide HB).trans hbu2)
  replace HZ := hide ((unhide HZ).but hbu2 hrne)
  replace HS := hide (Nat.lt_of_lt_of_le (unhide HS) hbu2.size)
  have HX1 := hide hhB1
  have HEB1 := hide eB1
  have HSB1 := hide hsB1
  clear eB1 hbB1 hhB1 hsB1
  have HC3 := hide (unhide hE B1 (p + 1) (unhide HL).2 (unhide HR))
  go_wp2_with fail
  rw [unhide HEB1]
  refine (unhide HC3).mono ?_
  intro e w3 h3
  rcases hX3 : g .rE d (p + 1) with er | ⟨t3, q3⟩
  · rw [hX3] at h3
    obtain ⟨ei, en⟩ := er
    have hYe : Y = .error (ei, en) := by have h := unhide HY; rw [hX3] at h; exact h.symm
    subst hYe
    obtain ⟨hb3, h3⟩ := h3
    obtain rfl : e = _ := h3
    have HP := hide ((unhide HB).trans hb3)
    clear hb3 HC3 hX3
    go_wp2
    exact ⟨rfl, unhide HP, rfl⟩
  rw [hX3] at h3
  obtain ⟨hb3, hle3, hR3, v3, rfl, hv3⟩ := h3
  have hY3 := unhide HY
  rw [hX3] at hY3
  simp only [thenR] at hY3
  replace HY := hide hY3
  clear hY3
  obtain ⟨i3, j3, s3, m3, b3, a3, n3, c3, rfl⟩ := hv3.form
  have HT3 := hide (hv3.keep (lo' := w.heap.size + 1) (Stays.of (Below.refl _ _)) (unhide HS))
  replace HB := hide ((unhide HB).trans hb3)
  replace HZ := hide ((unhide HZ).but hb3 hrne)
  replace HX1 := hide ((hb3.block _ (blk (unhide HX1)).1 (Ne.symm ne1)).trans (unhide HX1))
  replace HS := hide (Nat.lt_of_lt_of_le (unhide HS) hb3.size)
  replace HR := hide hR3
  replace HL := hide (And.intro (Nat.le_trans (unhide HL).1 hle3) (Nat.le_trans (unhide HL).2 hle3))
  clear hb3 hle3 hR3 hv3 HC3 hX3
  obtain ⟨B4, eB4, hbB4, hsB4, hhB4⟩ := box_new w3 #[.int .i64 i3, .string s3, .string m3, .bool b3, .slice a3 n3 c3, .int .i64 0, .int .i64 j3] 36
  have ne4 : r ≠ w3.heap.size := by have := unhide HS; omega
  have hbu5 := But.of (r := r) hbB4
  replace HR := hide ((unhide HR).keep hbB4)
  replace HB := hide ((unhide HB).trans hbu5)
  replace HZ := hide ((unhide HZ).but hbu5 hrne)
  replace HX1 := hide ((hbu5.block _ (blk (unhide HX1)).1 (Ne.symm ne1)).trans (unhide HX1))
  replace HT3 := hide ((unhide HT3).keep (Stays.but hbu5 (Nat.lt_succ_of_lt hr)) (Nat.le_refl _))
  replace HS := hide (Nat.lt_of_lt_of_le (unhide HS) hbu5.size)
  have HX4 := hide hhB4
  have HEB4 := hide eB4
  have HSB4 := hide hsB4
  clear eB4 hbB4 hhB4 hsB4
  have HC6 := hide (must_any (unhide HR) (unhide HT) (s := ⟨#[119, 105, 116, 104]⟩) (by decide))
  go_wp2_with fail
  rw [unhide HEB4]
  refine (unhide HC6).mono ?_
  intro e w6 h6
  rcases hX6 : mustR ts ⟨#[119, 105, 116, 104]⟩ (q3) with er | ⟨t6, q6⟩
  · rw [hX6] at h6
    obtain ⟨ei, en⟩ := er
    have hYe : Y = .error (ei, en) := by have h := unhide HY; rw [hX6] at h; exact h.symm
    subst hYe
    obtain ⟨hb6, h6⟩ := h6
    obtain rfl : e = _ := h6
    have HP := hide ((unhide HB).trans hb6)
    clear hb6 HC6 hX6
    go_wp2
    exact ⟨rfl, unhide HP, rfl⟩
  rw [hX6] at h6
  obtain ⟨hb6, hle6, hR6, v6, rfl, hv6⟩ := h6
  have hY6 := unhide HY
  rw [hX6] at hY6
  simp only [thenR] at hY6
  replace HY := hide hY6
  clear hY6
  obtain rfl : v6 = _ := hv6
  replace HB := hide ((unhide HB).trans hb6)
  replace HZ := hide ((unhide HZ).but hb6 hrne)
  replace HX1 := hide ((hb6.block _ (blk (unhide HX1)).1 (Ne.symm ne1)).trans (unhide HX1))
  replace HX4 := hide ((hb6.block _ (blk (unhide HX4)).1 (Ne.symm ne4)).trans (unhide HX4))
  replace HT3 := hide ((unhide HT3).keep (Stays.but hb6 (Nat.lt_succ_of_lt hr)) (Nat.le_refl _))
  replace HS := hide (Nat.lt_of_lt_of_le (unhide HS) hb6.size)
  replace HR := hide hR6
  replace HL := hide (And.intro (Nat.le_trans (unhide HL).1 hle6) (Nat.le_trans (unhide HL).2 hle6))
  clear hb6 hle6 hR6 HC6 hX6
  have HC7 := hide (mustBe_any (unhide HR) (unhide HT) (k := 1) (by decide))
  go_wp2_with fail
  refine (unhide HC7).mono ?_
  intro e w7 h7
  rcases hX7 : mustBeR ts 1 (q6) with er | ⟨t7, q7⟩
  · rw [hX7] at h7
    obtain ⟨ei, en⟩ := er
    have hYe : Y = .error (ei, en) := by have h := unhide HY; rw [hX7] at h; exact h.symm
    subst hYe
    obtain ⟨hb7, h7⟩ := h7
    obtain rfl : e = _ := h7
    have HP := hide ((unhide HB).trans hb7)
    clear hb7 HC7 hX7
    go_wp2
    exact ⟨rfl, unhide HP, rfl⟩
  rw [hX7] at h7
  obtain ⟨hb7, hle7, hR7, v7, rfl, hv7⟩ := h7
  have hY7 := unhide HY
  rw [hX7] at hY7
  simp only [thenR] at hY7
  replace HY := hide hY7
  clear hY7
  obtain ⟨kk7, T7, at7⟩ := t7
  obtain rfl : v7 = _ := hv7
  have hf07 := fld0 (.int .i64 kk7) (.string T7) (.int .i64 at7)
  have hf17 := fld1 (.int .i64 kk7) (.string T7) (.int .i64 at7)
  unfold tkV
  replace HB := hide ((unhide HB).trans hb7)
  replace HZ := hide ((unhide HZ).but hb7 hrne)
  replace HX1 := hide ((hb7.block _ (blk (unhide HX1)).1 (Ne.symm ne1)).trans (unhide HX1))
  replace HX4 := hide ((hb7.block _ (blk (unhide HX4)).1 (Ne.symm ne4)).trans (unhide HX4))
  replace HT3 := hide ((unhide HT3).keep (Stays.but hb7 (Nat.lt_succ_of_lt hr)) (Nat.le_refl _))
  replace HS := hide (Nat.lt_of_lt_of_le (unhide HS) hb7.size)
  replace HR := hide hR7
  replace HL := hide (And.intro (Nat.le_trans (unhide HL).1 hle7) (Nat.le_trans (unhide HL).2 hle7))
  clear hb7 hle7 hR7 HC7 hX7
  have HC8 := hide (must_any (unhide HR) (unhide HT) (s := ⟨#[45, 62]⟩) (by decide))
  go_wp2_with fail
  refine (unhide HC8).mono ?_
  intro e w8 h8
  rcases hX8 : mustR ts ⟨#[45, 62]⟩ (q7) with er | ⟨t8, q8⟩
  · rw [hX8] at h8
    obtain ⟨ei, en⟩ := er
    have hYe : Y = .error (ei, en) := by have h := unhide HY; rw [hX8] at h; exact h.symm
    subst hYe
    obtain ⟨hb8, h8⟩ := h8
    obtain rfl : e = _ := h8
    have HP := hide ((unhide HB).trans hb8)
    clear hb8 HC8 hX8
    go_wp2
    exact ⟨rfl, unhide HP, rfl⟩
  rw [hX8] at h8
  obtain ⟨hb8, hle8, hR8, v8, rfl, hv8⟩ := h8
  have hY8 := unhide HY
  rw [hX8] at hY8
  simp only [thenR] at hY8
  replace HY := hide hY8
  clear hY8
  obtain rfl : v8 = _ := hv8
  replace HB := hide ((unhide HB).trans hb8)
  replace HZ := hide ((unhide HZ).but hb8 hrne)
  replace HX1 := hide ((hb8.block _ (blk (unhide HX1)).1 (Ne.symm ne1)).trans (unhide HX1))
  replace HX4 := hide ((hb8.block _ (blk (unhide HX4)).1 (Ne.symm ne4)).trans (unhide HX4))
  replace HT3 := hide ((unhide HT3).keep (Stays.but hb8 (Nat.lt_succ_of_lt hr)) (Nat.le_refl _))
  replace HS := hide (Nat.lt_of_lt_of_le (unhide HS) hb8.size)
  replace HR := hide hR8
  replace HL := hide (And.intro (Nat.le_trans (unhide HL).1 hle8) (Nat.le_trans (unhide HL).2 hle8))
  clear hb8 hle8 hR8 HC8 hX8
  have HC9 := hide (unhide hE w8 (q8) (unhide HL).2 (unhide HR))
  go_wp2_with fail
  refine (unhide HC9).mono ?_
  intro e w9 h9
  rcases hX9 : g .rE d (q8) with er | ⟨t9, q9⟩
  · rw [hX9] at h9
    obtain ⟨ei, en⟩ := er
    have hYe : Y = .error (ei, en) := by have h := unhide HY; rw [hX9] at h; exact h.symm
    subst hYe
    obtain ⟨hb9, h9⟩ := h9
    obtain rfl : e = _ := h9
    have HP := hide ((unhide HB).trans hb9)
    clear hb9 HC9 hX9
    go_wp2
    exact ⟨rfl, unhide HP, rfl⟩
  rw [hX9] at h9
  obtain ⟨hb9, hle9, hR9, v9, rfl, hv9⟩ := h9
  have hY9 := unhide HY
  rw [hX9] at hY9
  simp only [thenR] at hY9
  replace HY := hide hY9
  clear hY9
  obtain ⟨i9, j9, s9, m9, b9, a9, n9, c9, rfl⟩ := hv9.form
  have HT9 := hide (hv9.keep (lo' := w.heap.size + 1) (Stays.of (Below.refl _ _)) (unhide HS))
  replace HB := hide ((unhide HB).trans hb9)
  replace HZ := hide ((unhide HZ).but hb9 hrne)
  replace HX1 := hide ((hb9.block _ (blk (unhide HX1)).1 (Ne.symm ne1)).trans (unhide HX1))
  replace HX4 := hide ((hb9.block _ (blk (unhide HX4)).1 (Ne.symm ne4)).trans (unhide HX4))
  replace HT3 := hide ((unhide HT3).keep (Stays.but hb9 (Nat.lt_succ_of_lt hr)) (Nat.le_refl _))
  replace HS := hide (Nat.lt_of_lt_of_le (unhide HS) hb9.size)
  replace HR := hide hR9
  replace HL := hide (And.intro (Nat.le_trans (unhide HL).1 hle9) (Nat.le_trans (unhide HL).2 hle9))
  clear hb9 hle9 hR9 hv9 HC9 hX9
  obtain ⟨B10, eB10, hbB10, hsB10, hhB10⟩ := box_new w9 #[.int .i64 i9, .string s9, .string m9, .bool b9, .slice a9 n9 c9, .int .i64 0, .int .i64 j9] 36
  have ne10 : r ≠ w9.heap.size := by have := unhide HS; omega
  have hbu11 := But.of (r := r) hbB10
  replace HR := hide ((unhide HR).keep hbB10)
  replace HB := hide ((unhide HB).trans hbu11)
  replace HZ := hide ((unhide HZ).but hbu11 hrne)
  replace HX1 := hide ((hbu11.block _ (blk (unhide HX1)).1 (Ne.symm ne1)).trans (unhide HX1))
  replace HX4 := hide ((hbu11.block _ (blk (unhide HX4)).1 (Ne.symm ne4)).trans (unhide HX4))
  replace HT3 := hide ((unhide HT3).keep (Stays.but hbu11 (Nat.lt_succ_of_lt hr)) (Nat.le_refl _))
  replace HT9 := hide ((unhide HT9).keep (Stays.but hbu11 (Nat.lt_succ_of_lt hr)) (Nat.le_refl _))
  replace HS := hide (Nat.lt_of_lt_of_le (unhide HS) hbu11.size)
  have HX10 := hide hhB10
  have HEB10 := hide eB10
  have HSB10 := hide hsB10
  clear eB10 hbB10 hhB10 hsB10
  have u01 := (blk (unhide HX1)).2.1 0 _ rfl
  have u11 := (blk (unhide HX1)).2.1 1 _ rfl
  have u21 := (blk (unhide HX1)).2.1 2 _ rfl
  obtain ⟨y04, y14, y24, y34, y44, y54, y64⟩ := blk7 (unhide HX4)
  obtain ⟨y010, y110, y210, y310, y410, y510, y610⟩ := blk7 (unhide HX10)
  rw [← unhide HEB10] at u01 u11 u21 y04 y14 y24 y34 y44 y54 y64 y010 y110 y210 y310 y410 y510 y610
  go_wp2_with fail
  rw [unhide HEB10]
  clear u01 u11 u21 y04 y14 y24 y34 y44 y54 y64 y010 y110 y210 y310 y410 y510 y610
  refine (named_any _ _ _ _ _ _ _ _ _).mono ?_
  rintro e w12 ⟨rfl, hb12⟩
  obtain ⟨C12, eC12, hbC12, hsC12, hhC12⟩ := box_new B10 #[.int .i64 i3, .string s3, .string m3, .bool b3, .slice a3 n3 c3, .int .i64 0, .int .i64 j3, .int .i64 i9, .string s9, .string m9, .bool b9, .slice a9 n9 c9, .int .i64 0, .int .i64 j9] 36
  rw [eC12] at hb12
  have hnode := node (l := [t3, t9]) (vs := [[.int .i64 i3, .string s3, .string m3, .bool b3, .slice a3 n3 c3, .int .i64 0, .int .i64 j3], [.int .i64 i9, .string s9, .string m9, .bool b9, .slice a9 n9 c9, .int .i64 0, .int .i64 j9]]) 27 at0 T7 ⟨#[]⟩ false eC12 rfl (by simp) rfl (by simp) (unhide HS) (fun j v t hv ht => by
    rcases j with _ | _ | j
    · obtain rfl := Option.some.inj hv
      obtain rfl := Option.some.inj ht
      exact unhide HT3
    · obtain rfl := Option.some.inj hv
      obtain rfl := Option.some.inj ht
      exact unhide HT9
    · simp at hv)
  rw [unhide HSB10] at hnode
  have hbCb := hbC12.trans (hb12.mono hbC12.size)
  replace hnode := hnode.keep (Stays.of hb12) (Nat.le_refl _)
  have hbu13 := But.of (r := r) hbCb
  replace HR := hide ((unhide HR).keep hbCb)
  replace HB := hide ((unhide HB).trans hbu13)
  replace HZ := hide ((unhide HZ).but hbu13 hrne)
  replace HX1 := hide ((hbu13.block _ (blk (unhide HX1)).1 (Ne.symm ne1)).trans (unhide HX1))
  replace HX4 := hide ((hbu13.block _ (blk (unhide HX4)).1 (Ne.symm ne4)).trans (unhide HX4))
  replace HX10 := hide ((hbu13.block _ (blk (unhide HX10)).1 (Ne.symm ne10)).trans (unhide HX10))
  replace HS := hide (Nat.lt_of_lt_of_le (unhide HS) hbu13.size)
  obtain ⟨y0, y1, y2, y3, y4, y5, y6⟩ := blk7 (unhide HZ)
  obtain ⟨z0, z1, z2, z3, z4, z5, z6⟩ := frz7 (unhide HZ)
  have HNode := hide hnode
  go_wp2
  exact ret_put rfl rfl rfl (unhide HB) hr (unhide HZ) (by have h := unhide HY; rw [unhide HN0] at h; exact h.symm) (unhide HL).1 (unhide HR) (Nat.lt_succ_self _) (unhide HNode)
end Go.Proofs.YtfkfnbehdcmgeaaGreatDoor
