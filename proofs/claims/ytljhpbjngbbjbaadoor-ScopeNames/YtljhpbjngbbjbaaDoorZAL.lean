/- The document's parser: primary. -/
import Derived.Test.YtljhpbjngbbjbaaDoorZAK
import Derived.Test.YtljhpbjngbbjbaaDoorZAC
set_option linter.unusedVariables false
set_option linter.unusedSimpArgs false

/- The document's parser: while operands are read. -/
namespace Go.Proofs.YtljhpbjngbbjbaaDoor
open Go Go.RowKit
/-- While a call's operands are read. -/
structure AI (w : World) (r : Nat) (T : ByteArray) (ai : Int) (xq aq : Nat) (v : Value) (l : List Ex) (vs : List (List Value)) (V : World) : Prop where
  but : But r w V
  z : ZB V w.heap.size
  xb : V.heap[xq]? = some (.cells #[.int .i64 21, .string T, .string ⟨#[]⟩, .bool false, v, .int .i64 0, .int .i64 ai] 51)
  ab : ∃ y0 y1 y2 y3 y4 y5 y6, V.heap[aq]? = some (.cells #[y0, y1, y2, y3, y4, y5, y6] 51)
  ord : r < w.heap.size ∧ w.heap.size < xq ∧ xq < aq
  own : V.ownsRow (aq + 1) 51 7 v l.length vs.flatten
  len : vs.length = l.length
  seven : ∀ x ∈ vs, x.length = 7
  tr : ∀ (j : Nat) x t, vs[j]? = some x → l[j]? = some t → IsEP V (fun b => w.heap.size + 1 ≤ b ∧ b ≠ xq ∧ b ≠ aq ∧ v.ownBlock ≠ some b) (.agg x.toArray) t
theorem AI.grow {w V V' : World} {r xq aq : Nat} {T : ByteArray} {ai : Int} {v : Value} {l : List Ex} {vs : List (List Value)} (h : AI w r T ai xq aq v l vs V) (hb : Below V.heap.size V V') : AI w r T ai xq aq v l vs V' := by
  refine ⟨h.but.trans (But.of hb), (hb.block _ (blk h.z).1).trans h.z, (hb.block _ (blk h.xb).1).trans h.xb, ?_, h.ord, own_same h.own hb, h.len, h.seven, fun j x t hx ht => (h.tr j x t hx ht).keep ⟨hb.size, fun k _ hk => hb.block k hk⟩ fun _ h => h⟩
  obtain ⟨y0, y1, y2, y3, y4, y5, y6, hy⟩ := h.ab
  exact ⟨y0, y1, y2, y3, y4, y5, y6, (hb.block _ (blk hy).1).trans hy⟩
theorem AI.but' {w V V' : World} {r xq aq : Nat} {T : ByteArray} {ai : Int} {v : Value} {l : List Ex} {vs : List (List Value)} (h : AI w r T ai xq aq v l vs V) (hb : But r V V') : AI w r T ai xq aq v l vs V' := by
  have ho := h.ord
  refine ⟨h.but.trans hb, (hb.block _ (blk h.z).1 (by omega)).trans h.z, (hb.block _ (blk h.xb).1 (by omega)).trans h.xb, ?_, h.ord, ?_, h.len, h.seven, fun j x t hx ht => (h.tr j x t hx ht).keep ⟨hb.size, fun k hk hs => hb.block k hs (by omega)⟩ fun _ h => h⟩
  · obtain ⟨y0, y1, y2, y3, y4, y5, y6, hy⟩ := h.ab
    exact ⟨y0, y1, y2, y3, y4, y5, y6, (hb.block _ (blk hy).1 (by omega)).trans hy⟩
  · obtain ⟨h1, h2 | ⟨g, cap, cur, e, hB, hc, hr⟩⟩ := h.own
    · exact ⟨h1, .inl h2⟩
    · exact ⟨h1, .inr ⟨g, cap, cur, e, hB, (hb.block _ (blk hc).1 (by omega)).trans hc, hr⟩⟩
theorem argsD_no {ts : List (Int × ByteArray × Int)} {g : Ru → PS → Ex × PS} {n : Nat} {l : List Ex} {S : PS} (h : isD ts ⟨#[44]⟩ S = false) : argsD ts g 8 (n + 1) l S = (l, mustD ts ⟨#[41]⟩ S) := by
  rw [argsD, h]
  rfl
theorem argsD_many {ts : List (Int × ByteArray × Int)} {g : Ru → PS → Ex × PS} {n : Nat} {l : List Ex} {S : PS} (h : isD ts ⟨#[44]⟩ S = true) (hl : l.length = 8) : argsD ts g 8 (n + 1) l S = (l, S.fail (tD ts S).2.2 152) := by
  rw [argsD, h, if_pos rfl, if_pos hl]
theorem argsD_yes {ts : List (Int × ByteArray × Int)} {g : Ru → PS → Ex × PS} {n : Nat} {l : List Ex} {S : PS} (h : isD ts ⟨#[44]⟩ S = true) (hl : l.length ≠ 8) : argsD ts g 8 (n + 1) l S = argsD ts g 8 n (l ++ [(g .rE (stepD ts S)).1]) (g .rE (stepD ts S)).2 := by
  rw [argsD, h, if_pos rfl, if_neg hl]
def lenOf (v : Option Value) : Nat := match v with
  | some (.slice _ n _) => n
  | _ => 0
theorem AI.ls {w V : World} {r xq aq : Nat} {T : ByteArray} {ai : Int} {v : Value} {l : List Ex} {vs : List (List Value)} (h : AI w r T ai xq aq v l vs V) (h0 : 0 < l.length) (hn : l.length ≤ 1000000) : IsLs V (w.heap.size + 1) v l := by
  obtain ⟨g, cap, rfl, hg1, hg2⟩ := h.own.form h0
  have hc := h.own.cells (g := g) rfl
  obtain ⟨k, hk⟩ := all_high (W := V) (P := fun b => w.heap.size + 1 ≤ b) (b := g) l 0 fun j t ht => by
    obtain ⟨x, hx⟩ : ∃ x, vs[j]? = some x := ⟨_, List.getElem?_eq_getElem (by rw [h.len]; exact (List.getElem?_eq_some_iff.1 ht).1)⟩
    refine ((h.tr j x t hx ht).keep (P' := fun b => w.heap.size + 1 ≤ b) ⟨Nat.le_refl _, fun _ _ _ => rfl⟩ fun b hb => hb.1).at ⟨Nat.le_refl _, fun _ _ _ => rfl⟩ fun m u hu => ?_
    have := hc (j * 7 + m) u (flat_at vs j x h.seven hx m u hu)
    rw [Nat.zero_add]
    rw [addr0] at this
    exact this
  have hcap : l.length ≤ cap := by
    obtain ⟨-, h1 | ⟨g', c', cur, e, -, -, h2, -⟩⟩ := h.own
    · exact absurd h1.2 (by omega)
    · obtain ⟨-, rfl⟩ : g = g' ∧ cap = c' := by simpa using e
      exact h2
  have := h.ord
  exact ⟨k, _, _, rfl, hcap, by omega, fun _ => ⟨g, 0, rfl, by omega, hg2, fun j _ t ht => hk j t ht⟩⟩
/-- One operand more: what was read is put into the box, then into the row. -/
theorem AI.more {w V9 w7 V8 wa : World} {r xq aq m c cap gq : Nat} {T : ByteArray} {ai : Int} {a : Option Addr} {l : List Ex} {vs : List (List Value)} {t7 : Ex} {x0 x1 x2 x3 x4 x5 x6 : Value} {o : Obj} {P7 : Nat → Prop}
    (h : AI w r T ai xq aq (.slice a m c) l vs V9) (hb7 : But r V9 w7) (hv7 : IsEP w7 P7 (.agg #[x0, x1, x2, x3, x4, x5, x6]) t7) (hP7 : ∀ b, b < w7.heap.size → P7 b → w.heap.size + 1 ≤ b ∧ b ≠ xq ∧ b ≠ aq ∧ (Value.slice a m c).ownBlock ≠ some b)
    (hbq : But aq w7 V8) (hs8 : V8.heap.size = w7.heap.size) (ha8 : V8.heap[aq]? = some (.cells #[x0, x1, x2, x3, x4, x5, x6] 51)) (hoa : wa.ownsRow (aq + 1) 51 7 (.slice (some ⟨gq, 0, none⟩) (l.length + 1) cap) (l.length + 1) (vs.flatten ++ [x0, x1, x2, x3, x4, x5, x6])) (hga : (V8.alloc o).grownBy wa (Value.slice a m c).ownBlock) (hwa : (Value.slice a m c).ownBlock = some gq ∨ gq = V8.heap.size + 1) :
    AI w r T ai xq aq (.slice (some ⟨gq, 0, none⟩) (l.length + 1) cap) (l ++ [t7]) (vs ++ [[x0, x1, x2, x3, x4, x5, x6]]) (wa.setCell ⟨xq, 4, none⟩ (.slice (some ⟨gq, 0, none⟩) (l.length + 1) cap)) ∧ wa.heap[xq]? = some (.cells #[.int .i64 21, .string T, .string ⟨#[]⟩, .bool false, .slice a m c, .int .i64 0, .int .i64 ai] 51) ∧ (∀ k, k < w.heap.size → (wa.setCell ⟨xq, 4, none⟩ (.slice (some ⟨gq, 0, none⟩) (l.length + 1) cap)).heap[k]? = w7.heap[k]?) := by
  have ho := h.ord
  have hs97 := hb7.size
  have h8 : ∀ k, k < w7.heap.size → k ≠ aq → V8.heap[k]? = w7.heap[k]? := fun k hk hka => hbq.block k hk hka
  have hlt9 := h.own.lt
  have hsa : w7.heap.size ≤ wa.heap.size := by have := hga.size; simp at this; omega
  have hblk : ∀ k, k < w7.heap.size → k ≠ aq → (Value.slice a m c).ownBlock ≠ some k → wa.heap[k]? = w7.heap[k]? := fun k hk hka hne => by
    rw [hga.block k (by simp; omega) (fun e => hne e.symm)]
    exact (((Below.refl _ V8).alloc (Nat.le_refl _) _).block k (by omega)).trans (h8 k hk hka)
  have hown : ∀ k, k ≤ aq → (Value.slice a m c).ownBlock ≠ some k := fun k hk e => by have := (hlt9 k e).1; omega
  have hz9 := (blk h.z).1
  have hx9 := (blk h.xb).1
  obtain ⟨y0, y1, y2, y3, y4, y5, y6, hy⟩ := h.ab
  have ha9 := (blk hy).1
  have hx7 := (hb7.block _ hx9 (by omega)).trans h.xb
  have ha7 := (hb7.block _ ha9 (by omega)).trans hy
  have hxa := (hblk xq (by omega) (by omega) (hown xq (by omega))).trans hx7
  have haa : wa.heap[aq]? = some (.cells #[x0, x1, x2, x3, x4, x5, x6] 51) := by
    rw [hga.block aq (by simp; omega) (fun e => hown aq (Nat.le_refl _) e.symm)]
    exact (((Below.refl _ V8).alloc (Nat.le_refl _) _).block aq (by omega)).trans ha8
  have hset : ∀ k, k ≠ xq → (wa.setCell ⟨xq, 4, none⟩ (.slice (some ⟨gq, 0, none⟩) (l.length + 1) cap)).heap[k]? = wa.heap[k]? := fun k hk => Below.heap_setCell wa ⟨xq, 4, none⟩ _ k hk
  have hbw7 := h.but.trans hb7
  have hos8 : V8.os = w7.os ∧ V8.tape = w7.tape ∧ V8.output = w7.output := ⟨hbq.os, hbq.tape, hbq.output⟩
  have hbwa : But r w wa := ⟨hga.os.trans (hos8.1.trans hbw7.os), hga.tape.trans (hos8.2.1.trans hbw7.tape), hga.output.trans (hos8.2.2.trans hbw7.output), Nat.le_trans hbw7.size hsa, fun k hk hne => (hblk k (Nat.lt_of_lt_of_le hk hbw7.size) (by omega) (hown k (by omega))).trans (hbw7.block k hk hne)⟩
  have hgne : ∀ b, b < w7.heap.size → (Value.slice a m c).ownBlock ≠ some b → (Value.slice (some ⟨gq, 0, none⟩) (l.length + 1) cap).ownBlock ≠ some b := fun b hb hne e => by
    have e2 : gq = b := by simpa [Value.ownBlock] using e
    rcases hwa with hw | hw
    · exact hne (by rw [hw, e2])
    · omega
  have hgq : gq ≠ xq := by
    rcases hwa with hw | hw
    · exact fun e => hown xq (by omega) (by rw [hw, e])
    · omega
  refine ⟨⟨but_new hbwa (by omega) _ _, ?_, set_block hxa _, ⟨x0, x1, x2, x3, x4, x5, x6, (hset aq (by omega)).trans haa⟩, ho, ?_, by simp [h.len], ?_, ?_⟩, hxa, fun k hk => (hset k (by omega)).trans (hblk k (by omega) (by omega) (hown k (by omega)))⟩
  · exact (hset _ (by omega)).trans ((hblk _ (by omega) (by omega) (hown _ (by omega))).trans ((hb7.block _ hz9 (by omega)).trans h.z))
  · have h2 := ownsRow_setCell_below hoa (a := ⟨xq, 4, none⟩) (by show xq < aq + 1; omega) (.slice (some ⟨gq, 0, none⟩) (l.length + 1) cap)
    simpa using h2
  · intro x hx
    rcases List.mem_append.1 hx with hx | hx
    · exact h.seven x hx
    · obtain rfl := List.mem_singleton.1 hx
      rfl
  · intro j x t' hx ht
    have hst : ∀ (P : Nat → Prop), (∀ b, P b → b ≠ xq) → StaysP P wa (wa.setCell ⟨xq, 4, none⟩ (.slice (some ⟨gq, 0, none⟩) (l.length + 1) cap)) := fun P hP => ⟨by simp, fun k hk _ => hset k (hP k hk)⟩
    rcases Nat.lt_or_ge j l.length with hj | hj
    · rw [List.getElem?_append_left (by rw [h.len]; exact hj)] at hx
      rw [List.getElem?_append_left hj] at ht
      have k1 := (h.tr j x t' hx ht).bnd
      have k2 := k1.keep (w' := w7) (P' := fun b => (w.heap.size + 1 ≤ b ∧ b ≠ xq ∧ b ≠ aq ∧ (Value.slice a m c).ownBlock ≠ some b) ∧ b < w7.heap.size) ⟨hs97, fun k hk hs => hb7.block k hs (by omega)⟩ fun b hb => ⟨hb.1, by omega⟩
      have k3 := k2.keep (w' := wa) (P' := fun b => w.heap.size + 1 ≤ b ∧ b ≠ xq ∧ b ≠ aq ∧ (Value.slice (some ⟨gq, 0, none⟩) (l.length + 1) cap).ownBlock ≠ some b) ⟨hsa, fun k hk hs => hblk k hs hk.1.2.2.1 hk.1.2.2.2⟩ fun b hb => ⟨hb.1.1, hb.1.2.1, hb.1.2.2.1, hgne b hb.2 hb.1.2.2.2⟩
      exact k3.keep (hst _ fun b hb => hb.2.1) fun _ h => h
    · have hjl : j = l.length := by
        have := (List.getElem?_eq_some_iff.1 ht).1
        simp at this
        omega
      subst hjl
      rw [List.getElem?_append_right (by rw [h.len]; exact Nat.le_refl _), h.len, Nat.sub_self] at hx
      rw [List.getElem?_append_right (Nat.le_refl _), Nat.sub_self] at ht
      obtain rfl := Option.some.inj hx
      obtain rfl := Option.some.inj ht
      have k3 := (IsEP.bnd hv7).keep (w' := wa) (P' := fun b => w.heap.size + 1 ≤ b ∧ b ≠ xq ∧ b ≠ aq ∧ (Value.slice (some ⟨gq, 0, none⟩) (l.length + 1) cap).ownBlock ≠ some b) ⟨hsa, fun k hk hs => hblk k hs (hP7 k hk.2 hk.1).2.2.1 (hP7 k hk.2 hk.1).2.2.2⟩ fun b hb => ⟨(hP7 b hb.2 hb.1).1, (hP7 b hb.2 hb.1).2.1, (hP7 b hb.2 hb.1).2.2.1, hgne b hb.2 (hP7 b hb.2 hb.1).2.2.2⟩
      exact k3.keep (hst _ fun b hb => hb.2.1) fun _ h => h
end Go.Proofs.YtljhpbjngbbjbaaDoor

namespace Go.Proofs.YtljhpbjngbbjbaaDoor
open Go Go.RowKit
set_option maxRecDepth 100000 in
set_option maxHeartbeats 8000000 in
theorem dprim_of {r d : Nat} {ts : List (Int × ByteArray × Int)} {g : Ru → PS → Ex × PS} (hT : TsOk ts) (hE : DcC 54 r ts d (g .rE)) : DcC 82 r ts d (primD ts g) := by
  intro w st hR
  obtain ⟨Y, hY⟩ : ∃ Y, primD ts g st = Y := ⟨_, rfl⟩
  show Calls _ _ _ _ (DE (primD ts g st) r ts d w)
  rw [hY]
  unfold primD at hY
  have hr := hR.rlt
  obtain ⟨A, eA, hbA, hzA, hsA⟩ := zb_new w
  have HB := hide (But.of (r := r) hbA)
  have HR := hide (hR.keep hbA)
  have HZ := hide hzA
  have HS : Hid (w.heap.size < A.heap.size) := by show _ < _; omega
  have HE := hide eA
  have HT := hide hT
  have HY := hide hY
  have hrne : r ≠ w.heap.size := by omega
  replace hE := hide hE
  clear hR hbA hzA hsA eA hT hY
  go_enter Tryd.func82, Tryd.ntmps82
  generalize hQQ : bodyPost Tryd.prog Tryd.f82 (DE Y r ts d w) = QQ
  have HQQ := hide hQQ
  clear hQQ
  have HC0 := hide (dt_any (unhide HR) (unhide HT))
  unfold tkV at HC0
  obtain ⟨⟨kk0, T0, at0⟩, hN0⟩ : ∃ X, tD ts (st) = X := ⟨_, rfl⟩
  rw [hN0] at HC0
  have HN0 := hide hN0
  have hf20 := fld2 (.int .i64 kk0) (.string T0) (.int .i64 at0)
  clear hN0
  go_wp2_with fail
  rw [unhide HE]
  refine (unhide HC0).mono ?_
  rintro e w0 ⟨rfl, hb0⟩
  have hY1 := unhide HY
  simp only [unhide HN0] at hY1
  replace HY := hide hY1
  clear hY1
  have hbu2 := But.of (r := r) hb0
  replace HR := hide ((unhide HR).keep hb0)
  replace HB := hide ((unhide HB).trans hbu2)
  replace HZ := hide ((unhide HZ).but hbu2 hrne)
  replace HS := hide (Nat.lt_of_lt_of_le (unhide HS) hbu2.size)
  clear hb0 HC0
  obtain ⟨B3, eB3, hbB3, hsB3, hhB3⟩ := box_new w0 #[.int .i64 kk0, .string T0, .int .i64 at0] 87
  have ne3 : r ≠ w0.heap.size := by have := unhide HS; omega
  have hbu4 := But.of (r := r) hbB3
  replace HR := hide ((unhide HR).keep hbB3)
  replace HB := hide ((unhide HB).trans hbu4)
  replace HZ := hide ((unhide HZ).but hbu4 hrne)
  replace HS := hide (Nat.lt_of_lt_of_le (unhide HS) hbu4.size)
  have HX3 := hide hhB3
  have HEB3 := hide eB3
  have HSB3 := hide hsB3
  clear eB3 hbB3 hhB3 hsB3
  have u03 := (blk (unhide HX3)).2.1 0 _ rfl
  have u13 := (blk (unhide HX3)).2.1 1 _ rfl
  have u23 := (blk (unhide HX3)).2.1 2 _ rfl
  rw [← unhide HEB3] at u03 u13 u23
  obtain ⟨gg5, gc5, x05, x15, x25, x35, x45, hc5, hl5, hf5, ht5⟩ := (unhide HR).facts (Below.refl _ _)
  rw [← unhide HEB3] at x25 hl5
  clear hc5 hf5 ht5 x05 x15 x35 x45
  obtain ⟨er, her⟩ : ∃ er, st.e = er := ⟨_, rfl⟩
  by_cases he : st.e = 0
  · rw [he] at x25
    have hYn := unhide HY
    rw [if_neg (fun h => h he)] at hYn
    replace HY := hide hYn
    clear hYn
    by_cases hk : kk0 = 3
    · have hk3 := hk
      subst hk
      have hYn := unhide HY
      rw [if_pos (by first | rfl | trivial)] at hYn
      replace HY := hide hYn
      clear hYn
      obtain ⟨S8, hS8⟩ : ∃ S, stepD ts (st) = S := ⟨_, rfl⟩
      have HC8 := hide (step_any (unhide HR) (unhide HT))
      rw [hS8] at HC8
      have HS8 := hide hS8
      clear hS8
      go_wp2_with fail
      rw [unhide HEB3]
      refine (unhide HC8).mono ?_
      rintro e w8 ⟨rfl, hb8, hR8⟩
      have hY9 := unhide HY
      simp only [unhide HS8] at hY9
      replace HY := hide hY9
      clear hY9
      replace HB := hide ((unhide HB).trans hb8)
      replace HZ := hide ((unhide HZ).but hb8 hrne)
      replace HX3 := hide ((hb8.block _ (blk (unhide HX3)).1 (Ne.symm ne3)).trans (unhide HX3))
      replace HS := hide (Nat.lt_of_lt_of_le (unhide HS) hb8.size)
      replace HR := hide hR8
      clear hb8 hR8 HC8 HS8
      have u03 := (blk (unhide HX3)).2.1 0 _ rfl
      have u13 := (blk (unhide HX3)).2.1 1 _ rfl
      have u23 := (blk (unhide HX3)).2.1 2 _ rfl
      obtain ⟨y0, y1, y2, y3, y4, y5, y6⟩ := blk7 (unhide HZ)
      obtain ⟨z0, z1, z2, z3, z4, z5, z6⟩ := frz7 (unhide HZ)
      have HNode := hide (leaf (W := w8) (lo := w.heap.size + 1) (1) at0 ⟨#[]⟩ T0 false)
      go_wp2
      rw [← unhide HQQ]
      exact dret_put rfl rfl rfl (unhide HB) hr (unhide HZ) (unhide HY).symm (unhide HR) (Nat.lt_succ_self _) (unhide HNode)
    · have hYn := unhide HY
      rw [if_neg hk] at hYn
      replace HY := hide hYn
      clear hYn
      have d3 : decide (kk0 = 3) = false := decide_eq_false hk
      have e3 : (kk0 == 3) = false := by simpa using hk
      replace hk := hide hk
      have HC10 := hide (eat_any (unhide HR) (unhide HT) ⟨#[116, 114, 117, 101]⟩)
      obtain ⟨bo10, hbo10⟩ : ∃ b, isD ts ⟨#[116, 114, 117, 101]⟩ (st) = b := ⟨_, rfl⟩
      unfold eatD at HC10
      rw [hbo10] at HC10
      have HO10 := hide hbo10
      clear hbo10
      go_wp2_with fail
      rw [unhide HEB3]
      refine (unhide HC10).mono ?_
      rintro e w10 ⟨rfl, hb10, hR10⟩
      replace HB := hide ((unhide HB).trans hb10)
      replace HZ := hide ((unhide HZ).but hb10 hrne)
      replace HX3 := hide ((hb10.block _ (blk (unhide HX3)).1 (Ne.symm ne3)).trans (unhide HX3))
      replace HS := hide (Nat.lt_of_lt_of_le (unhide HS) hb10.size)
      replace HR := hide hR10
      have hY11 := unhide HY
      simp only [unhide HO10] at hY11
      replace HY := hide hY11
      clear hY11
      clear hb10 HC10 hR10
      rcases bo10 with _ | _
      rotate_left
      · have hY12 := unhide HY
        simp only [if_true] at hY12
        replace HY := hide hY12
        clear hY12
        have hRR := unhide HR
        rw [if_pos rfl] at hRR
        obtain ⟨S13, hS13⟩ : ∃ S, stepD ts (st) = S := ⟨_, rfl⟩
        rw [hS13] at hRR
        replace HR := hide hRR
        have HSt13 := hide hS13
        have hY14 := unhide HY
        simp only [unhide HSt13] at hY14
        replace HY := hide hY14
        clear hY14
        clear hRR hS13
        have u03 := (blk (unhide HX3)).2.1 0 _ rfl
        have u13 := (blk (unhide HX3)).2.1 1 _ rfl
        have u23 := (blk (unhide HX3)).2.1 2 _ rfl
        obtain ⟨y0, y1, y2, y3, y4, y5, y6⟩ := blk7 (unhide HZ)
        obtain ⟨z0, z1, z2, z3, z4, z5, z6⟩ := frz7 (unhide HZ)
        have HNode := hide (leaf (W := w10) (lo := w.heap.size + 1) (2) at0 ⟨#[]⟩ ⟨#[]⟩ true)
        go_wp2
        rw [← unhide HQQ]
        exact dret_put rfl rfl rfl (unhide HB) hr (unhide HZ) (unhide HY).symm (unhide HR) (Nat.lt_succ_self _) (unhide HNode)
      have hY15 := unhide HY
      simp only [Bool.false_eq_true, if_false] at hY15
      replace HY := hide hY15
      clear hY15
      have hRR := unhide HR
      rw [if_neg Bool.false_ne_true] at hRR
      replace HR := hide hRR
      clear hRR
      have HC16 := hide (eat_any (unhide HR) (unhide HT) ⟨#[102, 97, 108, 115, 101]⟩)
      obtain ⟨bo16, hbo16⟩ : ∃ b, isD ts ⟨#[102, 97, 108, 115, 101]⟩ (st) = b := ⟨_, rfl⟩
      unfold eatD at HC16
      rw [hbo16] at HC16
      have HO16 := hide hbo16
      clear hbo16
      go_wp2_with fail
      refine (unhide HC16).mono ?_
      rintro e w16 ⟨rfl, hb16, hR16⟩
      replace HB := hide ((unhide HB).trans hb16)
      replace HZ := hide ((unhide HZ).but hb16 hrne)
      replace HX3 := hide ((hb16.block _ (blk (unhide HX3)).1 (Ne.symm ne3)).trans (unhide HX3))
      replace HS := hide (Nat.lt_of_lt_of_le (unhide HS) hb16.size)
      replace HR := hide hR16
      have hY17 := unhide HY
      simp only [unhide HO16] at hY17
      replace HY := hide hY17
      clear hY17
      clear hb16 HC16 hR16
      rcases bo16 with _ | _
      rotate_left
      · have hY18 := unhide HY
        simp only [if_true] at hY18
        replace HY := hide hY18
        clear hY18
        have hRR := unhide HR
        rw [if_pos rfl] at hRR
        obtain ⟨S19, hS19⟩ : ∃ S, stepD ts (st) = S := ⟨_, rfl⟩
        rw [hS19] at hRR
        replace HR := hide hRR
        have HSt19 := hide hS19
        have hY20 := unhide HY
        simp only [unhide HSt19] at hY20
        replace HY := hide hY20
        clear hY20
        clear hRR hS19
        have u03 := (blk (unhide HX3)).2.1 0 _ rfl
        have u13 := (blk (unhide HX3)).2.1 1 _ rfl
        have u23 := (blk (unhide HX3)).2.1 2 _ rfl
        obtain ⟨y0, y1, y2, y3, y4, y5, y6⟩ := blk7 (unhide HZ)
        obtain ⟨z0, z1, z2, z3, z4, z5, z6⟩ := frz7 (unhide HZ)
        have HNode := hide (leaf (W := w16) (lo := w.heap.size + 1) (2) at0 ⟨#[]⟩ ⟨#[]⟩ false)
        go_wp2
        rw [← unhide HQQ]
        exact dret_put rfl rfl rfl (unhide HB) hr (unhide HZ) (unhide HY).symm (unhide HR) (Nat.lt_succ_self _) (unhide HNode)
      have hY21 := unhide HY
      simp only [Bool.false_eq_true, if_false] at hY21
      replace HY := hide hY21
      clear hY21
      have hRR := unhide HR
      rw [if_neg Bool.false_ne_true] at hRR
      replace HR := hide hRR
      clear hRR
      have HC22 := hide (eat_any (unhide HR) (unhide HT) ⟨#[40]⟩)
      obtain ⟨bo22, hbo22⟩ : ∃ b, isD ts ⟨#[40]⟩ (st) = b := ⟨_, rfl⟩
      unfold eatD at HC22
      rw [hbo22] at HC22
      have HO22 := hide hbo22
      clear hbo22
      go_wp2_with fail
      refine (unhide HC22).mono ?_
      rintro e w22 ⟨rfl, hb22, hR22⟩
      replace HB := hide ((unhide HB).trans hb22)
      replace HZ := hide ((unhide HZ).but hb22 hrne)
      replace HX3 := hide ((hb22.block _ (blk (unhide HX3)).1 (Ne.symm ne3)).trans (unhide HX3))
      replace HS := hide (Nat.lt_of_lt_of_le (unhide HS) hb22.size)
      replace HR := hide hR22
      have hY23 := unhide HY
      simp only [unhide HO22] at hY23
      replace HY := hide hY23
      clear hY23
      clear hb22 HC22 hR22
      rcases bo22 with _ | _
      rotate_left
      · have hY24 := unhide HY
        simp only [if_true] at hY24
        replace HY := hide hY24
        clear hY24
        have hRR := unhide HR
        rw [if_pos rfl] at hRR
        obtain ⟨S25, hS25⟩ : ∃ S, stepD ts (st) = S := ⟨_, rfl⟩
        rw [hS25] at hRR
        replace HR := hide hRR
        have HSt25 := hide hS25
        have hY26 := unhide HY
        simp only [unhide HSt25] at hY26
        replace HY := hide hY26
        clear hY26
        clear hRR hS25
        have HC27 := hide (eat_any (unhide HR) (unhide HT) ⟨#[41]⟩)
        obtain ⟨bo27, hbo27⟩ : ∃ b, isD ts ⟨#[41]⟩ (S25) = b := ⟨_, rfl⟩
        unfold eatD at HC27
        rw [hbo27] at HC27
        have HO27 := hide hbo27
        clear hbo27
        go_wp2_with fail
        refine (unhide HC27).mono ?_
        rintro e w27 ⟨rfl, hb27, hR27⟩
        replace HB := hide ((unhide HB).trans hb27)
        replace HZ := hide ((unhide HZ).but hb27 hrne)
        replace HX3 := hide ((hb27.block _ (blk (unhide HX3)).1 (Ne.symm ne3)).trans (unhide HX3))
        replace HS := hide (Nat.lt_of_lt_of_le (unhide HS) hb27.size)
        replace HR := hide hR27
        have hY28 := unhide HY
        simp only [unhide HO27] at hY28
        replace HY := hide hY28
        clear hY28
        clear hb27 HC27 hR27
        rcases bo27 with _ | _
        rotate_left
        · have hY29 := unhide HY
          simp only [if_true] at hY29
          replace HY := hide hY29
          clear hY29
          have hRR := unhide HR
          rw [if_pos rfl] at hRR
          obtain ⟨S30, hS30⟩ : ∃ S, stepD ts (S25) = S := ⟨_, rfl⟩
          rw [hS30] at hRR
          replace HR := hide hRR
          have HSt30 := hide hS30
          have hY31 := unhide HY
          simp only [unhide HSt30] at hY31
          replace HY := hide hY31
          clear hY31
          clear hRR hS30
          have u03 := (blk (unhide HX3)).2.1 0 _ rfl
          have u13 := (blk (unhide HX3)).2.1 1 _ rfl
          have u23 := (blk (unhide HX3)).2.1 2 _ rfl
          obtain ⟨y0, y1, y2, y3, y4, y5, y6⟩ := blk7 (unhide HZ)
          obtain ⟨z0, z1, z2, z3, z4, z5, z6⟩ := frz7 (unhide HZ)
          have HNode := hide (leaf (W := w27) (lo := w.heap.size + 1) (3) at0 ⟨#[]⟩ ⟨#[]⟩ false)
          go_wp2
          rw [← unhide HQQ]
          exact dret_put rfl rfl rfl (unhide HB) hr (unhide HZ) (unhide HY).symm (unhide HR) (Nat.lt_succ_self _) (unhide HNode)
        have hY32 := unhide HY
        simp only [Bool.false_eq_true, if_false] at hY32
        replace HY := hide hY32
        clear hY32
        have hRR := unhide HR
        rw [if_neg Bool.false_ne_true] at hRR
        replace HR := hide hRR
        clear hRR
        have HC33 := hide (unhide hE w27 (S25) (unhide HR))
        obtain ⟨⟨t33, S33⟩, hX33⟩ : ∃ X, g .rE (S25) = X := ⟨_, rfl⟩
        rw [hX33] at HC33
        have HX33 := hide hX33
        clear hX33
        go_wp2_with fail
        refine (unhide HC33).mono ?_
        rintro e w33 ⟨hb33, hR33, v33, rfl, hv33⟩
        have hY34 := unhide HY
        simp only [unhide HX33] at hY34
        replace HY := hide hY34
        clear hY34
        obtain ⟨i33, j33, s33, m33, b33, a33, n33, c33, rfl⟩ := hv33.form
        have HT33 := hide (hv33.keep (lo' := w.heap.size + 1) (Stays.of (Below.refl _ _)) (unhide HS))
        replace HB := hide ((unhide HB).trans hb33)
        replace HZ := hide ((unhide HZ).but hb33 hrne)
        replace HX3 := hide ((hb33.block _ (blk (unhide HX3)).1 (Ne.symm ne3)).trans (unhide HX3))
        replace HS := hide (Nat.lt_of_lt_of_le (unhide HS) hb33.size)
        replace HR := hide hR33
        clear hb33 hR33 hv33 HC33 HX33
        obtain ⟨B35, eB35, hbB35, hsB35, hhB35⟩ := box_new w33 #[.int .i64 i33, .string s33, .string m33, .bool b33, .slice a33 n33 c33, .int .i64 0, .int .i64 j33] 51
        have ne35 : r ≠ w33.heap.size := by have := unhide HS; omega
        have hbu36 := But.of (r := r) hbB35
        replace HR := hide ((unhide HR).keep hbB35)
        replace HB := hide ((unhide HB).trans hbu36)
        replace HZ := hide ((unhide HZ).but hbu36 hrne)
        replace HX3 := hide ((hbu36.block _ (blk (unhide HX3)).1 (Ne.symm ne3)).trans (unhide HX3))
        replace HT33 := hide ((unhide HT33).keep (Stays.but hbu36 (Nat.lt_succ_of_lt hr)) (Nat.le_refl _))
        replace HS := hide (Nat.lt_of_lt_of_le (unhide HS) hbu36.size)
        have HX35 := hide hhB35
        have HEB35 := hide eB35
        have HSB35 := hide hsB35
        clear eB35 hbB35 hhB35 hsB35
        obtain ⟨S37, hS37⟩ : ∃ S, mustD ts ⟨#[41]⟩ (S33) = S := ⟨_, rfl⟩
        have HC37 := hide (dmust_any (unhide HR) (unhide HT) ⟨#[41]⟩)
        rw [hS37] at HC37
        have HS37 := hide hS37
        clear hS37
        go_wp2_with fail
        rw [unhide HEB35]
        refine (unhide HC37).mono ?_
        rintro e w37 ⟨rfl, hb37, hR37⟩
        have hY38 := unhide HY
        simp only [unhide HS37] at hY38
        replace HY := hide hY38
        clear hY38
        replace HB := hide ((unhide HB).trans hb37)
        replace HZ := hide ((unhide HZ).but hb37 hrne)
        replace HX3 := hide ((hb37.block _ (blk (unhide HX3)).1 (Ne.symm ne3)).trans (unhide HX3))
        replace HX35 := hide ((hb37.block _ (blk (unhide HX35)).1 (Ne.symm ne35)).trans (unhide HX35))
        replace HT33 := hide ((unhide HT33).keep (Stays.but hb37 (Nat.lt_succ_of_lt hr)) (Nat.le_refl _))
        replace HS := hide (Nat.lt_of_lt_of_le (unhide HS) hb37.size)
        replace HR := hide hR37
        clear hb37 hR37 HC37 HS37
        obtain ⟨y035, y135, y235, y335, y435, y535, y635⟩ := blk7 (unhide HX35)
        obtain ⟨y0, y1, y2, y3, y4, y5, y6⟩ := blk7 (unhide HZ)
        obtain ⟨z0, z1, z2, z3, z4, z5, z6⟩ := frz7 (unhide HZ)
        have HNode := hide (unhide HT33)
        go_wp2
        rw [← unhide HQQ]
        exact dret_put rfl rfl rfl (unhide HB) hr (unhide HZ) (unhide HY).symm (unhide HR) (Nat.lt_succ_self _) (unhide HNode)
      have hY39 := unhide HY
      simp only [Bool.false_eq_true, if_false] at hY39
      replace HY := hide hY39
      clear hY39
      have hRR := unhide HR
      rw [if_neg Bool.false_ne_true] at hRR
      replace HR := hide hRR
      clear hRR
      have HC40 := hide (name_any (unhide HR) (unhide HT))
      unfold tkV at HC40
      obtain ⟨⟨⟨kk40, T40, at40⟩, S40⟩, hN40⟩ : ∃ X, nameD ts (st) = X := ⟨_, rfl⟩
      rw [hN40] at HC40
      have HN40 := hide hN40
      clear hN40
      go_wp2_with fail
      refine (unhide HC40).mono ?_
      rintro e w40 ⟨rfl, hb40, hR40⟩
      have hY41 := unhide HY
      simp only [unhide HN40] at hY41
      replace HY := hide hY41
      clear hY41
      replace HB := hide ((unhide HB).trans hb40)
      replace HZ := hide ((unhide HZ).but hb40 hrne)
      replace HX3 := hide ((hb40.block _ (blk (unhide HX3)).1 (Ne.symm ne3)).trans (unhide HX3))
      replace HS := hide (Nat.lt_of_lt_of_le (unhide HS) hb40.size)
      replace HR := hide hR40
      clear hb40 hR40 HC40
      obtain ⟨B42, eB42, hbB42, hsB42, hhB42⟩ := box_new w40 #[.int .i64 kk40, .string T40, .int .i64 at40] 87
      have ne42 : r ≠ w40.heap.size := by have := unhide HS; omega
      have hbu43 := But.of (r := r) hbB42
      replace HR := hide ((unhide HR).keep hbB42)
      replace HB := hide ((unhide HB).trans hbu43)
      replace HZ := hide ((unhide HZ).but hbu43 hrne)
      replace HX3 := hide ((hbu43.block _ (blk (unhide HX3)).1 (Ne.symm ne3)).trans (unhide HX3))
      replace HS := hide (Nat.lt_of_lt_of_le (unhide HS) hbu43.size)
      have HX42 := hide hhB42
      have HEB42 := hide eB42
      have HSB42 := hide hsB42
      clear eB42 hbB42 hhB42 hsB42
      have HC44 := hide (eat_any (unhide HR) (unhide HT) ⟨#[40]⟩)
      obtain ⟨bo44, hbo44⟩ : ∃ b, isD ts ⟨#[40]⟩ (S40) = b := ⟨_, rfl⟩
      unfold eatD at HC44
      rw [hbo44] at HC44
      have HO44 := hide hbo44
      clear hbo44
      go_wp2_with fail
      rw [unhide HEB42]
      refine (unhide HC44).mono ?_
      rintro e w44 ⟨rfl, hb44, hR44⟩
      replace HB := hide ((unhide HB).trans hb44)
      replace HZ := hide ((unhide HZ).but hb44 hrne)
      replace HX3 := hide ((hb44.block _ (blk (unhide HX3)).1 (Ne.symm ne3)).trans (unhide HX3))
      replace HX42 := hide ((hb44.block _ (blk (unhide HX42)).1 (Ne.symm ne42)).trans (unhide HX42))
      replace HS := hide (Nat.lt_of_lt_of_le (unhide HS) hb44.size)
      replace HR := hide hR44
      have hY45 := unhide HY
      simp only [unhide HO44] at hY45
      replace HY := hide hY45
      clear hY45
      clear hb44 HC44 hR44
      rcases bo44 with _ | _
      rotate_left
      · have hY46 := unhide HY
        simp only [if_true] at hY46
        replace HY := hide hY46
        clear hY46
        have hRR := unhide HR
        rw [if_pos rfl] at hRR
        obtain ⟨S47, hS47⟩ : ∃ S, stepD ts (S40) = S := ⟨_, rfl⟩
        rw [hS47] at hRR
        replace HR := hide hRR
        have HSt47 := hide hS47
        have hY48 := unhide HY
        simp only [unhide HSt47] at hY48
        replace HY := hide hY48
        clear hY48
        clear hRR hS47
        have hY49 := unhide HY
        simp only [callD] at hY49
        replace HY := hide hY49
        clear hY49
        have u042 := (blk (unhide HX42)).2.1 0 _ rfl
        have u142 := (blk (unhide HX42)).2.1 1 _ rfl
        have u242 := (blk (unhide HX42)).2.1 2 _ rfl
        have HSx := HS
        obtain ⟨B50, eB50, hbB50, hsB50, hhB50⟩ := box_new w44 #[.int .i64 21, .string T40, .string ⟨#[]⟩, .bool false, .slice none 0 0, .int .i64 0, .int .i64 at40] 51
        have ne50 : r ≠ w44.heap.size := by have := unhide HS; omega
        have hbu51 := But.of (r := r) hbB50
        replace HR := hide ((unhide HR).keep hbB50)
        replace HB := hide ((unhide HB).trans hbu51)
        replace HZ := hide ((unhide HZ).but hbu51 hrne)
        replace HX3 := hide ((hbu51.block _ (blk (unhide HX3)).1 (Ne.symm ne3)).trans (unhide HX3))
        replace HX42 := hide ((hbu51.block _ (blk (unhide HX42)).1 (Ne.symm ne42)).trans (unhide HX42))
        replace HS := hide (Nat.lt_of_lt_of_le (unhide HS) hbu51.size)
        have HX50 := hide hhB50
        have HEB50 := hide eB50
        have HSB50 := hide hsB50
        clear eB50 hbB50 hhB50 hsB50
        have HC52 := hide (eat_any (unhide HR) (unhide HT) ⟨#[41]⟩)
        obtain ⟨bo52, hbo52⟩ : ∃ b, isD ts ⟨#[41]⟩ (S47) = b := ⟨_, rfl⟩
        unfold eatD at HC52
        rw [hbo52] at HC52
        have HO52 := hide hbo52
        clear hbo52
        go_wp2_with fail
        rw [unhide HEB50]
        refine (unhide HC52).mono ?_
        rintro e w52 ⟨rfl, hb52, hR52⟩
        replace HB := hide ((unhide HB).trans hb52)
        replace HZ := hide ((unhide HZ).but hb52 hrne)
        replace HX3 := hide ((hb52.block _ (blk (unhide HX3)).1 (Ne.symm ne3)).trans (unhide HX3))
        replace HX42 := hide ((hb52.block _ (blk (unhide HX42)).1 (Ne.symm ne42)).trans (unhide HX42))
        replace HX50 := hide ((hb52.block _ (blk (unhide HX50)).1 (Ne.symm ne50)).trans (unhide HX50))
        replace HS := hide (Nat.lt_of_lt_of_le (unhide HS) hb52.size)
        replace HR := hide hR52
        have hY53 := unhide HY
        simp only [unhide HO52] at hY53
        replace HY := hide hY53
        clear hY53
        clear hb52 HC52 hR52
        rcases bo52 with _ | _
        rotate_left
        · have hY54 := unhide HY
          simp only [if_true] at hY54
          replace HY := hide hY54
          clear hY54
          have hRR := unhide HR
          rw [if_pos rfl] at hRR
          obtain ⟨S55, hS55⟩ : ∃ S, stepD ts (S47) = S := ⟨_, rfl⟩
          rw [hS55] at hRR
          replace HR := hide hRR
          have HSt55 := hide hS55
          have hY56 := unhide HY
          simp only [unhide HSt55] at hY56
          replace HY := hide hY56
          clear hY56
          clear hRR hS55
          obtain ⟨y050, y150, y250, y350, y450, y550, y650⟩ := blk7 (unhide HX50)
          obtain ⟨y0, y1, y2, y3, y4, y5, y6⟩ := blk7 (unhide HZ)
          obtain ⟨z0, z1, z2, z3, z4, z5, z6⟩ := frz7 (unhide HZ)
          have HNode := hide (leaf (W := w52) (lo := w.heap.size + 1) (21) at40 T40 ⟨#[]⟩ false)
          go_wp2
          rw [← unhide HQQ]
          exact dret_put rfl rfl rfl (unhide HB) hr (unhide HZ) (unhide HY).symm (unhide HR) (Nat.lt_succ_self _) (unhide HNode)
        have hY57 := unhide HY
        simp only [Bool.false_eq_true, if_false] at hY57
        replace HY := hide hY57
        clear hY57
        have hRR := unhide HR
        rw [if_neg Bool.false_ne_true] at hRR
        replace HR := hide hRR
        clear hRR
        have hE1 := unhide hE
        have HC := hide (hE1 w52 S47 (unhide HR))
        clear hE1
        obtain ⟨⟨t7, S7⟩, hX⟩ : ∃ X, g .rE S47 = X := ⟨_, rfl⟩
        rw [hX] at HC
        have hYn := unhide HY
        rw [hX] at hYn
        obtain ⟨Z, hZ⟩ : ∃ Z, argsD ts g 8 8 [t7] S7 = Z := ⟨_, rfl⟩
        simp only [hZ] at hYn
        replace HY := hide hYn
        have HZZ := hide hZ
        clear hX hYn hZ
        go_wp2_with fail
        refine (unhide HC).mono ?_
        rintro e w7 ⟨hb7, hR7, v7, rfl, hv7⟩
        obtain ⟨i7, j7, s7, m7, b7, a7, n7, c7, rfl⟩ := hv7.form
        obtain ⟨B7, eB7, hbB7, hsB7, hhB7⟩ := box_new w7 #[.int .i64 i7, .string s7, .string m7, .bool b7, .slice a7 n7 c7, .int .i64 0, .int .i64 j7] 51
        have hxE := unhide HX50
        have hx7 := (hb7.block _ (blk hxE).1 (by have := unhide HSx; omega)).trans hxE
        have hAI0 : AI w r T40 at40 w44.heap.size w7.heap.size (.slice none 0 0) [] [] B7 := ⟨(unhide HB).trans (hb7.trans (But.of hbB7)), ((unhide HZ).but hb7 hrne).but (But.of hbB7) hrne, (hbB7.block _ (blk hx7).1).trans hx7, ⟨_, _, _, _, _, _, _, hhB7⟩, ⟨hr, unhide HSx, (blk hx7).1⟩, ⟨by simp, .inl ⟨rfl, rfl⟩⟩, rfl, by simp, by simp⟩
        have hRB := hR7.keep hbB7
        obtain ⟨gq, cap, wa, happ, hoa, hga, hwa⟩ := ex_app i7 j7 s7 m7 b7 a7 n7 c7 hAI0.own (by simp) (by omega)
        obtain ⟨hAI1, hwx, hkk⟩ := hAI0.more (t7 := t7) (P7 := fun b => w52.heap.size ≤ b ∧ b < w7.heap.size) (But.refl r B7) (IsEP.keep (IsEP.bnd hv7) ⟨hbB7.size, fun k hk _ => hbB7.block k hk.2⟩ fun b hb => hb) (fun b hb h => ⟨by have := (blk hxE).1; have := unhide HSx; omega, by have := (blk hxE).1; omega, by omega, fun e => by cases e⟩) (But.refl _ _) rfl hhB7 hoa hga hwa
        have hR1 := hRB.out (w' := wa.setCell ⟨w44.heap.size, 4, none⟩ (.slice (some ⟨gq, 0, none⟩) (([] : List Ex).length + 1) cap)) hr (fun k hk => hkk k hk)
        have xf : B7.cell? ⟨w44.heap.size, 4, none⟩ = some (.slice none 0 0) := (blk hAI0.xb).2.1 4 _ rfl
        obtain ⟨q0, q1, q2, q3, q4, q5, q6⟩ := blk7 hhB7
        have wx4 := (blk hwx).2.1 4 _ rfl
        have wf4 := (blk hwx).2.2 4
        have HI := hide (And.intro hAI1 hR1)
        simp only [List.length_nil, Nat.zero_add] at happ
        obtain ⟨aq, haq⟩ : ∃ aq, w7.heap.size = aq := ⟨_, rfl⟩
        have HAQ := hide haq
        have HEB7 := hide eB7
        have R1 := hide happ
        clear HC hb7 hR7 hv7 hxE hx7 hAI0 hRB eB7 hbB7 hsB7 hhB7 hoa hga hwa hAI1 hwx hkk hR1 haq happ
        rename_i K1 h1 K2 h2
        replace h1 := hide h1
        go_wp2_with fail
        rw [unhide HEB7]
        refine unhide h1 _ _ ?_
        go_wp2_with (at_builtin; refine app_run _ _ _ rfl rfl rfl rfl (unhide R1) ?_; clear R1)
        rw [unhide HAQ]
        go_loopw [] (fun wr => ∃ l vs S n gq m c, Hid (0 < l.length ∧ n + l.length = 9 ∧ m = l.length ∧ l.length ≤ 8) ∧ Hid (AI w r T40 at40 w44.heap.size aq (.slice (some ⟨gq, 0, none⟩) m c) l vs wr) ∧ Hid (PD wr r ts S d) ∧ Hid (argsD ts g 8 n l S = Z)) (fun wr => 9 - lenOf (wr.cell? ⟨w44.heap.size, 4, none⟩))
        case atStart => exact ⟨[t7], _, S7, 8, _, _, _, ⟨by simp, rfl, rfl, by simp⟩, by rw [← unhide HAQ]; exact (unhide HI).1, (unhide HI).2, HZZ⟩
        case round =>
          obtain ⟨l, vs, S, n, gq, m, c, hn, hAI, hPD, hch⟩ := hrel
          obtain ⟨bo, hbo⟩ : ∃ b, isD ts ⟨#[44]⟩ S = b := ⟨_, rfl⟩
          have HC := hide (is_any (unhide hPD) (unhide HT) ⟨#[44]⟩)
          rw [hbo] at HC
          have HO := hide hbo
          clear hbo
          go_wp2_with fail
          refine (unhide HC).mono ?_
          rintro e w9 ⟨rfl, hb9⟩
          have hA9 := (unhide hAI).grow hb9
          have hP9 := (unhide hPD).keep hb9
          obtain ⟨n, rfl⟩ : ∃ k, n = k + 1 := ⟨n - 1, by have := (unhide hn).2.1; have := (unhide hn).2.2.2; omega⟩
          have HMW : Hid (lenOf (wr.cell? ⟨w44.heap.size, 4, none⟩) = m) := by
            show _ = _
            rw [(blk (unhide hAI).xb).2.1 4 _ rfl]
            rfl
          have HA := hide hA9
          have HP := hide hP9
          clear hAI hPD hb9 hA9 hP9 HC
          rcases bo with _ | _
          · have HC := hide (dmust_any (unhide HP) (unhide HT) ⟨#[41]⟩)
            go_wp2_with fail
            refine (unhide HC).mono ?_
            rintro e w8 ⟨rfl, hb8, hR8⟩
            have hA8 := (unhide HA).but' hb8
            have hZ := unhide hch
            rw [argsD_no (unhide HO)] at hZ
            subst hZ
            obtain ⟨y0, y1, y2, y3, y4, y5, y6⟩ := blk7 hA8.z
            obtain ⟨z0, z1, z2, z3, z4, z5, z6⟩ := frz7 hA8.z
            obtain ⟨q0, q1, q2, q3, q4, q5, q6⟩ := blk7 hA8.xb
            have HNode := hide ((hA8.ls (unhide hn).1 (by have := (unhide hn).2.1; omega)).node 21 at40 T40 ⟨#[]⟩ false)
            have H8 := hide (And.intro hA8.but (And.intro hA8.z hR8))
            clear HC hb8 hR8 hA8
            go_wp2
            rw [← unhide HQQ]
            exact dret_put rfl rfl rfl (unhide H8).1 hr (unhide H8).2.1 (unhide HY).symm (unhide H8).2.2 (Nat.lt_succ_self _) (unhide HNode)
          · by_cases h8 : m = 8
            · subst h8
              have q4 := (blk (unhide HA).xb).2.1 4 _ rfl
              have HC := hide (dt_any (unhide HP) (unhide HT))
              unfold tkV at HC
              obtain ⟨⟨kk9, T9, at9⟩, hN9⟩ : ∃ X, tD ts S = X := ⟨_, rfl⟩
              rw [hN9] at HC
              have hf2 := fld2 (.int .i64 kk9) (.string T9) (.int .i64 at9)
              have HN9 := hide hN9
              clear hN9
              go_wp2_with fail
              refine (unhide HC).mono ?_
              rintro e w8 ⟨rfl, hb8⟩
              have HC2 := hide (fail_any ((unhide HP).keep hb8) at9 152)
              have HA8 := hide ((unhide HA).grow hb8)
              clear hb8 HC q4
              go_wp2_with fail
              refine (unhide HC2).mono ?_
              rintro e w6 ⟨rfl, hb6, hR6⟩
              have hA8 := (unhide HA8).but' hb6
              have hZ := unhide hch
              rw [argsD_many (unhide HO) (unhide hn).2.2.1.symm, unhide HN9] at hZ
              subst hZ
              obtain ⟨y0, y1, y2, y3, y4, y5, y6⟩ := blk7 hA8.z
              obtain ⟨z0, z1, z2, z3, z4, z5, z6⟩ := frz7 hA8.z
              obtain ⟨q0, q1, q2, q3, q4, q5, q6⟩ := blk7 hA8.xb
              have HNode := hide ((hA8.ls (unhide hn).1 (by have := (unhide hn).2.1; omega)).node 21 at40 T40 ⟨#[]⟩ false)
              have H8 := hide (And.intro hA8.but (And.intro hA8.z hR6))
              clear HC2 hb6 hR6 hA8 HA8
              go_wp2
              rw [← unhide HQQ]
              exact dret_put rfl rfl rfl (unhide H8).1 hr (unhide H8).2.1 (unhide HY).symm (unhide H8).2.2 (Nat.lt_succ_self _) (unhide HNode)
            · have g1 : ¬ (m : Int) = 8 := by omega
              have g2 : ((m : Int) == 8) = false := by simpa using g1
              have g3 : decide ((m : Int) = 8) = false := by simpa using g1
              have q4 := (blk (unhide HA).xb).2.1 4 _ rfl
              have hch1 := unhide hch
              rw [argsD_yes (unhide HO) (by have := (unhide hn).2.2.1; omega)] at hch1
              have HCH := hide hch1
              have H8 := hide h8
              have HC := hide (step_any (unhide HP) (unhide HT))
              clear hch1 h8
              go_wp2_with fail
              refine (unhide HC).mono ?_
              rintro e w8 ⟨rfl, hb8, hR8⟩
              have HA8 := hide ((unhide HA).but' hb8)
              have HC2 := hide (unhide hE w8 (stepD ts S) hR8)
              clear HC hb8 hR8 q4 g1 g2 g3
              go_wp2_with fail
              refine (unhide HC2).mono ?_
              rintro e w7 ⟨hb7, hR7, v7, rfl, hv7⟩
              obtain ⟨i7, j7, s7, m7, b7, a7, n7, c7, rfl⟩ := hv7.form
              obtain ⟨p0, p1, p2, p3, p4, p5, p6, hy⟩ := (unhide HA8).ab
              have ho := (unhide HA8).ord
              have ha7 := (hb7.block _ (blk hy).1 (by omega)).trans hy
              have hA7 := (unhide HA8).but' hb7
              obtain ⟨V8, hV8⟩ : ∃ V8, (((((((w7.setCell ⟨aq, 0, none⟩ (.int .i64 i7)).setCell ⟨aq, 1, none⟩ (.string s7)).setCell ⟨aq, 2, none⟩ (.string m7)).setCell ⟨aq, 3, none⟩ (.bool b7)).setCell ⟨aq, 4, none⟩ (.slice a7 n7 c7)).setCell ⟨aq, 5, none⟩ (.int .i64 0)).setCell ⟨aq, 6, none⟩ (.int .i64 j7)) = V8 := ⟨_, rfl⟩
              have hbq : But aq w7 V8 := by rw [← hV8]; exact ((((((((But.refl aq w7).set 0 _).set 1 _).set 2 _).set 3 _).set 4 _).set 5 _).set 6 _)
              have hs8 : V8.heap.size = w7.heap.size := by rw [← hV8]; simp
              have ha8 : V8.heap[aq]? = some (.cells #[.int .i64 i7, .string s7, .string m7, .bool b7, .slice a7 n7 c7, .int .i64 0, .int .i64 j7] 51) := by rw [← hV8]; exact fill7 ha7
              have hx8 := (hbq.block _ (blk hA7.xb).1 (by omega)).trans hA7.xb
              have hown8 : V8.ownsRow (aq + 1) 51 7 (.slice (some ⟨gq, 0, none⟩) m c) l.length vs.flatten := by
                obtain ⟨h1, h2 | ⟨g', cap', cur', e', hB', hc', hr'⟩⟩ := hA7.own
                · exact ⟨h1, .inl h2⟩
                · exact ⟨h1, .inr ⟨g', cap', cur', e', hB', (hbq.block _ (blk hc').1 (by omega)).trans hc', hr'⟩⟩
              obtain ⟨hq, cap, wa, happ, hoa, hga, hwa⟩ := ex_app i7 j7 s7 m7 b7 a7 n7 c7 hown8 (by have := (unhide hn).2.1; omega) (by have := (blk ha7).1; omega)
              obtain ⟨hAI1, hwx, hkk⟩ := (unhide HA8).more (t7 := (g .rE (stepD ts S)).1) (P7 := fun b => w8.heap.size ≤ b) hb7 hv7 (fun b hb h => ⟨by have := (blk (unhide HA8).z).1; omega, by have := (blk (unhide HA8).xb).1; omega, by have := (blk hy).1; omega, fun e => by have := ((unhide HA8).own.lt b e).2; omega⟩) hbq hs8 ha8 hoa hga hwa
              have hR1 := hR7.out (w' := wa.setCell ⟨w44.heap.size, 4, none⟩ (.slice (some ⟨hq, 0, none⟩) (l.length + 1) cap)) hr (fun k hk => hkk k hk)
              obtain ⟨y0, y1, y2, y3, y4, y5, y6⟩ := blk7 ha7
              obtain ⟨z0, z1, z2, z3, z4, z5, z6⟩ := frz7 ha7
              have xf : V8.cell? ⟨w44.heap.size, 4, none⟩ = some (.slice (some ⟨gq, 0, none⟩) m c) := (blk hx8).2.1 4 _ rfl
              obtain ⟨q0, q1, q2, q3, q4, q5, q6⟩ := blk7 ha8
              have wx4 := (blk hwx).2.1 4 _ rfl
              have wf4 := (blk hwx).2.2 4
              have HI := hide (And.intro hAI1 hR1)
              rw [(unhide hn).2.2.1.symm] at happ
              have HV8 := hide hV8
              have R1 := hide happ
              clear HC2 hb7 hR7 hv7 hy ho ha7 hA7 hV8 hbq hs8 ha8 hx8 hown8 happ hoa hga hwa hAI1 hwx hkk hR1
              rename_i K1 h1 K2 h2
              replace h1 := hide h1
              go_wp2_with fail
              rw [unhide HV8]
              refine unhide h1 _ _ ?_
              go_wp2_with (at_builtin; refine app_run _ _ _ rfl rfl rfl rfl (unhide R1) ?_; clear R1)
              have hcell : (wa.setCell ⟨w44.heap.size, 4, none⟩ (.slice (some ⟨hq, 0, none⟩) (l.length + 1) cap)).cell? ⟨w44.heap.size, 4, none⟩ = some (.slice (some ⟨hq, 0, none⟩) (l.length + 1) cap) := (blk (unhide HI).1.xb).2.1 4 _ rfl
              have hnn := unhide hn
              obtain ⟨hn1, hn2, rfl, hn4⟩ := hnn
              have h8' := unhide H8
              refine ⟨⟨l ++ [(g .rE (stepD ts S)).1], _, (g .rE (stepD ts S)).2, n, hq, _, cap, ⟨by simp, by simp; omega, by simp, by simp; omega⟩, (unhide HI).1, (unhide HI).2, HCH⟩, ?_⟩
              rw [hcell, unhide HMW]
              show 9 - (l.length + 1) < 9 - l.length
              omega
      have hY58 := unhide HY
      simp only [Bool.false_eq_true, if_false] at hY58
      replace HY := hide hY58
      clear hY58
      have hRR := unhide HR
      rw [if_neg Bool.false_ne_true] at hRR
      replace HR := hide hRR
      clear hRR
      have u042 := (blk (unhide HX42)).2.1 0 _ rfl
      have u142 := (blk (unhide HX42)).2.1 1 _ rfl
      have u242 := (blk (unhide HX42)).2.1 2 _ rfl
      obtain ⟨y0, y1, y2, y3, y4, y5, y6⟩ := blk7 (unhide HZ)
      obtain ⟨z0, z1, z2, z3, z4, z5, z6⟩ := frz7 (unhide HZ)
      have HNode := hide (leaf (W := w44) (lo := w.heap.size + 1) (4) at40 T40 ⟨#[]⟩ false)
      go_wp2
      rw [← unhide HQQ]
      exact dret_put rfl rfl rfl (unhide HB) hr (unhide HZ) (unhide HY).symm (unhide HR) (Nat.lt_succ_self _) (unhide HNode)
  · rw [her] at x25
    have d0 : decide (er = 0) = false := decide_eq_false (by rw [← her]; exact he)
    have e0 : (er == 0) = false := by have h := he; rw [her] at h; simpa using h
    have hYn := unhide HY
    rw [if_pos he] at hYn
    replace HY := hide hYn
    clear hYn
    obtain ⟨y0, y1, y2, y3, y4, y5, y6⟩ := blk7 (unhide HZ)
    obtain ⟨z0, z1, z2, z3, z4, z5, z6⟩ := frz7 (unhide HZ)
    have HNode := hide (leaf (W := B3) (lo := w.heap.size + 1) (0) 0 ⟨#[]⟩ ⟨#[]⟩ false)
    rw [← unhide HEB3] at y0 y1 y2 y3 y4 y5 y6 z0 z1 z2 z3 z4 z5 z6
    go_wp2
    rw [unhide HEB3]
    rw [← unhide HQQ]
    exact dret_put rfl rfl rfl (unhide HB) hr (unhide HZ) (unhide HY).symm (unhide HR) (Nat.lt_succ_self _) (unhide HNode)
end Go.Proofs.YtljhpbjngbbjbaaDoor
