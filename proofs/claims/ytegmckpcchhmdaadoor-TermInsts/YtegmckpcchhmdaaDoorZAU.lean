/- Put: regions 26 and 30. -/
import Derived.Test.YtegmckpcchhmdaaDoorZAT
set_option linter.unusedVariables false
set_option linter.unusedSimpArgs false

/- A chain that puts one element behind a slice of its own. -/
namespace Go.Proofs.YtegmckpcchhmdaaDoor
open Go Go.RowKit
/-- The chain: the slice is taken (m), a slice of one is made (b), put behind (p), kept (q). -/
def AQ (B : Nat) (e : TypeId) (k : Nat) (v0 : Value) (n : Nat) (xs news : List Value) (m b p q : Nat) (U : List Nat) (L : Nat → Bool) (s : Nat → Value) (w : World) : Prop :=
  (L p = false → w.ownsRow B e k v0 n xs ∧ ∀ g, v0.ownBlock = some g → g ∈ U) ∧
  (L b = true → L p = false → ∃ g ∈ U, s b = .slice (some ⟨g, 0, none⟩) 1 1 ∧ ∀ (j : Nat) u, news[j]? = some u → w.cell? ⟨g, j, none⟩ = some u) ∧
  (L p = true → w.ownsRow B e k (s p) (n + 1) (xs ++ news) ∧ ∀ g, (s p).ownBlock = some g → g ∈ U) ∧
  (L q = true → s q = s p) ∧ (L q = false → s q = v0) ∧ (L m = true → s m = v0)
/-- One more is done. -/
def upL (L : Nat → Bool) (i : Nat) : Nat → Bool := fun j => if j = i then true else L j
def upS (s : Nat → Value) (i : Nat) (v : Value) : Nat → Value := fun j => if j = i then v else s j
theorem upL_same (L : Nat → Bool) (i : Nat) : upL L i i = true := if_pos rfl
theorem upL_other {L : Nat → Bool} {i j : Nat} (h : j ≠ i) : upL L i j = L j := if_neg h
theorem upS_same (s : Nat → Value) (i : Nat) (v : Value) : upS s i v i = v := if_pos rfl
theorem upS_other {s : Nat → Value} {i j : Nat} {v : Value} (h : j ≠ i) : upS s i v j = s j := if_neg h
theorem own_sameK {w w' : World} {B k n : Nat} {e : TypeId} {v : Value} {xs : List Value} (h : w.ownsRow B e k v n xs) (hk : ∀ g, v.ownBlock = some g → w'.heap[g]? = w.heap[g]?) : w'.ownsRow B e k v n xs := by
  obtain ⟨h1, h2 | ⟨g, cap, cur, rfl, hg, hgb, h3⟩⟩ := h
  · exact ⟨h1, .inl h2⟩
  · exact ⟨h1, .inr ⟨g, cap, cur, rfl, hg, (hk g rfl).trans hgb, h3⟩⟩
section
variable {B k n m b p q : Nat} {e : TypeId} {v0 : Value} {xs news : List Value} {U : List Nat} {L : Nat → Bool} {s : Nat → Value} {w : World}
theorem AQ.own (h : AQ B e k v0 n xs news m b p q U L s w) (hU : ∀ g ∈ U, g < w.heap.size) : OwnS w U (AQ B e k v0 n xs news m b p q U L s) := by
  refine ⟨hU, fun w' _ hw => ⟨fun hp => ?_, fun hb hp => ?_, fun hp => ?_, h.2.2.2.1, h.2.2.2.2.1, h.2.2.2.2.2⟩⟩
  · obtain ⟨h1, h2⟩ := h.1 hp
    exact ⟨own_sameK h1 fun g hg => hw g (h2 g hg), h2⟩
  · obtain ⟨g, hg, h1, h2⟩ := h.2.1 hb hp
    exact ⟨g, hg, h1, fun j u hu => (World.cell?_of_block (w := w) (a := ⟨g, j, none⟩) (hw g hg)).trans (h2 j u hu)⟩
  · obtain ⟨h1, h2⟩ := h.2.2.1 hp
    exact ⟨own_sameK h1 fun g hg => hw g (h2 g hg), h2⟩
theorem AQ.loc {L' : Nat → Bool} {s' : Nat → Value} (h : AQ B e k v0 n xs news m b p q U L s w) (hb : L b = L' b ∧ s b = s' b) (hp : L p = L' p ∧ s p = s' p) (hq : L q = L' q ∧ s q = s' q) (hm : L m = L' m ∧ s m = s' m) : AQ B e k v0 n xs news m b p q U L' s' w := by
  unfold AQ at h ⊢
  rw [← hb.1, ← hb.2, ← hp.1, ← hp.2, ← hq.1, ← hq.2, ← hm.1, ← hm.2]
  exact h
/-- The first: a new block. -/
theorem AQ.bs (h : OwnS w U (AQ B e k v0 n xs news m b p q U L s)) (hB : ∀ g ∈ U, B ≤ g) (hBw : B ≤ w.heap.size) (hp : L p = false) (hq : L q = false) (hbp : b ≠ p) (hbq : b ≠ q) (hbm : b ≠ m) :
    ∃ U', Below B w (w.alloc (.cells news.toArray e)) ∧ (∀ g, g < w.heap.size → g ∉ U → (w.alloc (.cells news.toArray e)).heap[g]? = w.heap[g]?) ∧ (∀ g ∈ U', g ∈ U ∨ w.heap.size ≤ g) ∧ OwnS (w.alloc (.cells news.toArray e)) U' (AQ B e k v0 n xs news m b p q U' (upL L b) (upS s b (.slice (some ⟨w.heap.size, 0, none⟩) 1 1))) := by
  have hbel : Below w.heap.size w (w.alloc (.cells news.toArray e)) := (Below.refl _ w).alloc (Nat.le_refl _) _
  refine ⟨w.heap.size :: U, hbel.mono hBw, fun g hg _ => hbel.block g hg, fun g hg => ?_, AQ.own ?_ fun g hg => ?_⟩
  · rcases List.mem_cons.1 hg with rfl | hg
    · exact .inr (Nat.le_refl _)
    · exact .inl hg
  · have h0 := h.now
    refine ⟨fun _ => ?_, fun _ _ => ?_, fun hp' => ?_, fun hq' => ?_, fun hq' => ?_, fun hm' => ?_⟩
    · obtain ⟨h1, h2⟩ := h0.1 hp
      exact ⟨own_sameK h1 fun g hg => hbel.block g (h.1 g (h2 g hg)), fun g hg => List.mem_cons_of_mem _ (h2 g hg)⟩
    · refine ⟨w.heap.size, List.mem_cons_self, upS_same _ _ _, fun j u hu => ?_⟩
      have := range_new w news e j u hu
      rw [Nat.zero_add] at this
      exact this
    · rw [upL_other (Ne.symm hbp), hp] at hp'
      cases hp'
    · rw [upL_other (Ne.symm hbq), hq] at hq'
      cases hq'
    · rw [upL_other (Ne.symm hbq)] at hq'
      rw [upS_other (Ne.symm hbq)]
      exact h0.2.2.2.2.1 hq'
    · rw [upL_other (Ne.symm hbm)] at hm'
      rw [upS_other (Ne.symm hbm)]
      exact h0.2.2.2.2.2 hm'
  · rcases List.mem_cons.1 hg with rfl | hg
    · simp
    · exact Nat.lt_of_lt_of_le (h.1 g hg) hbel.size
/-- The second: put behind. -/
theorem AQ.ap {t : TypeId} {i : TypeInfo} {z : Value} {bytes : Nat} (ht : Tryd.prog.underlying t = some (.slice e)) (hi : Tryd.prog.info? e = some i) (hz : i.zero = some z) (h1 : i.size = k) (h2 : i.bytes = bytes) (hzs : z.cells.size = k) (hk0 : 0 < k) (hby : bytes ≤ 120) (hl : news.length = k) (hone : ∀ u ∈ news, u.oneCell' = true) (hn : n ≤ 1000000) (ty : TypeId)
    (h : OwnS w U (AQ B e k v0 n xs news m b p q U L s)) (hB : ∀ g ∈ U, B ≤ g) (hBw : B ≤ w.heap.size) (hb : L b = true) (hp : L p = false) (hq : L q = false) (hm : L m = true) (hpq : p ≠ q) (hpm : p ≠ m) :
    ∃ v' w' U', (Builtin.append_ #[t, t] ty #[s m, s b]).run Tryd.prog w = .ok v' w' ∧ Below B w w' ∧ (∀ g, g < w.heap.size → g ∉ U → w'.heap[g]? = w.heap[g]?) ∧ (∀ g ∈ U', g ∈ U ∨ w.heap.size ≤ g) ∧ OwnS w' U' (AQ B e k v0 n xs news m b p q U' (upL L p) (upS s p v')) := by
  have h0 := h.now
  obtain ⟨ho, hoU⟩ := h0.1 hp
  obtain ⟨g, hg, hs, hc⟩ := h0.2.1 hb hp
  rw [hs, h0.2.2.2.2.2 hm]
  obtain ⟨v', w', hr, ho', hgr, _, hfr⟩ := run_append_own_at (P := Tryd.prog) w B t ty e i z k bytes ht hi hz h1 h2 hzs hk0 v0 n xs ho ⟨g, 0, none⟩ 1 1 news (by omega) (fun j u hu => by rw [Addr.add_lit, Nat.zero_add]; exact hc j u hu) hone (by unfold maxLen; omega) (by
    have : (n + 1) * bytes ≤ 1000001 * 120 := Nat.mul_le_mul (by omega) hby
    omega) hBw
  have hbel : Below B w w' := below_appK (Below.refl _ w) hgr ho hBw
  have hkeep : ∀ j, j < w.heap.size → j ∉ U → w'.heap[j]? = w.heap[j]? := fun j hj hjU => hgr.block j hj fun e => hjU (hoU j e.symm)
  refine ⟨v', w', (match v'.ownBlock with | some x => [x] | none => []), hr, hbel, hkeep, fun x hx => ?_, AQ.own ?_ fun x hx => ?_⟩
  · cases hv : v'.ownBlock with
    | none => rw [hv] at hx; cases hx
    | some y =>
      rw [hv] at hx
      obtain rfl : x = y := by simpa using hx
      rcases hfr with hf | hf
      · rw [hv] at hf
        exact .inl (hoU x hf.symm)
      · rw [hv] at hf
        have := Option.some.inj hf
        exact .inr (by omega)
  · refine ⟨fun hp' => ?_, fun _ hp' => ?_, fun _ => ?_, fun hq' => ?_, fun hq' => ?_, fun hm' => ?_⟩
    · rw [upL_same] at hp'; cases hp'
    · rw [upL_same] at hp'; cases hp'
    · rw [upS_same]
      exact ⟨ho', fun x hx => by rw [hx]; simp⟩
    · rw [upL_other (Ne.symm hpq), hq] at hq'
      cases hq'
    · rw [upL_other (Ne.symm hpq)] at hq'
      rw [upS_other (Ne.symm hpq)]
      exact h0.2.2.2.2.1 hq'
    · rw [upL_other (Ne.symm hpm)] at hm'
      rw [upS_other (Ne.symm hpm)]
      exact h0.2.2.2.2.2 hm'
  · cases hv : v'.ownBlock with
    | none => rw [hv] at hx; cases hx
    | some y =>
      rw [hv] at hx
      obtain rfl : x = y := by simpa using hx
      exact (ho'.lt x hv).2
/-- The third: kept. -/
theorem AQ.asg (h : OwnS w U (AQ B e k v0 n xs news m b p q U L s)) (hp : L p = true) (hb : L b = true) (hqp : q ≠ p) (hqm : q ≠ m) : OwnS w U (AQ B e k v0 n xs news m b p q U (upL L q) (upS s q (s p))) := by
  refine AQ.own ?_ h.1
  have h0 := h.now
  refine ⟨fun hp' => ?_, fun _ hp' => ?_, fun _ => ?_, fun _ => ?_, fun hq' => ?_, fun hm' => ?_⟩
  · rw [upL_other (Ne.symm hqp), hp] at hp'; cases hp'
  · rw [upL_other (Ne.symm hqp), hp] at hp'; cases hp'
  · rw [upS_other (Ne.symm hqp)]
    exact h0.2.2.1 hp
  · rw [upS_same, upS_other (Ne.symm hqp)]
  · rw [upL_same] at hq'
    cases hq'
  · rw [upL_other (Ne.symm hqm)] at hm'
    rw [upS_other (Ne.symm hqm)]
    exact h0.2.2.2.2.2 hm'
/-- The slice is taken. -/
theorem AQ.take (h : OwnS w U (AQ B e k v0 n xs news m b p q U L s)) (hp : L p = false) (hb : L b = true ∨ L b = false) (hq : L q = false) (hmp : m ≠ p) (hmb : m ≠ b) (hmq : m ≠ q) : s q = v0 ∧ OwnS w U (AQ B e k v0 n xs news m b p q U (upL L m) (upS s m v0)) := by
  have h0 := h.now
  refine ⟨h0.2.2.2.2.1 hq, AQ.own ?_ h.1⟩
  refine ⟨fun hp' => h0.1 hp, fun hb' hp' => ?_, fun hp' => ?_, fun hq' => ?_, fun hq' => ?_, fun _ => upS_same _ _ _⟩
  · rw [upL_other (Ne.symm hmb)] at hb'
    rw [upS_other (Ne.symm hmb)]
    exact h0.2.1 hb' hp
  · rw [upL_other (Ne.symm hmp), hp] at hp'
    cases hp'
  · rw [upL_other (Ne.symm hmq), hq] at hq'
    cases hq'
  · rw [upS_other (Ne.symm hmq)]
    exact h0.2.2.2.2.1 hq
/-- Memory that grows. -/
theorem OwnS.grow {w w' : World} {U : List Nat} {P : World → Prop} (h : OwnS w U P) (hb : Below w.heap.size w w') : OwnS w' U P := h.step hb.size fun g hg => hb.block g (h.1 g hg)
end
end Go.Proofs.YtegmckpcchhmdaaDoor

/- Put: its region 19 (a variable and a term are put behind lists of one's own). -/
namespace Go.Proofs.YtegmckpcchhmdaaDoor
open Go Go.RowKit
section
variable {P : Program} {X : Exit → Act → World → Prop}
/-- As chains, by the operation's number. -/
theorem chains2 {l : List Oper} {a0 : Act} {w0 : World} (N B C : Nat) (kept : List Nat) (Φ : Nat → Value → Prop) (chn : Nat → Option Nat) (Q : Nat → List Nat → (Nat → Bool) → (Nat → Value) → World → Prop)
    (hg : fitF N 0 kept l = true) (hN : a0.tmps.size = N) (hB : B ≤ w0.heap.size)
    (hno : ((List.range l.length).all fun i => (match l[i]? with | some o => o.dst.isSome | none => false)) = true)
    (hlt : ∀ i c, chn i = some c → i < l.length ∧ c < C)
    (h0 : ∃ U : Nat → List Nat, (∀ c, c < C → OwnS w0 (U c) (Q c (U c) (fun _ => false) (slotOf l.toArray a0))) ∧ Apart C B U)
    (hloc : ∀ c, c < C → ∀ (V : List Nat) (L L' : Nat → Bool) (s s' : Nat → Value) (w : World), (∀ i, chn i = some c → L i = L' i ∧ s i = s' i) → Q c V L s w → Q c V L' s' w)
    (hpure : ∀ i, i < l.length → chn i = none → ∀ (a : Act) (w : World), Below B w0 w → a.tmps.size = N → (∀ k, k ∈ kept → a.tmps[k]? = a0.tmps[k]?) → (∀ j, (preds (l.getD i default)).contains j = true → Φ j (slotOf l.toArray a j)) →
      if Region.wanted (l.getD i default) (yielded l.toArray a.tmps) then (l.getD i default).wp P a w (fun a' w' => ∃ v, a' = a.put (l.getD i default).dst v ∧ w' = w ∧ Φ i v) X else Φ i undef)
    (hch : ∀ i c, chn i = some c → ∀ (a : Act) (w : World) (L : Nat → Bool) (U : List Nat), Below B w0 w → a.tmps.size = N → (∀ k, k ∈ kept → a.tmps[k]? = a0.tmps[k]?) → (∀ j, (preds (l.getD i default)).contains j = true → L j = true ∧ Φ j (slotOf l.toArray a j)) → L i = false → (∀ j, j < l.length → L j = true → ∀ k, (preds (l.getD j default)).contains k = true → L k = true) →
      OwnS w U (Q c U L (slotOf l.toArray a)) → (∀ k ∈ U, B ≤ k) →
      Region.wanted (l.getD i default) (yielded l.toArray a.tmps) = true ∧ (l.getD i default).wp P a w (fun a' w' => ∃ v U', a' = a.put (l.getD i default).dst v ∧ Φ i v ∧ Below B w w' ∧ (∀ k, k < w.heap.size → k ∉ U → w'.heap[k]? = w.heap[k]?) ∧ (∀ k ∈ U', k ∈ U ∨ w.heap.size ≤ k) ∧ OwnS w' U' (Q c U' (upL L i) (upS (slotOf l.toArray a) i v))) X)
    (hend : ∀ (a : Act) (w : World), a.defers = a0.defers → a.tmps.size = N → (∀ k, k ∈ kept → a.tmps[k]? = a0.tmps[k]?) → (∀ i, i < l.length → Φ i (slotOf l.toArray a i)) → Below B w0 w → (∃ U : Nat → List Nat, (∀ c, c < C → OwnS w (U c) (Q c (U c) (fun _ => true) (slotOf l.toArray a))) ∧ Apart C B U) → X .normal a w) :
    wpAny P .any l.toArray X l.toArray.size (Array.replicate l.toArray.size false) a0 w0 := by
  have hgd : ∀ (i : Nat) (o : Oper), l[i]? = some o → l.getD i default = o := fun i o ho => by simp [List.getD_eq_getElem?_getD, ho]
  refine chains N B C kept Φ chn Q hg hN hB hno hlt h0 hloc ?_ ?_ hend
  · intro i o ho hc a w hb hn hk hp
    have h := hpure i (List.getElem?_eq_some_iff.1 ho).1 hc a w hb hn hk
    rw [hgd i o ho] at h
    exact h hp
  · intro i o c ho hc a w L U hb hn hk hp hL hd hO hU
    have h := hch i c hc a w L U hb hn hk
    rw [hgd i o ho] at h
    exact h hp hL (fun j hj hLj k hk' => hd j _ (List.getElem?_eq_getElem hj) hLj k (by rw [hgd j _ (List.getElem?_eq_getElem hj)] at hk'; exact hk')) hO hU
end
section
variable {X : Exit → Act → World → Prop} {K : Act → World → Prop} {a : Act} {w : World} {dst : Option Tmp} {ty : TypeId} {pos : String} {af : Array Edge} {gd : Option (Nat × Bool)} {k : Nat}
set_option maxRecDepth 100000 in
set_option maxHeartbeats 4000000 in
theorem op_bsB {s : ByteArray} {z : Int} (hv : a.tmps.getD k undef = .agg #[.string s, .int .i64 z]) (h : K (a.put dst (.slice (some ⟨w.heap.size, 0, none⟩) 1 1)) (w.alloc (.cells #[.string s, .int .i64 z] 36))) : Oper.wp Tryd.prog ⟨dst, .buildSlice 23 1 #[(0, .tmp k)], ty, pos, af, gd⟩ a w K X := by
  have he : a.eval (.tmp k) = .agg #[.string s, .int .i64 z] := hv
  unfold Oper.wp
  simp only [execOp, List.map_toArray, List.map_cons, List.map_nil, he]
  go_simp
  exact h
set_option maxRecDepth 100000 in
set_option maxHeartbeats 4000000 in
theorem op_bsT {i0 i2 : Int} {s1 s3 : ByteArray} {a4 a5 a6 : Option Addr} {n4 n5 n6 c4 c5 c6 : Nat} (hv : a.tmps.getD k undef = .agg #[.int .i64 i0, .string s1, .int .i64 i2, .string s3, .slice a4 n4 c4, .slice a5 n5 c5, .slice a6 n6 c6]) (h : K (a.put dst (.slice (some ⟨w.heap.size, 0, none⟩) 1 1)) (w.alloc (.cells #[.int .i64 i0, .string s1, .int .i64 i2, .string s3, .slice a4 n4 c4, .slice a5 n5 c5, .slice a6 n6 c6] 25))) : Oper.wp Tryd.prog ⟨dst, .buildSlice 22 1 #[(0, .tmp k)], ty, pos, af, gd⟩ a w K X := by
  have he : a.eval (.tmp k) = .agg #[.int .i64 i0, .string s1, .int .i64 i2, .string s3, .slice a4 n4 c4, .slice a5 n5 c5, .slice a6 n6 c6] := hv
  unfold Oper.wp
  simp only [execOp, List.map_toArray, List.map_cons, List.map_nil, he]
  go_simp
  exact h
set_option maxRecDepth 100000 in
set_option maxHeartbeats 4000000 in
theorem op_bsI {z : Int} (hv : a.tmps.getD k undef = .int .i64 z) (h : K (a.put dst (.slice (some ⟨w.heap.size, 0, none⟩) 1 1)) (w.alloc (.cells #[.int .i64 z] 3))) : Oper.wp Tryd.prog ⟨dst, .buildSlice 39 1 #[(0, .tmp k)], ty, pos, af, gd⟩ a w K X := by
  have he : a.eval (.tmp k) = .int .i64 z := hv
  unfold Oper.wp
  simp only [execOp, List.map_toArray, List.map_cons, List.map_nil, he]
  go_simp
  exact h
/-- An append whose run is known. -/
theorem op_app {w' : World} {u v v' : Value} {k1 k2 : Nat} {t : TypeId} (hs : a.tmps.getD k1 undef = v) (hx : a.tmps.getD k2 undef = u) (hr : (Builtin.append_ #[t, t] ty #[v, u]).run Tryd.prog w = .ok v' w') (h : K (a.put dst v') w') : Oper.wp Tryd.prog ⟨dst, .call { callee := .builtin .append, args := #[.tmp k1, .tmp k2], argTypes := #[t, t] }, ty, pos, af, gd⟩ a w K X := by
  have hs' : a.eval (.tmp k1) = v := hs
  have hx' : a.eval (.tmp k2) = u := hx
  unfold Oper.wp execOp
  simp only [resolve, invoke, builtin, Sem.run_bind, Sem.run_pure, Result.andThen_ok, List.map_toArray, List.map_cons, List.map_nil, hs', hx', hr]
  exact h
end
end Go.Proofs.YtegmckpcchhmdaaDoor

/- Put: region 19. -/
namespace Go.Proofs.YtegmckpcchhmdaaDoor
open Go Go.RowKit
theorem op_idx {P : Program} {Q : Exit → Act → World → Prop} {K : Act → World → Prop} {a : Act} {w : World} {dst : Option Tmp} {ty : TypeId} {pos : String} {af : Array Edge} {gd : Option (Nat × Bool)} {k1 k2 : Nat} {vx vy v : Value} {t : TypeId}
    (hx : a.tmps.getD k1 undef = vx) (hy : a.tmps.getD k2 undef = vy) (hr : (Instr.indexAt t vx vy).run P w = .ok v w) (h : K (a.put dst v) w) : Oper.wp P ⟨dst, .indexAddr t (.tmp k1) (.tmp k2), ty, pos, af, gd⟩ a w K Q := by
  have hx' : a.eval (.tmp k1) = vx := hx
  have hy' : a.eval (.tmp k2) = vy := hy
  unfold Oper.wp
  simp [execOp, hx', hy', hr, Oper.upon, h]
set_option maxRecDepth 100000 in
theorem idxB {b off n c i : Nat} (h : i < n) (w : World) : (Instr.indexAt 23 (.slice (some ⟨b, off, none⟩) n c) (.int .i64 (i : Int))).run Tryd.prog w = .ok (.pointer (some ⟨b, off + i * 2, none⟩)) w := by
  have h1 : (i : Int) < (n : Int) := by omega
  go_simp
set_option maxRecDepth 100000 in
theorem idxT {b off n c i : Nat} (h : i < n) (w : World) : (Instr.indexAt 22 (.slice (some ⟨b, off, none⟩) n c) (.int .i64 (i : Int))).run Tryd.prog w = .ok (.pointer (some ⟨b, off + i * 7, none⟩)) w := by
  have h1 : (i : Int) < (n : Int) := by omega
  go_simp
theorem infT : (Tryd.prog.info? 25).map (fun i => (i.zero, i.size, i.bytes)) = some (some (.agg #[.int .i64 0, .string ⟨#[]⟩, .int .i64 0, .string ⟨#[]⟩, .slice none 0 0, .slice none 0 0, .slice none 0 0]), 7, 120) := by kernel_rfl
/-- The block that a slice of one's own lies in. -/
def ownL (v : Value) : List Nat := v.ownBlock.toList
theorem AQ.start {B k n m b p q : Nat} {e : TypeId} {v0 : Value} {xs news : List Value} {s : Nat → Value} {w : World} (h : w.ownsRow B e k v0 n xs) (hs : s q = v0) : OwnS w (ownL v0) (AQ B e k v0 n xs news m b p q (ownL v0) (fun _ => false) s) := by
  have hmem : ∀ g, v0.ownBlock = some g → g ∈ ownL v0 := fun g hg => by unfold ownL; rw [hg]; simp
  refine AQ.own ⟨fun _ => ⟨h, hmem⟩, fun hb => (by cases hb), fun hp => (by cases hp), fun hq => (by cases hq), fun _ => hs, fun hm => (by cases hm)⟩ fun g hg => ?_
  unfold ownL at hg
  cases hv : v0.ownBlock with
  | none => rw [hv] at hg; cases hg
  | some x =>
    rw [hv] at hg
    obtain rfl : g = x := by simpa using hg
    exact (h.lt g hv).2
theorem ownL_ge {B k n : Nat} {e : TypeId} {v0 : Value} {xs : List Value} {w : World} (h : w.ownsRow B e k v0 n xs) : ∀ g ∈ ownL v0, B ≤ g := fun g hg => by
  unfold ownL at hg
  cases hv : v0.ownBlock with
  | none => rw [hv] at hg; cases hg
  | some x =>
    rw [hv] at hg
    obtain rfl : g = x := by simpa using hg
    exact (h.lt g hv).1
def kept19 : List Nat := (List.range 142).filter fun i => !(i == 8 || i == 9 || (decide (82 ≤ i) && decide (i ≤ 95)))
def chn19 (i : Nat) : Option Nat := if i = 0 ∨ i = 5 ∨ i = 6 ∨ i = 14 then some 0 else if i = 7 ∨ i = 12 ∨ i = 13 ∨ i = 15 then some 1 else none
/-- The values that do not hang on the order. -/
def phi19 (vV vM ve vt : Value) (bV oV bM oM i j : Nat) (v : Value) : Prop :=
  (j = 1 → v = vV) ∧ (j = 2 ∨ j = 9 → v = .int .i64 (i : Int)) ∧ (j = 3 → v = .pointer (some ⟨bV, oV + i * 2, none⟩)) ∧ (j = 4 → v = ve) ∧ (j = 8 → v = vM) ∧ (j = 10 → v = .pointer (some ⟨bM, oM + i * 7, none⟩)) ∧ (j = 11 → v = vt)
set_option maxRecDepth 100000 in
set_option maxHeartbeats 4000000 in
theorem put_r19 {X : Exit → Act → World → Prop} {a0 : Act} {w0 : World} {B bV oV nV cV bM oM nM cM i n m : Nat} {v8 v9 : Value} {xs ys : List Value} {s : ByteArray} {z i0 i2 : Int} {s1 s3 : ByteArray} {a4 a5 a6 : Option Addr} {n4 n5 n6 c4 c5 c6 : Nat}
    (hN : a0.tmps.size = 142) (hB : B ≤ w0.heap.size) (h1 : a0.tmps[1]? = some (.slice (some ⟨bV, oV, none⟩) nV cV)) (h2 : a0.tmps[2]? = some (.slice (some ⟨bM, oM, none⟩) nM cM)) (h10 : a0.tmps[10]? = some (.int .i64 (i : Int))) (h8 : a0.tmps[8]? = some v8) (h9 : a0.tmps[9]? = some v9)
    (hiV : i < nV) (hiM : i < nM) (hbV : bV < B) (hbM : bM < B) (cV0 : w0.rangeAt bV (oV + i * 2) [.string s, .int .i64 z]) (cM0 : w0.rangeAt bM (oM + i * 7) [.int .i64 i0, .string s1, .int .i64 i2, .string s3, .slice a4 n4 c4, .slice a5 n5 c5, .slice a6 n6 c6])
    (o8 : w0.ownsRow B 36 2 v8 n xs) (o9 : w0.ownsRow B 25 7 v9 m ys) (hap : ∀ g, v8.ownBlock = some g → v9.ownBlock ≠ some g) (hn : n ≤ 1000000) (hm : m ≤ 1000000)
    (hend : ∀ (a : Act) (w : World), a.defers = a0.defers → a.tmps.size = 142 → (∀ k, k ∈ kept19 → a.tmps[k]? = a0.tmps[k]?) → Below B w0 w → w.ownsRow B 36 2 (a.tmps.getD 8 undef) (n + 1) (xs ++ [.string s, .int .i64 z]) → w.ownsRow B 25 7 (a.tmps.getD 9 undef) (m + 1) (ys ++ [.int .i64 i0, .string s1, .int .i64 i2, .string s3, .slice a4 n4 c4, .slice a5 n5 c5, .slice a6 n6 c6]) → (∀ g, (a.tmps.getD 8 undef).ownBlock = some g → (a.tmps.getD 9 undef).ownBlock ≠ some g) → X .normal a w) :
    (Code.region 19 (regionOf Tryd.f24 19).toArray true).wp Tryd.prog X a0 w0 := by
  have hD : Below B w0 w0.drew := ((Below.refl w0.heap.size w0).drew).mono hB
  obtain ⟨iB, hiB, hzB, hsB, hbB⟩ := inf_of infBound
  obtain ⟨iT, hiT, hzT, hsT, hbT⟩ := inf_of infT
  refine wp_region_any (by kernel_rfl) ?_
  refine chains2 (l := regionOf Tryd.f24 19) (w0 := w0.drew) 142 B 2 kept19 (phi19 (.slice (some ⟨bV, oV, none⟩) nV cV) (.slice (some ⟨bM, oM, none⟩) nM cM) (.agg #[.string s, .int .i64 z]) (.agg #[.int .i64 i0, .string s1, .int .i64 i2, .string s3, .slice a4 n4 c4, .slice a5 n5 c5, .slice a6 n6 c6]) bV oV bM oM i) chn19
    (fun c => if c = 0 then AQ B 36 2 v8 n xs [.string s, .int .i64 z] 0 5 6 14 else AQ B 25 7 v9 m ys [.int .i64 i0, .string s1, .int .i64 i2, .string s3, .slice a4 n4 c4, .slice a5 n5 c5, .slice a6 n6 c6] 7 12 13 15)
    (by kernel_rfl) hN hB (by kernel_rfl) ?_ ?_ ?_ ?_ ?_ ?_
  · intro j c hj
    have hl : (regionOf Tryd.f24 19).length = 16 := by kernel_rfl
    unfold chn19 at hj
    split at hj
    · have := Option.some.inj hj; omega
    · split at hj
      · have := Option.some.inj hj; omega
      · cases hj
  · refine ⟨fun c => if c = 0 then ownL v8 else ownL v9, fun c hc => ?_, ?_⟩
    · rcases (by omega : c = 0 ∨ c = 1) with rfl | rfl
      · exact AQ.start (w := w0.drew) (own_sameK o8 fun _ _ => rfl) (getD_of h8)
      · exact AQ.start (w := w0.drew) (own_sameK o9 fun _ _ => rfl) (getD_of h9)
    · have hdis : ∀ g ∈ ownL v8, g ∉ ownL v9 := fun g hg hg' => by
        unfold ownL at hg hg'
        cases h8' : v8.ownBlock with
        | none => rw [h8'] at hg; cases hg
        | some x =>
          rw [h8'] at hg
          obtain rfl : g = x := by simpa using hg
          have := hap g h8'
          cases h9' : v9.ownBlock with
          | none => rw [h9'] at hg'; cases hg'
          | some y =>
            rw [h9'] at hg' this
            obtain rfl : g = y := by simpa using hg'
            exact this rfl
      refine ⟨fun c c' hc hc' hne k hk hk' => ?_, fun c hc k hk => ?_⟩
      · rcases (by omega : c = 0 ∧ c' = 1 ∨ c = 1 ∧ c' = 0) with ⟨rfl, rfl⟩ | ⟨rfl, rfl⟩
        · exact hdis k hk hk'
        · exact hdis k hk' hk
      · rcases (by omega : c = 0 ∨ c = 1) with rfl | rfl
        · exact ownL_ge o8 k hk
        · exact ownL_ge o9 k hk
  · intro c hc V L L' s s' w hloc h
    rcases (by omega : c = 0 ∨ c = 1) with rfl | rfl
    · exact AQ.loc h (hloc 5 rfl) (hloc 6 rfl) (hloc 14 rfl) (hloc 0 rfl)
    · exact AQ.loc h (hloc 12 rfl) (hloc 13 rfl) (hloc 15 rfl) (hloc 7 rfl)
  · intro j hj hcn a w hb hn' hk hp
    have hl : (regionOf Tryd.f24 19).length = 16 := by kernel_rfl
    rw [hl] at hj
    have hbw : Below B w0 w := hD.trans hb
    have hj' : j = 1 ∨ j = 2 ∨ j = 3 ∨ j = 4 ∨ j = 8 ∨ j = 9 ∨ j = 10 ∨ j = 11 := by
      unfold chn19 at hcn
      split at hcn
      · cases hcn
      · split at hcn
        · cases hcn
        · omega
    have ph : ∀ {i' : Nat} {v : Value}, phi19 (.slice (some ⟨bV, oV, none⟩) nV cV) (.slice (some ⟨bM, oM, none⟩) nM cM) (.agg #[.string s, .int .i64 z]) (.agg #[.int .i64 i0, .string s1, .int .i64 i2, .string s3, .slice a4 n4 c4, .slice a5 n5 c5, .slice a6 n6 c6]) bV oV bM oM i i' v ↔ phi19 (.slice (some ⟨bV, oV, none⟩) nV cV) (.slice (some ⟨bM, oM, none⟩) nM cM) (.agg #[.string s, .int .i64 z]) (.agg #[.int .i64 i0, .string s1, .int .i64 i2, .string s3, .slice a4 n4 c4, .slice a5 n5 c5, .slice a6 n6 c6]) bV oV bM oM i i' v := Iff.rfl
    rcases hj' with rfl | rfl | rfl | rfl | rfl | rfl | rfl | rfl
    · refine st_want (wnone rfl) (op_move ⟨_, rfl, rfl, ?_⟩)
      have : a.eval (.tmp 1) = .slice (some ⟨bV, oV, none⟩) nV cV := getD_of ((hk 1 (by decide)).trans h1)
      rw [this]
      simp [phi19]
    · refine st_want (wnone rfl) (op_move ⟨_, rfl, rfl, ?_⟩)
      have : a.eval (.tmp 10) = .int .i64 (i : Int) := getD_of ((hk 10 (by decide)).trans h10)
      rw [this]
      simp [phi19]
    · have e1 : a.tmps.getD 83 undef = .slice (some ⟨bV, oV, none⟩) nV cV := (hp 1 rfl).1 rfl
      have e2 : a.tmps.getD 84 undef = .int .i64 (i : Int) := (hp 2 rfl).2.1 (.inl rfl)
      exact st_want (wnone rfl) (op_idx e1 e2 (idxB hiV w) ⟨_, rfl, rfl, by simp [phi19]⟩)
    · have e1 : a.eval (.tmp 85) = .pointer (some ⟨bV, oV + i * 2, none⟩) := (hp 3 rfl).2.2.1 rfl
      exact st_want (wnone rfl) (op_load e1 (run_loadAt_mid (P := Tryd.prog) w bV (oV + i * 2) 36 _ _ (rangeAt_below cV0 hbV hbw) rfl rfl rfl) ⟨_, rfl, rfl, by simp [phi19]⟩)
    · refine st_want (wnone rfl) (op_move ⟨_, rfl, rfl, ?_⟩)
      have : a.eval (.tmp 2) = .slice (some ⟨bM, oM, none⟩) nM cM := getD_of ((hk 2 (by decide)).trans h2)
      rw [this]
      simp [phi19]
    · refine st_want (wnone rfl) (op_move ⟨_, rfl, rfl, ?_⟩)
      have : a.eval (.tmp 10) = .int .i64 (i : Int) := getD_of ((hk 10 (by decide)).trans h10)
      rw [this]
      simp [phi19]
    · have e1 : a.tmps.getD 90 undef = .slice (some ⟨bM, oM, none⟩) nM cM := (hp 8 rfl).2.2.2.2.1 rfl
      have e2 : a.tmps.getD 91 undef = .int .i64 (i : Int) := (hp 9 rfl).2.1 (.inr rfl)
      exact st_want (wnone rfl) (op_idx e1 e2 (idxT hiM w) ⟨_, rfl, rfl, by simp [phi19]⟩)
    · have e1 : a.eval (.tmp 92) = .pointer (some ⟨bM, oM + i * 7, none⟩) := (hp 10 rfl).2.2.2.2.2.1 rfl
      exact st_want (wnone rfl) (op_load e1 (run_loadAt_mid (P := Tryd.prog) w bM (oM + i * 7) 25 _ _ (rangeAt_below cM0 hbM hbw) rfl rfl rfl) ⟨_, rfl, rfl, by simp [phi19]⟩)
  · intro j c hcn a w L U hb hn' hk hp hLj hd hO hU
    have hl : (regionOf Tryd.f24 19).length = 16 := by kernel_rfl
    have hBw : B ≤ w.heap.size := Nat.le_trans hB hb.size
    have dn : ∀ j k, j < 16 → (preds ((regionOf Tryd.f24 19).getD j default)).contains k = true → L k = false → L j = false := fun j k hj hk hLk => by
      cases hL : L j with
      | false => rfl
      | true => rw [hd j (by rw [hl]; exact hj) hL k hk] at hLk; cases hLk
    have hj' : (c = 0 ∧ (j = 0 ∨ j = 5 ∨ j = 6 ∨ j = 14)) ∨ (c = 1 ∧ (j = 7 ∨ j = 12 ∨ j = 13 ∨ j = 15)) := by
      unfold chn19 at hcn
      split at hcn
      · have := Option.some.inj hcn; omega
      · split at hcn
        · have := Option.some.inj hcn; omega
        · cases hcn
    rcases hj' with ⟨rfl, hj'⟩ | ⟨rfl, hj'⟩
    · have hO : OwnS w U (AQ B 36 2 v8 n xs [.string s, .int .i64 z] 0 5 6 14 U L (slotOf (regionOf Tryd.f24 19).toArray a)) := hO
      rcases hj' with rfl | rfl | rfl | rfl
      · have l6 := dn 6 0 (by decide) rfl hLj
        have l14 := dn 14 0 (by decide) rfl hLj
        obtain ⟨e14, hO'⟩ := AQ.take hO l6 (by cases L 5 <;> simp) l14 (by decide) (by decide) (by decide)
        have e8 : a.eval (.tmp 8) = v8 := e14
        refine ⟨wnone rfl, op_move ⟨_, U, rfl, by simp [phi19], Below.refl _ _, fun _ _ _ => rfl, fun _ h => .inl h, ?_⟩⟩
        rw [e8]
        exact hO'
      · have l6 := dn 6 5 (by decide) rfl hLj
        have l14 := dn 14 5 (by decide) rfl hLj
        have e86 : a.tmps.getD 86 undef = .agg #[.string s, .int .i64 z] := (hp 4 rfl).2.2.2.2.1 rfl
        obtain ⟨U', k1, k2, k3, k4⟩ := AQ.bs hO hU hBw l6 l14 (by decide) (by decide) (by decide)
        exact ⟨wnone rfl, op_bsB e86 ⟨_, U', rfl, by simp [phi19], k1, k2, k3, k4⟩⟩
      · have l14 := dn 14 6 (by decide) rfl hLj
        obtain ⟨v', w', U', hr, k1, k2, k3, k4⟩ := AQ.ap (t := 23) tBounds hiB hzB hsB hbB rfl (by omega) (by omega) rfl (by simp [Value.oneCell']) hn 23 hO hU hBw (hp 5 rfl).1 hLj l14 (hp 0 rfl).1 (by decide) (by decide)
        exact ⟨wnone rfl, op_app rfl rfl hr ⟨_, U', rfl, by simp [phi19], k1, k2, k3, k4⟩⟩
      · have hO' := AQ.asg hO (hp 6 rfl).1 (hp 5 rfl).1 (by decide) (by decide)
        exact ⟨wnone rfl, op_assign ⟨_, U, rfl, by simp [phi19], Below.refl _ _, fun _ _ _ => rfl, fun _ h => .inl h, hO'⟩⟩
    · have hO : OwnS w U (AQ B 25 7 v9 m ys [.int .i64 i0, .string s1, .int .i64 i2, .string s3, .slice a4 n4 c4, .slice a5 n5 c5, .slice a6 n6 c6] 7 12 13 15 U L (slotOf (regionOf Tryd.f24 19).toArray a)) := hO
      rcases hj' with rfl | rfl | rfl | rfl
      · have l13 := dn 13 7 (by decide) rfl hLj
        have l15 := dn 15 7 (by decide) rfl hLj
        obtain ⟨e15, hO'⟩ := AQ.take hO l13 (by cases L 12 <;> simp) l15 (by decide) (by decide) (by decide)
        have e9 : a.eval (.tmp 9) = v9 := e15
        refine ⟨wnone rfl, op_move ⟨_, U, rfl, by simp [phi19], Below.refl _ _, fun _ _ _ => rfl, fun _ h => .inl h, ?_⟩⟩
        rw [e9]
        exact hO'
      · have l13 := dn 13 12 (by decide) rfl hLj
        have l15 := dn 15 12 (by decide) rfl hLj
        have e93 : a.tmps.getD 93 undef = .agg #[.int .i64 i0, .string s1, .int .i64 i2, .string s3, .slice a4 n4 c4, .slice a5 n5 c5, .slice a6 n6 c6] := (hp 11 rfl).2.2.2.2.2.2.2 rfl
        obtain ⟨U', k1, k2, k3, k4⟩ := AQ.bs hO hU hBw l13 l15 (by decide) (by decide) (by decide)
        exact ⟨wnone rfl, op_bsT e93 ⟨_, U', rfl, by simp [phi19], k1, k2, k3, k4⟩⟩
      · have l15 := dn 15 13 (by decide) rfl hLj
        obtain ⟨v', w', U', hr, k1, k2, k3, k4⟩ := AQ.ap (t := 22) tTerms hiT hzT hsT hbT rfl (by omega) (by omega) rfl (by simp [Value.oneCell']) hm 22 hO hU hBw (hp 12 rfl).1 hLj l15 (hp 7 rfl).1 (by decide) (by decide)
        exact ⟨wnone rfl, op_app rfl rfl hr ⟨_, U', rfl, by simp [phi19], k1, k2, k3, k4⟩⟩
      · have hO' := AQ.asg hO (hp 13 rfl).1 (hp 12 rfl).1 (by decide) (by decide)
        exact ⟨wnone rfl, op_assign ⟨_, U, rfl, by simp [phi19], Below.refl _ _, fun _ _ _ => rfl, fun _ h => .inl h, hO'⟩⟩
  · intro a w hdf hn' hk _ hb ⟨U, hUo, hA⟩
    have k0 := (hUo 0 (by decide)).now
    have k1 := (hUo 1 (by decide)).now
    have k0 : AQ B 36 2 v8 n xs [.string s, .int .i64 z] 0 5 6 14 (U 0) (fun _ => true) (slotOf (regionOf Tryd.f24 19).toArray a) w := k0
    have k1 : AQ B 25 7 v9 m ys [.int .i64 i0, .string s1, .int .i64 i2, .string s3, .slice a4 n4 c4, .slice a5 n5 c5, .slice a6 n6 c6] 7 12 13 15 (U 1) (fun _ => true) (slotOf (regionOf Tryd.f24 19).toArray a) w := k1
    have q0 : a.tmps.getD 8 undef = slotOf (regionOf Tryd.f24 19).toArray a 6 := k0.2.2.2.1 rfl
    have q1 : a.tmps.getD 9 undef = slotOf (regionOf Tryd.f24 19).toArray a 13 := k1.2.2.2.1 rfl
    refine hend a w hdf hn' hk (hD.trans hb) ?_ ?_ ?_
    · rw [q0]; exact (k0.2.2.1 rfl).1
    · rw [q1]; exact (k1.2.2.1 rfl).1
    · rw [q0, q1]
      exact fun g h1 h2 => hA.1 0 1 (by decide) (by decide) (by decide) g ((k0.2.2.1 rfl).2 g h1) ((k1.2.2.1 rfl).2 g h2)
end Go.Proofs.YtegmckpcchhmdaaDoor

/- A region whose world-changing operations come one behind the other, with one store at its end: whatever order the rest is in. -/
namespace Go.Proofs.YtegmckpcchhmdaaDoor
open Go Go.RowKit
section
variable {P : Program} {X : Exit → Act → World → Prop}
theorem seqS {l : List Oper} {a0 : Act} {w0 : World} (N S : Nat) (kept : List Nat) (Φ : Nat → Value → Prop) (chn : Nat → Bool) (Q : (Nat → Bool) → (Nat → Value) → World → Prop)
    (hg : fitF N 0 kept l = true) (hN : a0.tmps.size = N)
    (hsl : S < l.length) (hsd : (l.getD S default).dst = none) (hsg : (l.getD S default).guard = none) (hsp : ((List.range l.length).all fun i => i == S || (preds (l.getD S default)).contains i) = true)
    (hno : ((List.range l.length).all fun i => i == S || (match l[i]? with | some o => o.dst.isSome | none => false)) = true) (JS : Act → World → Prop) (hΦs : ∀ v, Φ S v)
    (hlt : ∀ i, chn i = true → i < l.length ∧ i ≠ S)
    (h0 : Q (fun _ => false) (slotOf l.toArray a0) w0)
    (hloc : ∀ (L L' : Nat → Bool) (s s' : Nat → Value) (w : World), (∀ i, chn i = true → L i = L' i ∧ s i = s' i) → Q L s w → Q L' s' w)
    (hpure : ∀ i, i < l.length → chn i = false → i ≠ S → ∀ (a : Act) (w : World) (L : Nat → Bool), a.tmps.size = N → (∀ k, k ∈ kept → a.tmps[k]? = a0.tmps[k]?) → (∀ j, (preds (l.getD i default)).contains j = true → Φ j (slotOf l.toArray a j)) → Q L (slotOf l.toArray a) w →
      Region.wanted (l.getD i default) (yielded l.toArray a.tmps) = true ∧ (l.getD i default).wp P a w (fun a' w' => ∃ v, a' = a.put (l.getD i default).dst v ∧ w' = w ∧ Φ i v) X)
    (hch : ∀ i, chn i = true → ∀ (a : Act) (w : World) (L : Nat → Bool), a.tmps.size = N → (∀ k, k ∈ kept → a.tmps[k]? = a0.tmps[k]?) → (∀ j, (preds (l.getD i default)).contains j = true → L j = true ∧ Φ j (slotOf l.toArray a j)) → L i = false → (∀ j, j < l.length → L j = true → ∀ k, (preds (l.getD j default)).contains k = true → L k = true) → Q L (slotOf l.toArray a) w →
      Region.wanted (l.getD i default) (yielded l.toArray a.tmps) = true ∧ (l.getD i default).wp P a w (fun a' w' => ∃ v, a' = a.put (l.getD i default).dst v ∧ Φ i v ∧ Q (upL L i) (upS (slotOf l.toArray a) i v) w') X)
    (hstore : ∀ (a : Act) (w : World), a.tmps.size = N → (∀ k, k ∈ kept → a.tmps[k]? = a0.tmps[k]?) → (∀ i, i < l.length → i ≠ S → Φ i (slotOf l.toArray a i)) → Q (fun _ => true) (slotOf l.toArray a) w → (l.getD S default).wp P a w (fun a' w' => a' = a ∧ JS a w') X)
    (hend : ∀ (a : Act) (w : World), a.defers = a0.defers → a.tmps.size = N → (∀ k, k ∈ kept → a.tmps[k]? = a0.tmps[k]?) → JS a w → X .normal a w) :
    wpAny P .any l.toArray X l.toArray.size (Array.replicate l.toArray.size false) a0 w0 := by
  have hgd : ∀ (i : Nat) (o : Oper), l[i]? = some o → l.getD i default = o := fun i o ho => by simp [List.getD_eq_getElem?_getD, ho]
  have hs : l[S]? = some (l.getD S default) := by simp [List.getD_eq_getElem?_getD, hsl]
  have hspec := fitF_spec l 0 kept hg
  have hdst : ∀ (i : Nat) (o : Oper), l[i]? = some o → i ≠ S → ∃ d, o.dst = some d := fun i o ho hne => by
    have hi := (List.getElem?_eq_some_iff.1 ho).1
    have h := List.all_eq_true.1 hno i (List.mem_range.2 hi)
    simp only [ho, Bool.or_eq_true, beq_iff_eq] at h
    exact Option.isSome_iff_exists.1 (h.resolve_left hne)
  have hslot : ∀ (i : Nat) (o : Oper) (k : Nat) (ok : Oper) (a : Act) (v : Value), l[i]? = some o → l[k]? = some ok → k ≠ i → k ≠ S → slotOf l.toArray (a.put o.dst v) k = slotOf l.toArray a k := fun i o k ok a v ho hk hne hkS => by
    obtain ⟨dk, hdk⟩ := hdst k ok hk hkS
    have hk' : l.toArray[k]? = some ok := by simpa using hk
    cases hd : o.dst with
    | none => rfl
    | some d =>
      refine slot_put_other hk' hdk fun e => ?_
      subst e
      rcases Nat.lt_or_gt_of_ne hne with h | h
      · exact ((hspec i o ho).2 d hd).2.2 k ok h hk hdk
      · exact ((hspec k ok hk).2 d hdk).2.2 i o h ho hd
  have hself : ∀ (i : Nat) (o : Oper) (a : Act) (v : Value), l[i]? = some o → i ≠ S → a.tmps.size = N → slotOf l.toArray (a.put o.dst v) i = v := fun i o a v ho hiS hn => by
    obtain ⟨d, hd⟩ := hdst i o ho hiS
    have ho' : l.toArray[i]? = some o := by simpa using ho
    exact slot_put_same (a := a) (v := v) ho' hd (by have := ((hspec i o ho).2 d hd).2.1; omega)
  have hget : ∀ (listed : Array Bool) (i j : Nat), i ≠ j → (listed.setIfInBounds i true).getD j false = listed.getD j false := fun listed i j e => getD_set_ne false e
  have hall : ∀ j, j < l.length → j ≠ S → (preds (l.getD S default)).contains j = true := fun j hj hjS => by
    have h := List.all_eq_true.1 hsp j (List.mem_range.2 hj)
    simp only [Bool.or_eq_true, beq_iff_eq] at h
    exact h.resolve_left hjS
  refine stepsF N kept Φ (fun listed a w => (listed.getD S false = true → JS a w) ∧ (listed.getD S false = false → Q (fun j => listed.getD j false) (slotOf l.toArray a) w)) hg hN ?_ ?_ ?_ ?_
  · have hrep : ∀ i, (Array.replicate l.length false).getD i false = false := fun i => by
      simp only [Array.getD_eq_getD_getElem?, Array.getElem?_replicate]
      split <;> rfl
    exact ⟨fun h => (by rw [hrep] at h; cases h), fun _ => hloc _ _ _ _ w0 (fun i _ => ⟨(hrep i).symm, rfl⟩) h0⟩
  · intro i o ho listed a w hsz hun hdown hdf hn hk hpr hJ
    have hi := (List.getElem?_eq_some_iff.1 ho).1
    have hun' : listed.getD i false = false := by
      have h1 : i < listed.size := by omega
      simpa [h1] using hun
    have hset : (listed.setIfInBounds i true).getD i false = true := by
      have h1 : i < listed.size := by omega
      simp [h1]
    by_cases hiS : i = S
    · subst hiS
      rw [hs] at ho
      injection ho with ho
      subst ho
      have hw : Region.wanted (l.getD i default) (yielded l.toArray a.tmps) = true := by simp only [Region.wanted, hsg]
      rw [if_pos hw]
      refine Oper.wp_mono ?_ (hstore a w hn hk (fun j hj hjS => (hpr j (hall j hj hjS)).2) (hloc _ _ _ _ w (fun j hj => ⟨(hpr j (hall j (hlt j hj).1 (hlt j hj).2)).1, rfl⟩) (hJ.2 hun')))
      rintro a' w' ⟨rfl, hJS⟩
      refine ⟨undef, (by rw [hsd]; rfl), (fun h => by rw [hsd] at h; cases h), (fun _ => hJS), fun h => ?_⟩
      rw [hset] at h
      cases h
    have hl0 : listed.getD S false = false := by
      cases h : listed.getD S false with
      | false => rfl
      | true =>
        have h2 := hdown S _ hs h i (hall i hi hiS)
        rw [hun'] at h2
        cases h2
    have hsame : (listed.setIfInBounds i true).getD S false = false := (hget listed i S hiS).trans hl0
    have hQ := hJ.2 hl0
    have hno' : ∀ {Y : Prop}, (listed.setIfInBounds i true).getD S false = true → Y := fun h => by rw [hsame] at h; cases h
    have ed := hgd i o ho
    cases hc : chn i with
    | false =>
      obtain ⟨hw, h⟩ := hpure i hi hc hiS a w (fun j => listed.getD j false) hn hk (fun j hj => (hpr j (by rw [ed] at hj; exact hj)).2) hQ
      rw [ed] at hw h
      rw [if_pos hw]
      refine Oper.wp_mono ?_ h
      rintro a' w' ⟨v, rfl, rfl, hv⟩
      refine ⟨v, rfl, fun _ => hv, hno', fun _ => hloc _ _ _ _ w' (fun j hj => ?_) hQ⟩
      have hne : i ≠ j := fun e => by rw [← e, hc] at hj; cases hj
      obtain ⟨hjl, hjS⟩ := hlt j hj
      exact ⟨(hget listed i j hne).symm, (hslot i o j _ a v ho (List.getElem?_eq_getElem hjl) (Ne.symm hne) hjS).symm⟩
    | true =>
      obtain ⟨hw, h⟩ := hch i hc a w (fun j => listed.getD j false) hn hk (fun j hj => hpr j (by rw [ed] at hj; exact hj)) hun' (fun j hj h2 k h3 => hdown j _ (List.getElem?_eq_getElem hj) h2 k (by rw [hgd j _ (List.getElem?_eq_getElem hj)] at h3; exact h3)) hQ
      rw [ed] at hw h
      rw [if_pos hw]
      refine Oper.wp_mono ?_ h
      rintro a' w' ⟨v, rfl, hv, hQ'⟩
      refine ⟨v, rfl, fun _ => hv, hno', fun _ => hloc _ _ _ _ w' (fun j hj => ?_) hQ'⟩
      by_cases ej : j = i
      · subst ej
        rw [upL_same, upS_same]
        exact ⟨hset.symm, (hself j o a v ho hiS hn).symm⟩
      · obtain ⟨hjl, hjS⟩ := hlt j hj
        rw [upL_other ej, upS_other ej]
        exact ⟨(hget listed i j (Ne.symm ej)).symm, (hslot i o j _ a v ho (List.getElem?_eq_getElem hjl) ej hjS).symm⟩
  · intro i o ho hd v
    by_cases hiS : i = S
    · subst hiS
      exact hΦs v
    · obtain ⟨d, hd'⟩ := hdst i o ho hiS
      rw [hd] at hd'
      cases hd'
  · intro listed a w hsz hall hdf hn hk hΦ hJ
    exact hend a w hdf hn hk (hJ.1 (hall S hsl))
end
/-- As TmAt, TmO says it. -/
theorem TmAt.o {w : World} {B : Nat} : ∀ {d b o : Nat} {t : Tm}, TmAt w B d b o t → TmO w (fun k => k < B) d b o t
  | 0, _, _, _, h => h.elim
  | d + 1, b, o, t, ⟨hb, h1, h2, aL, aV, aP, cL, cV, cP, hr, hL, hV, hP, hx⟩ =>
    ⟨hb, h1, h2, aL, aV, aP, cL, cV, cP, hr, ⟨hL.1, hL.2.1, fun h0 => by
      obtain ⟨b', off, e, hb', hj⟩ := hL.2.2 h0
      exact ⟨b', off, e, hb', fun j hjn u hu => (hj j hjn u hu).o⟩⟩, hV, ⟨hP.1, hP.2.1, fun h0 => by
      obtain ⟨b', off, e, hb', hj⟩ := hP.2.2 h0
      exact ⟨b', off, e, hb', fun j hjn u hu => (hj j hjn u hu).o⟩⟩, hx⟩
theorem IsT.o {w : World} {B d : Nat} {v : Value} {t : Tm} (h : IsT w B d v t) : IsO w (fun k => k < B) d v t := by
  obtain ⟨h1, h2, aL, aV, aP, cL, cV, cP, hr, hL, hV, hP⟩ := h
  refine ⟨h1, h2, aL, aV, aP, cL, cV, cP, hr, ⟨hL.1, hL.2.1, fun h0 => ?_⟩, hV, ⟨hP.1, hP.2.1, fun h0 => ?_⟩⟩
  · obtain ⟨b', off, e, hb', hj⟩ := hL.2.2 h0
    exact ⟨b', off, e, hb', fun j hjn u hu => (hj j hjn u hu).o⟩
  · obtain ⟨b', off, e, hb', hj⟩ := hP.2.2 h0
    exact ⟨b', off, e, hb', fun j hjn u hu => (hj j hjn u hu).o⟩
/-- Elements that lie, cell by cell, in a slice that is being made. -/
def El (w : World) (P : Nat → Prop) (d : Nat) (ts : List Tm) (xs : List Value) : Prop := xs.length = ts.length * 7 ∧ ∀ j t, ts[j]? = some t → ∃ cs : List Value, cs.length = 7 ∧ (∀ i, i < 7 → xs[j * 7 + i]? = cs[i]?) ∧ IsO w P d (.agg cs.toArray) t
theorem El.nil {w : World} {P : Nat → Prop} {d : Nat} : El w P d [] [] := ⟨rfl, fun j t h => by simp at h⟩
theorem El.keep {w w' : World} {P P' : Nat → Prop} {d : Nat} {ts : List Tm} {xs : List Value} (h : El w P d ts xs) (hk : ∀ k, P k → P' k ∧ w'.heap[k]? = w.heap[k]?) : El w' P' d ts xs := ⟨h.1, fun j t ht => by
  obtain ⟨cs, h1, h2, h3⟩ := h.2 j t ht
  exact ⟨cs, h1, h2, h3.keep hk (Nat.le_refl d)⟩⟩
theorem El.snoc {w : World} {P : Nat → Prop} {d : Nat} {ts : List Tm} {xs cs : List Value} {t : Tm} (h : El w P d ts xs) (hc : cs.length = 7) (ht : IsO w P d (.agg cs.toArray) t) : El w P d (ts ++ [t]) (xs ++ cs) := by
  refine ⟨by simp [h.1, hc]; omega, fun j u hu => ?_⟩
  by_cases hj : j < ts.length
  · rw [List.getElem?_append_left hj] at hu
    obtain ⟨c, h1, h2, h3⟩ := h.2 j u hu
    refine ⟨c, h1, fun i hi => ?_, h3⟩
    rw [List.getElem?_append_left (by rw [h.1]; omega)]
    exact h2 i hi
  · have hj2 : j < (ts ++ [t]).length := (List.getElem?_eq_some_iff.1 hu).1
    obtain rfl : j = ts.length := by simp at hj2; omega
    have e : u = t := by simpa using hu.symm
    subst e
    refine ⟨cs, hc, fun i hi => ?_, ht⟩
    rw [List.getElem?_append_right (by rw [h.1]; omega), h.1]
    congr 1
    omega
/-- A slice of one's own of such elements. -/
theorem El.row {w : World} {B B' d n : Nat} {P : Nat → Prop} {v : Value} {ts : List Tm} {xs : List Value} (hE : El w P d ts xs) (ho : w.ownsRow B 25 7 v n xs) (hn : n = ts.length) (hP : ∀ g, v.ownBlock = some g → P g) (hl : n ≤ 281474976710656) : ∃ a c, v = .slice a n c ∧ RowP P a n c 7 (fun b o j => ∀ u, ts[j]? = some u → TmO w P (d + 1) b o u) := by
  obtain ⟨a, c, rfl, hc, hr⟩ := own_cells ho
  refine ⟨a, c, rfl, hc, hl, fun h0 => ?_⟩
  obtain ⟨g, rfl, _, hg, hj⟩ := hr h0
  refine ⟨g, 0, rfl, hP g rfl, fun j hjn u hu => ?_⟩
  obtain ⟨cs, h1, h2, h3⟩ := hE.2 j u hu
  obtain ⟨q1, q2, aL, aV, aP, cL, cV, cP, e, hL, hV, hPt⟩ := h3
  refine ⟨hP g rfl, q1, q2, aL, aV, aP, cL, cV, cP, fun i x hx => ?_, hL, hV, hPt, trivial⟩
  have ecs : cs = tcells u aL aV aP cL cV cP := by
    injection e with e
    simpa using congrArg Array.toList e
  have hi : i < 7 := by
    have := (List.getElem?_eq_some_iff.1 hx).1
    simpa [tcells] using this
  rw [show 0 + j * 7 + i = j * 7 + i by omega]
  refine hj _ x ?_
  rw [h2 i hi, ecs]
  exact hx
end Go.Proofs.YtegmckpcchhmdaaDoor

namespace Go.Proofs.YtegmckpcchhmdaaDoor
open Go Go.RowKit
/-- Blocks that stay: the arguments', or new ones that are neither the slice's own nor the box. -/
def Gd (B E0 : Nat) (v : Value) (r : Nat) (w : World) (k : Nat) : Prop := k < B ∨ (E0 ≤ k ∧ k < w.heap.size ∧ v.ownBlock ≠ some k ∧ k ≠ r)
/-- Blocks of an answer: the arguments', or such as were made in the call. -/
def NBk (B H : Nat) (w : World) (k : Nat) : Prop := k < B ∨ (H ≤ k ∧ k < w.heap.size)
theorem enter_Put : Enters Tryd.prog 24 := ⟨fun xs w => by go_simp⟩
theorem op_store {P : Program} {Q : Exit → Act → World → Prop} {K : Act → World → Prop} {a : Act} {w w' : World} {ty : TypeId} {pos : String} {af : Array Edge} {gd : Option (Nat × Bool)} {x y : Operand} {vx vy : Value} {t : TypeId} (hx : a.eval x = vx) (hy : a.eval y = vy) (hr : (Instr.storeAt t vx vy).run P w = .ok () w') (h : K a w') : Oper.wp P ⟨none, .store t x y, ty, pos, af, gd⟩ a w K Q := by
  unfold Oper.wp
  simp [execOp, hx, hy, hr, Oper.upon, Act.put, h]
set_option maxRecDepth 100000 in
theorem fa4 (r : Nat) (w : World) : (Instr.fieldAt 25 (.pointer (some ⟨r, 0, none⟩)) 4).run Tryd.prog w = .ok (.pointer (some ⟨r, 4, none⟩)) w := by go_simp
set_option maxRecDepth 100000 in
theorem fa6 (r : Nat) (w : World) : (Instr.fieldAt 25 (.pointer (some ⟨r, 0, none⟩)) 6).run Tryd.prog w = .ok (.pointer (some ⟨r, 6, none⟩)) w := by go_simp
set_option maxRecDepth 100000 in
theorem ld1 {r o : Nat} {v : Value} {w : World} (h : w.cell? ⟨r, o, none⟩ = some v) : (Instr.loadAt 22 (.pointer (some ⟨r, o, none⟩))).run Tryd.prog w = .ok v w := by
  go_simp
set_option maxRecDepth 100000 in
theorem st1 {r o n c : Nat} {a : Option Addr} {v : Value} {oc : Array Value} {w : World} (h : w.heap[r]? = some (.cells oc 25)) (ho : oc[o]? = some v) : (Instr.storeAt 22 (.pointer (some ⟨r, o, none⟩)) (.slice a n c)).run Tryd.prog w = .ok () (w.setCell ⟨r, o, none⟩ (.slice a n c)) := by
  have h1 := (blk h).2.1 o v ho
  have h2 := (blk h).2.2 o
  go_simp
/-- How far the region has come. -/
def PQ (w0 : World) (B E0 n d : Nat) (v0 : Value) (xs : List Value) (u' : Tm) (L : Nat → Bool) (s : Nat → Value) (w : World) : Prop :=
  Below E0 w0 w ∧ w0.heap.size ≤ w.heap.size ∧ (∀ k, k < w0.heap.size → v0.ownBlock ≠ some k → w.heap[k]? = w0.heap[k]?) ∧
  (L 1 = true → s 1 = v0) ∧ (L 11 = false → w.ownsRow E0 25 7 v0 n xs) ∧ (L 9 = false → Below w0.heap.size w0 w) ∧
  (L 9 = true → ∃ M, w0.heap.size ≤ M ∧ M ≤ w.heap.size ∧ IsO w (fun k => k < B ∨ (w0.heap.size ≤ k ∧ k < M)) d (s 9) u' ∧ (L 11 = true → ∃ cs : List Value, s 9 = .agg cs.toArray ∧ cs.length = 7 ∧ w.ownsRow E0 25 7 (s 11) (n + 1) (xs ++ cs) ∧ ∀ g, (s 11).ownBlock = some g → v0.ownBlock = some g ∨ M ≤ g)) ∧
  (L 10 = true → L 11 = false → ∃ (g : Nat) (cs : List Value), s 10 = .slice (some ⟨g, 0, none⟩) 1 1 ∧ s 9 = .agg cs.toArray ∧ cs.length = 7 ∧ (∀ u ∈ cs, u.oneCell' = true) ∧ ∀ (j : Nat) u, cs[j]? = some u → w.cell? ⟨g, j, none⟩ = some u)
section
variable {w0 w : World} {B E0 n d r r3 : Nat} {v0 : Value} {xs : List Value} {u' : Tm} {L : Nat → Bool} {s : Nat → Value}
theorem PQ.start (ho : w0.ownsRow E0 25 7 v0 n xs) (hE : E0 ≤ w0.heap.size) : PQ w0 B E0 n d v0 xs u' (fun _ => false) s w0.drew :=
  ⟨((Below.refl w0.heap.size w0).drew).mono hE, Nat.le_refl _, fun _ _ _ => rfl, fun h => (by cases h), fun _ => own_sameK ho fun _ _ => rfl, fun _ => (Below.refl w0.heap.size w0).drew, fun h => (by cases h), fun h => (by cases h)⟩
theorem PQ.loc {L' : Nat → Bool} {s' : Nat → Value} (h : PQ w0 B E0 n d v0 xs u' L s w) (h1 : L 1 = L' 1 ∧ s 1 = s' 1) (h9 : L 9 = L' 9 ∧ s 9 = s' 9) (h10 : L 10 = L' 10 ∧ s 10 = s' 10) (h11 : L 11 = L' 11 ∧ s 11 = s' 11) : PQ w0 B E0 n d v0 xs u' L' s' w := by
  unfold PQ at h ⊢
  rw [← h1.1, ← h1.2, ← h9.1, ← h9.2, ← h10.1, ← h10.2, ← h11.1, ← h11.2]
  exact h
theorem PQ.took (h : PQ w0 B E0 n d v0 xs u' L s w) : PQ w0 B E0 n d v0 xs u' (upL L 1) (upS s 1 v0) w := by
  unfold PQ
  rw [upL_same, upS_same, upL_other (show 11 ≠ 1 by decide), upS_other (show 11 ≠ 1 by decide), upL_other (show 9 ≠ 1 by decide), upS_other (show 9 ≠ 1 by decide), upL_other (show 10 ≠ 1 by decide), upS_other (show 10 ≠ 1 by decide)]
  exact ⟨h.1, h.2.1, h.2.2.1, fun _ => rfl, h.2.2.2.2.1, h.2.2.2.2.2.1, h.2.2.2.2.2.2.1, h.2.2.2.2.2.2.2⟩
theorem PQ.called {w' : World} {v : Value} (h : PQ w0 B E0 n d v0 xs u' L s w) (hE : E0 ≤ w0.heap.size) (l10 : L 10 = false) (l11 : L 11 = false) (hb : Below w0.heap.size w0 w) (hb' : Below w.heap.size w w') (hI : IsO w' (NBk B w.heap.size w') d v u') : PQ w0 B E0 n d v0 xs u' (upL L 9) (upS s 9 v) w' := by
  have ho := h.2.2.2.2.1 l11
  have hb0 : Below w0.heap.size w0 w' := hb.trans (hb'.mono hb.size)
  unfold PQ
  rw [upL_same, upS_same, upL_other (show 11 ≠ 9 by decide), upS_other (show 11 ≠ 9 by decide), upL_other (show 1 ≠ 9 by decide), upS_other (show 1 ≠ 9 by decide), upL_other (show 10 ≠ 9 by decide), upS_other (show 10 ≠ 9 by decide)]
  refine ⟨h.1.trans (hb'.mono (Nat.le_trans hE h.2.1)), hb0.size, fun k hk _ => hb0.block k hk, h.2.2.2.1, fun _ => own_sameK ho fun g hg => hb'.block g (ho.lt g hg).2, fun h9 => (by cases h9), fun _ => ⟨w'.heap.size, hb0.size, Nat.le_refl _, hI.keep (fun k hk => ⟨?_, rfl⟩) (Nat.le_refl d), fun h11 => (by rw [l11] at h11; cases h11)⟩, fun h10 => (by rw [l10] at h10; cases h10)⟩
  rcases hk with h1 | h1
  · exact .inl h1
  · exact .inr ⟨Nat.le_trans hb.size h1.1, h1.2⟩
theorem IsO.seven {P : Nat → Prop} {v : Value} {t : Tm} (h : IsO w P d v t) : ∃ (i0 i2 : Int) (s1 s3 : ByteArray) (a4 a5 a6 : Option Addr) (n4 n5 n6 c4 c5 c6 : Nat), v = .agg #[.int .i64 i0, .string s1, .int .i64 i2, .string s3, .slice a4 n4 c4, .slice a5 n5 c5, .slice a6 n6 c6] := by
  obtain ⟨_, _, aL, aV, aP, cL, cV, cP, e, _⟩ := h
  exact ⟨_, _, _, _, _, _, _, _, _, _, _, _, _, e⟩
theorem PQ.seven (h : PQ w0 B E0 n d v0 xs u' L s w) (l9 : L 9 = true) : ∃ (M : Nat) (i0 i2 : Int) (s1 s3 : ByteArray) (a4 a5 a6 : Option Addr) (n4 n5 n6 c4 c5 c6 : Nat), s 9 = .agg #[.int .i64 i0, .string s1, .int .i64 i2, .string s3, .slice a4 n4 c4, .slice a5 n5 c5, .slice a6 n6 c6] ∧ IsO w (fun k => k < B ∨ (w0.heap.size ≤ k ∧ k < M)) d (s 9) u' := by
  obtain ⟨M, _, _, hI, _⟩ := h.2.2.2.2.2.2.1 l9
  obtain ⟨i0, i2, s1, s3, a4, a5, a6, n4, n5, n6, c4, c5, c6, e⟩ := hI.seven
  exact ⟨M, i0, i2, s1, s3, a4, a5, a6, n4, n5, n6, c4, c5, c6, e, hI⟩
theorem PQ.made {cs : List Value} (h : PQ w0 B E0 n d v0 xs u' L s w) (hE : E0 ≤ w0.heap.size) (hB : B ≤ E0) (hone : ∀ u ∈ cs, u.oneCell' = true) (hlen : cs.length = 7) (l9 : L 9 = true) (l11 : L 11 = false) (e : s 9 = .agg cs.toArray) : PQ w0 B E0 n d v0 xs u' (upL L 10) (upS s 10 (.slice (some ⟨w.heap.size, 0, none⟩) 1 1)) (w.alloc (.cells cs.toArray 25)) := by
  have hb' : Below w.heap.size w (w.alloc (.cells cs.toArray 25)) := (Below.refl _ w).alloc (Nat.le_refl _) _
  have ho := h.2.2.2.2.1 l11
  have hs0 := h.2.1
  obtain ⟨M, hM1, hM2, hI, _⟩ := h.2.2.2.2.2.2.1 l9
  unfold PQ
  rw [upL_same, upS_same, upL_other (show 11 ≠ 10 by decide), upS_other (show 11 ≠ 10 by decide), upL_other (show 1 ≠ 10 by decide), upS_other (show 1 ≠ 10 by decide), upL_other (show 9 ≠ 10 by decide), upS_other (show 9 ≠ 10 by decide)]
  refine ⟨h.1.trans (hb'.mono (by omega)), Nat.le_trans hs0 hb'.size, fun k hk hne => (hb'.block k (by omega)).trans (h.2.2.1 k hk hne), h.2.2.2.1, fun _ => own_sameK ho fun g hg => hb'.block g (ho.lt g hg).2, fun h9 => (by rw [l9] at h9; cases h9), fun _ => ⟨M, hM1, Nat.le_trans hM2 hb'.size, hI.keep (fun k hk => ⟨hk, hb'.block k (by rcases hk with h1 | h1 <;> omega)⟩) (Nat.le_refl d), fun h11 => (by rw [l11] at h11; cases h11)⟩, fun _ _ => ⟨w.heap.size, cs, rfl, e, hlen, hone, fun j u hu => ?_⟩⟩
  have := range_new w cs 25 j u hu
  rw [Nat.zero_add] at this
  exact this
theorem PQ.put {t : TypeId} {i : TypeInfo} {z : Value} (h : PQ w0 B E0 n d v0 xs u' L s w) (ht : Tryd.prog.underlying t = some (.slice 25)) (hi : Tryd.prog.info? 25 = some i) (hz : i.zero = some z) (h1 : i.size = 7) (h2 : i.bytes = 120) (hzs : z.cells.size = 7) (hn : n ≤ 1000000) (hE : E0 ≤ w0.heap.size) (hB : B ≤ E0) (hov : ∀ g, v0.ownBlock = some g → g < w0.heap.size) (l9 : L 9 = true) (l10 : L 10 = true) (l11 : L 11 = false) (l1 : L 1 = true) (ty : TypeId) :
    ∃ v' w', (Builtin.append_ #[t, t] ty #[s 1, s 10]).run Tryd.prog w = .ok v' w' ∧ PQ w0 B E0 n d v0 xs u' (upL L 11) (upS s 11 v') w' := by
  have ho := h.2.2.2.2.1 l11
  have hs0 := h.2.1
  obtain ⟨M, hM1, hM2, hI, _⟩ := h.2.2.2.2.2.2.1 l9
  obtain ⟨g, cs, e10, e9, hlen, hone, hc⟩ := h.2.2.2.2.2.2.2 l10 l11
  rw [h.2.2.2.1 l1, e10]
  obtain ⟨v', w', hr, ho', hgr, _, hfr⟩ := run_append_own_at (P := Tryd.prog) w E0 t ty 25 i z 7 120 ht hi hz h1 h2 hzs (by omega) v0 n xs ho ⟨g, 0, none⟩ 1 1 cs (by omega) (fun j u hu => by rw [Addr.add_lit, Nat.zero_add]; exact hc j u hu) hone (by unfold maxLen; omega) (by omega) (by omega)
  have hbel : Below E0 w w' := below_appK (Below.refl _ w) hgr ho (by omega)
  refine ⟨v', w', hr, ?_⟩
  have hkeep : ∀ k, k < w.heap.size → v0.ownBlock ≠ some k → w'.heap[k]? = w.heap[k]? := fun k hk hne => hgr.block k hk fun e => hne e.symm
  unfold PQ
  rw [upL_same, upS_same, upL_other (show 10 ≠ 11 by decide), upS_other (show 10 ≠ 11 by decide), upL_other (show 1 ≠ 11 by decide), upS_other (show 1 ≠ 11 by decide), upL_other (show 9 ≠ 11 by decide), upS_other (show 9 ≠ 11 by decide)]
  refine ⟨h.1.trans hbel, Nat.le_trans hs0 hbel.size, fun k hk hne => (hkeep k (by omega) hne).trans (h.2.2.1 k hk hne), h.2.2.2.1, fun h11 => (by cases h11), fun h9 => (by rw [l9] at h9; cases h9), fun _ => ⟨M, hM1, Nat.le_trans hM2 hbel.size, hI.keep (fun k hk => ⟨hk, ?_⟩) (Nat.le_refl d), fun _ => ⟨cs, e9, hlen, ho', fun x hx => ?_⟩⟩, fun _ h11 => (by cases h11)⟩
  · refine hkeep k (by rcases hk with h1 | h1 <;> omega) fun e => ?_
    have q1 := hov k e
    have q2 := (ho.lt k e).1
    rcases hk with h1 | h1 <;> omega
  · rcases hfr with hf | hf
    · exact .inl (by rw [← hf]; exact hx)
    · rw [hx] at hf
      have := Option.some.inj hf
      exact .inr (by omega)
theorem PQ.done {ts : List Tm} (h : PQ w0 B E0 n d v0 xs u' (fun _ => true) s w) (hEl : El w0 (Gd B E0 v0 r w0) d ts xs) (hE : E0 ≤ w0.heap.size) (hB : B ≤ E0) (hrE : E0 ≤ r) (hrw : r < w0.heap.size) (hr3 : r3 < w0.heap.size) (hr3o : v0.ownBlock ≠ some r3) (hor : v0.ownBlock ≠ some r) (hov : ∀ g, v0.ownBlock = some g → g < w0.heap.size) :
    ∃ xs', w.ownsRow E0 25 7 (s 11) (n + 1) xs' ∧ El w (Gd B E0 (s 11) r w) d (ts ++ [u']) xs' ∧ (s 11).ownBlock ≠ some r ∧ (s 11).ownBlock ≠ some r3 ∧ ∀ g, (s 11).ownBlock = some g → v0.ownBlock = some g ∨ w0.heap.size ≤ g := by
  obtain ⟨M, hM1, hM2, hI, hrest⟩ := h.2.2.2.2.2.2.1 rfl
  obtain ⟨cs, e9, hlen, ho, hown⟩ := hrest rfl
  have hlow : ∀ k, k < w0.heap.size → v0.ownBlock ≠ some k → (s 11).ownBlock ≠ some k := fun k hk hne e => by
    rcases hown k e with h1 | h1
    · exact hne h1
    · omega
  refine ⟨xs ++ cs, ho, El.snoc (hEl.keep fun k hk => ?_) hlen ?_, hlow r hrw hor, hlow r3 hr3 hr3o, fun g hg => ?_⟩
  · rcases hk with h1 | ⟨h1, h2, h3, h4⟩
    · exact ⟨.inl h1, h.1.block k (by omega)⟩
    · exact ⟨.inr ⟨h1, Nat.lt_of_lt_of_le h2 h.2.1, hlow k h2 h3, h4⟩, h.2.2.1 k h2 h3⟩
  · rw [← e9]
    refine hI.keep (fun k hk => ⟨?_, rfl⟩) (Nat.le_refl d)
    rcases hk with h1 | ⟨h1, h2⟩
    · exact .inl h1
    · refine .inr ⟨by omega, by omega, fun e => ?_, by omega⟩
      rcases hown k e with h3 | h3
      · have := hov k h3
        omega
      · omega
  · rcases hown g hg with h1 | h1
    · exact .inl h1
    · exact .inr (by omega)
theorem PQ.stored {ts : List Tm} {oc : Array Value} {fld : Nat} {v : Value} {xs' : List Value} (hrb : w.heap[r]? = some (.cells oc 25)) (hrw : r < w0.heap.size) (hrE : E0 ≤ r) (hE : E0 ≤ w0.heap.size) (hB : B ≤ E0) (h : PQ w0 B E0 n d v0 xs u' (fun _ => true) s w) (k1 : w.ownsRow E0 25 7 v (n + 1) xs') (k2 : El w (Gd B E0 v r w) d (ts ++ [u']) xs') (k3 : v.ownBlock ≠ some r) (k4 : v.ownBlock ≠ some r3) (k5 : ∀ g, v.ownBlock = some g → v0.ownBlock = some g ∨ w0.heap.size ≤ g) :
    Below E0 w0 (w.setCell ⟨r, fld, none⟩ v) ∧ (∀ k, k < w0.heap.size → k ≠ r → v0.ownBlock ≠ some k → (w.setCell ⟨r, fld, none⟩ v).heap[k]? = w0.heap[k]?) ∧ (w.setCell ⟨r, fld, none⟩ v).heap[r]? = some (.cells (oc.setIfInBounds fld v) 25) ∧ v.ownBlock ≠ some r ∧ v.ownBlock ≠ some r3 ∧ (w.setCell ⟨r, fld, none⟩ v).ownsRow E0 25 7 v (n + 1) xs' ∧ El (w.setCell ⟨r, fld, none⟩ v) (Gd B E0 v r (w.setCell ⟨r, fld, none⟩ v)) d (ts ++ [u']) xs' ∧ ∀ g, v.ownBlock = some g → v0.ownBlock = some g ∨ w0.heap.size ≤ g := by
  have hfar : ∀ k, k ≠ r → (w.setCell ⟨r, fld, none⟩ v).heap[k]? = w.heap[k]? := fun k hk => Below.heap_setCell w ⟨r, fld, none⟩ v k hk
  have hsz : (w.setCell ⟨r, fld, none⟩ v).heap.size = w.heap.size := by simp
  refine ⟨h.1.setCell (p := ⟨r, fld, none⟩) hrE _, fun k hk hne ho => (hfar k hne).trans (h.2.2.1 k hk ho), set_block hrb _, k3, k4, own_sameK k1 fun g hg => hfar g fun e => k3 (by rw [hg, e]), k2.keep fun k hk => ?_, k5⟩
  rcases hk with h1 | ⟨h1, h2, h3, h4⟩
  · exact ⟨.inl h1, hfar k (by omega)⟩
  · exact ⟨.inr ⟨h1, by rw [hsz]; exact h2, h3, h4⟩, hfar k h4⟩
end
end Go.Proofs.YtegmckpcchhmdaaDoor
