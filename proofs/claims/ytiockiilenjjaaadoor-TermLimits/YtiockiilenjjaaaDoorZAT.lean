/- known: the checks of its terms. -/
import Derived.Test.YtiockiilenjjaaaDoorZAS
set_option linter.unusedVariables false
set_option linter.unusedSimpArgs false

/- A region that draws its order, makes memory, and stores once. -/
namespace Go.Proofs.YtiockiilenjjaaaDoor
open Go Go.RowKit
theorem arr_lit {a : Array Value} {n : Nat} (h : a.size = n) : a = ((List.range n).map fun i => a.getD i undef).toArray := by
  apply Array.ext
  · simp [h]
  · intro i h1 h2
    simp [Array.getD_eq_getD_getElem?, h1]
section
variable {P : Program} {Q : Exit → Act → World → Prop}
/-- Before the store: what each slot holds in memory that only grows; behind it: what the store left, and what hangs on no memory. -/
theorem one_store {l : List Oper} {a0 : Act} {w0 : World} {so : Oper} (N B s q : Nat) (kept pre : List Nat) (sp : Nat → World → Value → Prop) (pu : Nat → Value → Prop) (J : World → Value → Prop)
    (hg : fitF N 0 kept l = true) (hN : a0.tmps.size = N) (hB : B ≤ w0.heap.size) (hs : l[s]? = some so) (hsd : so.dst = none) (hsg : so.guard = none)
    (hsp : (pre.all fun i => (preds so).contains i) = true) (hqp : q ∈ pre) (hns : s ∉ pre)
    (hno : ((List.range l.length).all fun i => i == s || (match l[i]? with | some o => o.dst.isSome | none => false)) = true)
    (hmono : ∀ i w w' v, sp i w v → Below w.heap.size w w' → sp i w' v)
    (hpus : ∀ v, pu s v)
    (hstep : ∀ i o, l[i]? = some o → i ∈ pre → ∀ (a : Act) (w : World), Below B w0 w → a.tmps.size = N → (∀ k, k ∈ kept → a.tmps[k]? = a0.tmps[k]?) → (∀ j, (preds o).contains j = true → j ∈ pre → sp j w (slotOf l.toArray a j)) →
      if Region.wanted o (yielded l.toArray a.tmps) then o.wp P a w (fun a' w' => ∃ v, a' = a.put o.dst v ∧ Below w.heap.size w w' ∧ sp i w' v ∧ pu i v) Q else sp i w undef ∧ pu i undef)
    (hpure : ∀ i o, l[i]? = some o → i ∉ pre → i ≠ s → ∀ (a : Act) (w : World), a.tmps.size = N → (∀ k, k ∈ kept → a.tmps[k]? = a0.tmps[k]?) → (∀ j, (preds o).contains j = true → pu j (slotOf l.toArray a j)) →
      if Region.wanted o (yielded l.toArray a.tmps) then o.wp P a w (fun a' w' => ∃ v, a' = a.put o.dst v ∧ w' = w ∧ pu i v) Q else pu i undef)
    (hstore : ∀ (a : Act) (w : World), Below B w0 w → a.tmps.size = N → (∀ k, k ∈ kept → a.tmps[k]? = a0.tmps[k]?) → (∀ i, i ∈ pre → sp i w (slotOf l.toArray a i)) → so.wp P a w (fun a' w' => a' = a ∧ J w' (slotOf l.toArray a q)) Q)
    (hend : ∀ (a : Act) (w : World), a.defers = a0.defers → a.tmps.size = N → (∀ k, k ∈ kept → a.tmps[k]? = a0.tmps[k]?) → (∀ i, i < l.length → pu i (slotOf l.toArray a i)) → J w (slotOf l.toArray a q) → Q .normal a w) :
    wpAny P .any l.toArray Q l.toArray.size (Array.replicate l.toArray.size false) a0 w0 := by
  have hspec := fitF_spec l 0 kept hg
  have hdst : ∀ i o, l[i]? = some o → i ≠ s → ∃ d, o.dst = some d := fun i o ho hne => by
    have hi := (List.getElem?_eq_some_iff.1 ho).1
    have h := List.all_eq_true.1 hno i (List.mem_range.2 hi)
    simp only [ho, Bool.or_eq_true, beq_iff_eq] at h
    exact Option.isSome_iff_exists.1 (h.resolve_left hne)
  have hslot : ∀ i o k ok (a : Act) v, l[i]? = some o → l[k]? = some ok → k ≠ i → k ≠ s → slotOf l.toArray (a.put o.dst v) k = slotOf l.toArray a k := fun i o k ok a v ho hk hne hks => by
    obtain ⟨dk, hdk⟩ := hdst k ok hk hks
    have hk' : l.toArray[k]? = some ok := by simpa using hk
    cases hd : o.dst with
    | none => rfl
    | some d =>
      refine slot_put_other hk' hdk fun e => ?_
      subst e
      rcases Nat.lt_or_gt_of_ne hne with h | h
      · exact ((hspec i o ho).2 d hd).2.2 k ok h hk hdk
      · exact ((hspec k ok hk).2 d hdk).2.2 i o h ho hd
  have hget : ∀ (listed : Array Bool) (i j : Nat), i ≠ j → (listed.setIfInBounds i true).getD j false = listed.getD j false := fun listed i j e => getD_set_ne false e
  refine stepsF N kept pu (fun listed a w => (listed.getD s false = true → J w (slotOf l.toArray a q)) ∧ (listed.getD s false = false → Below B w0 w ∧ ∀ i, i ∈ pre → listed.getD i false = true → sp i w (slotOf l.toArray a i))) hg hN ?_ ?_ ?_ ?_
  · refine ⟨fun h => ?_, fun _ => ⟨Below.refl _ _, fun i _ h => ?_⟩⟩ <;>
    · exfalso
      simp only [Array.getD_eq_getD_getElem?, Array.getElem?_replicate] at h
      split at h <;> cases h
  · intro i o ho listed a w hsz hun hdown hdf hn hk hpr hJ
    have hi := (List.getElem?_eq_some_iff.1 ho).1
    by_cases his : i = s
    · subst his
      rw [hs] at ho
      injection ho with ho
      subst ho
      have hw : Region.wanted so (yielded l.toArray a.tmps) = true := by simp [Region.wanted, hsg]
      have hl0 : listed.getD i false = false := by
        have h1 : i < listed.size := by omega
        simpa [h1] using hun
      obtain ⟨hb, hsps⟩ := hJ.2 hl0
      rw [if_pos hw]
      have hall : ∀ j, j ∈ pre → listed.getD j false = true := fun j hj => (hpr j (List.all_eq_true.1 hsp j hj)).1
      refine Oper.wp_mono ?_ (hstore a w hb hn hk fun j hj => hsps j hj (hall j hj))
      rintro a' w' ⟨rfl, hJ'⟩
      refine ⟨undef, (by rw [hsd]; rfl), (fun h => by rw [hsd] at h; cases h), (fun _ => hJ'), fun h => ?_⟩
      have h1 : i < listed.size := by omega
      simp [h1] at h
    · have hsame : (listed.setIfInBounds i true).getD s false = listed.getD s false := hget listed i s his
      have hoq : ∃ oq, l[q]? = some oq := by
        have h1 := List.all_eq_true.1 hsp q hqp
        obtain ⟨e, he, hon⟩ := preds_spec h1
        have h2 := (hspec s so hs).1 e he.1 he.2
        have h3 := (List.getElem?_eq_some_iff.1 hs).1
        exact ⟨_, List.getElem?_eq_getElem (by omega)⟩
      have hqs : q ≠ s := fun e => hns (e ▸ hqp)
      obtain ⟨oq, hoq⟩ := hoq
      by_cases hip : i ∈ pre
      · have hl0 : listed.getD s false = false := by
          cases h : listed.getD s false with
          | false => rfl
          | true =>
            have h2 := hdown s so hs h i (List.all_eq_true.1 hsp i hip)
            have h1 : i < listed.size := by omega
            simp only [Array.getD_eq_getD_getElem?, Array.getElem?_eq_getElem h1, Option.getD_some] at h2 hun
            rw [h2] at hun
            cases hun
        obtain ⟨hb, hsps⟩ := hJ.2 hl0
        have hkeep : ∀ w' v, Below w.heap.size w w' → sp i w' v → ((listed.setIfInBounds i true).getD s false = true → J w' (slotOf l.toArray (a.put o.dst v) q)) ∧ ((listed.setIfInBounds i true).getD s false = false → Below B w0 w' ∧ ∀ j, j ∈ pre → (listed.setIfInBounds i true).getD j false = true → sp j w' (slotOf l.toArray (a.put o.dst v) j)) := fun w' v hb' hv => by
          refine ⟨(fun h => by rw [hsame, hl0] at h; cases h), fun _ => ⟨hb.trans (hb'.mono (Nat.le_trans hB hb.size)), fun j hj hlj => ?_⟩⟩
          by_cases e : i = j
          · subst e
            obtain ⟨d, hd⟩ := hdst i o ho his
            have ho' : l.toArray[i]? = some o := by simpa using ho
            have h1 := slot_put_same (a := a) (v := v) ho' hd (by have := ((hspec i o ho).2 d hd).2.1; omega)
            rw [h1]
            exact hv
          · rw [hget listed i j e] at hlj
            have hjl : j < l.length := by
              rcases Nat.lt_or_ge j listed.size with h | h
              · omega
              · simp [Array.getElem?_eq_none h] at hlj
            rw [hslot i o j l[j] a v ho (List.getElem?_eq_getElem hjl) (Ne.symm e) (fun e' => hns (e' ▸ hj))]
            exact hmono _ _ _ _ (hsps j hj hlj) hb'
        have h := hstep i o ho hip a w hb hn hk fun j hj hjp => hsps j hjp (hpr j hj).1
        split at h
        · rename_i hw
          rw [if_pos hw]
          refine Oper.wp_mono ?_ h
          rintro a' w' ⟨v, rfl, hb', hv, hpv⟩
          exact ⟨v, rfl, fun _ => hpv, hkeep w' v hb' hv⟩
        · rename_i hw
          rw [if_neg hw]
          exact ⟨fun _ => h.2, hkeep w undef (Below.refl _ _) h.1⟩
      · have hkeep : ∀ v, ((listed.setIfInBounds i true).getD s false = true → J w (slotOf l.toArray (a.put o.dst v) q)) ∧ ((listed.setIfInBounds i true).getD s false = false → Below B w0 w ∧ ∀ j, j ∈ pre → (listed.setIfInBounds i true).getD j false = true → sp j w (slotOf l.toArray (a.put o.dst v) j)) := fun v => by
          rw [hsame]
          refine ⟨fun h => ?_, fun h => ⟨(hJ.2 h).1, fun j hj hlj => ?_⟩⟩
          · rw [hslot i o q oq a v ho hoq (fun e => hip (e ▸ hqp)) hqs]
            exact hJ.1 h
          · have e : i ≠ j := fun e => hip (e ▸ hj)
            rw [hget listed i j e] at hlj
            have hjl : j < l.length := by
              rcases Nat.lt_or_ge j listed.size with h | h
              · omega
              · simp [Array.getElem?_eq_none h] at hlj
            rw [hslot i o j l[j] a v ho (List.getElem?_eq_getElem hjl) (Ne.symm e) (fun e' => hns (e' ▸ hj))]
            exact (hJ.2 h).2 j hj hlj
        have h := hpure i o ho hip his a w hn hk fun j hj => (hpr j hj).2
        split at h
        · rename_i hw
          rw [if_pos hw]
          refine Oper.wp_mono ?_ h
          rintro a' w' ⟨v, rfl, rfl, hpv⟩
          exact ⟨v, rfl, fun _ => hpv, hkeep v⟩
        · rename_i hw
          rw [if_neg hw]
          exact ⟨fun _ => h, hkeep undef⟩
  · intro i o ho hd v
    by_cases his : i = s
    · subst his; exact hpus v
    · obtain ⟨d, hd'⟩ := hdst i o ho his
      rw [hd'] at hd
      cases hd
  · intro listed a w hsz hall hdf hn hk hpu hJ
    exact hend a w hdf hn hk hpu (hJ.1 (hall s (List.getElem?_eq_some_iff.1 hs).1))
end
end Go.Proofs.YtiockiilenjjaaaDoor

/- Terms being built: a step an operation. -/
namespace Go.Proofs.YtiockiilenjjaaaDoor
open Go Go.RowKit
def regionsOf : Code → List (Nat × List Oper)
  | .region id ops _ => [(id, ops.toList)]
  | .seq a b => regionsOf a ++ regionsOf b
  | .cond _ a b => regionsOf a ++ regionsOf b
  | .block _ c => regionsOf c
  | .loop c => regionsOf c
  | .scope c => regionsOf c
  | .rangeFunc _ _ a b => regionsOf a ++ regionsOf b
  | _ => []
def regionOf (f : Func) (k : Nat) : List Oper := ((f.body.map regionsOf).getD []).findSome? (fun p => if p.1 == k then some p.2 else none) |>.getD []
/-- What is said of a slot; it stands when memory grows. -/
structure Mx where
  ok : World → Value → Prop
  mono : ∀ w w' v, ok w v → Below w.heap.size w w' → ok w' v
def Mx.any : Mx := ⟨fun _ _ => True, fun _ _ _ h _ => h⟩
def Mx.val (u : Value) : Mx := ⟨fun _ v => v = u, fun _ _ _ h _ => h⟩
def Mx.tm (d : Nat) (t : Tm) : Mx := ⟨fun w v => IsT w w.heap.size d v t, fun _ _ _ h hb => h.more hb hb.size (Nat.le_refl _)⟩
def RT7 (w : World) (B d : Nat) (l : List Tm) (b o j : Nat) : Prop := ∀ u, l[j]? = some u → TmAt w B d b o u
def Mx.ls (d : Nat) (l : List Tm) : Mx := ⟨fun w v => ∃ a c, v = .slice a l.length c ∧ Row w.heap.size a l.length c 7 (RT7 w w.heap.size d l), fun w w' v ⟨a, c, e, h⟩ hb => ⟨a, c, e, h.mono hb.size fun b o j _ hj u hu => (hj u hu).more hb hb.size (Nat.le_refl _)⟩⟩
def Mx.vs (x : List (ByteArray × Int)) : Mx := ⟨fun w v => ∃ a c, v = .slice a x.length c ∧ Row w.heap.size a x.length c 2 (BR w x), fun w w' v ⟨a, c, e, h⟩ hb => ⟨a, c, e, h.mono hb.size fun b o j hb2 hj u hu => ⟨rangeAt_below (hj u hu).1 hb2 hb, (hj u hu).2⟩⟩⟩
def zeroC : Array Value := #[.int .i64 0, .string ⟨#[]⟩, .int .i64 0, .string ⟨#[]⟩, .slice none 0 0, .slice none 0 0, .slice none 0 0]
def Mx.bx (B : Nat) : Mx := ⟨fun w v => ∃ r, v = .pointer (some ⟨r, 0, none⟩) ∧ B ≤ r ∧ w.heap[r]? = some (.cells zeroC 26), fun w w' v ⟨r, e, h1, h2⟩ hb => ⟨r, e, h1, (hb.block r (Array.getElem?_eq_some_iff.1 h2).1).trans h2⟩⟩
theorem IsT.at {w w' : World} {B B' d b o : Nat} {v : Value} {t : Tm} (h : IsT w B d v t) (hw : Below B w w') (hB : B ≤ B') (hb : b < B') (hpl : Plain w' b) (hr : ∀ cs, v = .agg cs.toArray → w'.rangeAt b o cs) : TmAt w' B' (d + 1) b o t := by
  obtain ⟨h1, h2, aL, aV, aP, cL, cV, cP, e, hL, hV, hP⟩ := h.more hw hB (Nat.le_refl d)
  exact ⟨hb, h1, h2, aL, aV, aP, cL, cV, cP, hr _ e, hL, hV, hP, hpl⟩
theorem IsT.mk {w : World} {B d : Nat} {t : Tm} {aL aV aP : Option Addr} {cL cV cP : Nat} (h1 : fits t.op) (h2 : fits t.sort) (hL : Row B aL t.l.length cL 7 (RT7 w B d t.l)) (hV : Row B aV t.vars.length cV 2 (BR w t.vars)) (hP : Row B aP t.pat.length cP 7 (RT7 w B d t.pat)) : IsT w B d (.agg (tcells t aL aV aP cL cV cP).toArray) t := ⟨h1, h2, aL, aV, aP, cL, cV, cP, rfl, hL, hV, hP⟩
theorem row_nil {B k : Nat} {p : Nat → Nat → Nat → Prop} : Row B none 0 0 k p := ⟨Nat.le_refl _, by omega, fun h => absurd rfl h⟩
theorem IsT.seven {w : World} {B d : Nat} {v : Value} {t : Tm} (h : IsT w B d v t) : ∃ (i0 i2 : Int) (s1 s3 : ByteArray) (a4 a5 a6 : Option Addr) (n4 n5 n6 c4 c5 c6 : Nat), v = .agg #[.int .i64 i0, .string s1, .int .i64 i2, .string s3, .slice a4 n4 c4, .slice a5 n5 c5, .slice a6 n6 c6] := by
  obtain ⟨_, _, aL, aV, aP, cL, cV, cP, e, _⟩ := h
  exact ⟨_, _, _, _, _, _, _, _, _, _, _, _, _, e⟩
section
variable {a : Act} {w : World} {K : Act → World → Prop} {Q : Exit → Act → World → Prop} {dst : Option Tmp} {ty : TypeId} {pos : String} {af : Array Edge} {gd : Option (Nat × Bool)} {k k2 k3 d : Nat} {t u : Tm}
set_option maxRecDepth 100000 in
set_option maxHeartbeats 4000000 in
theorem op_bs1 (hv : (Mx.tm d t).ok w (a.tmps.getD k undef)) (h : ∀ v w', Below w.heap.size w w' → (Mx.ls (d + 1) [t]).ok w' v → K (a.put dst v) w') : Oper.wp Tryd.prog ⟨dst, .buildSlice 23 1 #[(0, .tmp k)], ty, pos, af, gd⟩ a w K Q := by
  have hv0 : IsT w w.heap.size d (a.tmps.getD k undef) t := hv
  obtain ⟨i0, i2, s1, s3, a4, a5, a6, n4, n5, n6, c4, c5, c6, e⟩ := hv0.seven
  rw [e] at hv0
  have he : a.eval (.tmp k) = .agg #[.int .i64 i0, .string s1, .int .i64 i2, .string s3, .slice a4 n4 c4, .slice a5 n5 c5, .slice a6 n6 c6] := e
  unfold Oper.wp
  simp only [execOp, List.map_toArray, List.map_cons, List.map_nil, he]
  go_simp
  refine h _ _ ((Below.refl _ w).alloc (Nat.le_refl _) _) ⟨some ⟨w.heap.size, 0, none⟩, 1, rfl, Nat.le_refl _, by simp, fun _ => ⟨w.heap.size, 0, rfl, by simp, fun j hj x hx => ?_⟩⟩
  have hj0 : j = 0 := by simp at hj; omega
  subst hj0
  simp at hx
  subst hx
  have := hv0.boxed (Nat.le_refl _)
  simpa using this
set_option maxRecDepth 100000 in
set_option maxHeartbeats 4000000 in
theorem op_bs2 (hv : (Mx.tm d t).ok w (a.tmps.getD k undef)) (hv2 : (Mx.tm d u).ok w (a.tmps.getD k2 undef)) (h : ∀ v w', Below w.heap.size w w' → (Mx.ls (d + 1) [t, u]).ok w' v → K (a.put dst v) w') : Oper.wp Tryd.prog ⟨dst, .buildSlice 23 2 #[(0, .tmp k), (1, .tmp k2)], ty, pos, af, gd⟩ a w K Q := by
  have hv0 : IsT w w.heap.size d (a.tmps.getD k undef) t := hv
  have hu0 : IsT w w.heap.size d (a.tmps.getD k2 undef) u := hv2
  obtain ⟨i0, i2, s1, s3, a4, a5, a6, n4, n5, n6, c4, c5, c6, e⟩ := hv0.seven
  obtain ⟨j0, j2, r1, r3, b4, b5, b6, m4, m5, m6, d4, d5, d6, e2⟩ := hu0.seven
  rw [e] at hv0
  rw [e2] at hu0
  have he : a.eval (.tmp k) = .agg #[.int .i64 i0, .string s1, .int .i64 i2, .string s3, .slice a4 n4 c4, .slice a5 n5 c5, .slice a6 n6 c6] := e
  have he2 : a.eval (.tmp k2) = .agg #[.int .i64 j0, .string r1, .int .i64 j2, .string r3, .slice b4 m4 d4, .slice b5 m5 d5, .slice b6 m6 d6] := e2
  unfold Oper.wp
  simp only [execOp, List.map_toArray, List.map_cons, List.map_nil, he, he2]
  go_simp
  have hbel := fun o => (Below.refl w.heap.size w).alloc (Nat.le_refl _) o
  have hpl := plain_new w #[.int .i64 i0, .string s1, .int .i64 i2, .string s3, .slice a4 n4 c4, .slice a5 n5 c5, .slice a6 n6 c6, .int .i64 j0, .string r1, .int .i64 j2, .string r3, .slice b4 m4 d4, .slice b5 m5 d5, .slice b6 m6 d6] 26
  have hrg := range_new w [.int .i64 i0, .string s1, .int .i64 i2, .string s3, .slice a4 n4 c4, .slice a5 n5 c5, .slice a6 n6 c6, .int .i64 j0, .string r1, .int .i64 j2, .string r3, .slice b4 m4 d4, .slice b5 m5 d5, .slice b6 m6 d6] 26
  refine h _ _ (hbel _) ⟨some ⟨w.heap.size, 0, none⟩, 2, rfl, Nat.le_refl _, by simp, fun _ => ⟨w.heap.size, 0, rfl, by simp, fun j hj x hx => ?_⟩⟩
  have hj2 : j = 0 ∨ j = 1 := by simp at hj; omega
  rcases hj2 with rfl | rfl
  · simp at hx
    subst hx
    refine hv0.at (hbel _) (by simp) (by simp) hpl fun cs hcs => ?_
    injection hcs with hcs
    have hcs2 : cs = [.int .i64 i0, .string s1, .int .i64 i2, .string s3, .slice a4 n4 c4, .slice a5 n5 c5, .slice a6 n6 c6] := by have := congrArg Array.toList hcs; simpa using this.symm
    subst hcs2
    intro i y hy
    refine hrg i y ?_
    have hi := (List.getElem?_eq_some_iff.1 hy).1
    rw [show [Value.int .i64 i0, .string s1, .int .i64 i2, .string s3, .slice a4 n4 c4, .slice a5 n5 c5, .slice a6 n6 c6, .int .i64 j0, .string r1, .int .i64 j2, .string r3, .slice b4 m4 d4, .slice b5 m5 d5, .slice b6 m6 d6] = [Value.int .i64 i0, .string s1, .int .i64 i2, .string s3, .slice a4 n4 c4, .slice a5 n5 c5, .slice a6 n6 c6] ++ [.int .i64 j0, .string r1, .int .i64 j2, .string r3, .slice b4 m4 d4, .slice b5 m5 d5, .slice b6 m6 d6] from rfl, List.getElem?_append_left hi]
    exact hy
  · simp at hx
    subst hx
    refine hu0.at (hbel _) (by simp) (by simp) hpl fun cs hcs => ?_
    injection hcs with hcs
    have hcs2 : cs = [.int .i64 j0, .string r1, .int .i64 j2, .string r3, .slice b4 m4 d4, .slice b5 m5 d5, .slice b6 m6 d6] := by have := congrArg Array.toList hcs; simpa using this.symm
    subst hcs2
    intro i y hy
    have := hrg (7 + i) y (by
      rw [show [Value.int .i64 i0, .string s1, .int .i64 i2, .string s3, .slice a4 n4 c4, .slice a5 n5 c5, .slice a6 n6 c6, .int .i64 j0, .string r1, .int .i64 j2, .string r3, .slice b4 m4 d4, .slice b5 m5 d5, .slice b6 m6 d6] = [Value.int .i64 i0, .string s1, .int .i64 i2, .string s3, .slice a4 n4 c4, .slice a5 n5 c5, .slice a6 n6 c6] ++ [.int .i64 j0, .string r1, .int .i64 j2, .string r3, .slice b4 m4 d4, .slice b5 m5 d5, .slice b6 m6 d6] from rfl, List.getElem?_append_right (by simp)]
      simpa using hy)
    rw [show 0 + 1 * 7 + i = 0 + (7 + i) by omega]
    exact this
set_option maxRecDepth 100000 in
set_option maxHeartbeats 4000000 in
theorem op_bsV {s : ByteArray} {n : Int} (hn : fits n) (hv : (Mx.val (.agg #[.string s, .int .i64 n])).ok w (a.tmps.getD k undef)) (h : ∀ v w', Below w.heap.size w w' → (Mx.vs [(s, n)]).ok w' v → K (a.put dst v) w') : Oper.wp Tryd.prog ⟨dst, .buildSlice 24 1 #[(0, .tmp k)], ty, pos, af, gd⟩ a w K Q := by
  have he : a.eval (.tmp k) = .agg #[.string s, .int .i64 n] := hv
  unfold Oper.wp
  simp only [execOp, List.map_toArray, List.map_cons, List.map_nil, he]
  go_simp
  refine h _ _ ((Below.refl _ w).alloc (Nat.le_refl _) _) ⟨some ⟨w.heap.size, 0, none⟩, 1, rfl, Nat.le_refl _, by simp, fun _ => ⟨w.heap.size, 0, rfl, by simp, fun j hj x hx => ?_⟩⟩
  have hj0 : j = 0 := by simp at hj; omega
  subst hj0
  simp at hx
  subst hx
  exact ⟨range_new w [.string s, .int .i64 n] _, hn⟩
set_option maxRecDepth 100000 in
set_option maxHeartbeats 4000000 in
theorem op_bldV {s : ByteArray} {n : Int} (h : K (a.put dst (.agg #[.string s, .int .i64 n])) w) : Oper.wp Tryd.prog ⟨dst, .build 45 #[(0, .const (.string s)), (1, .const (.int .i64 n))], ty, pos, af, gd⟩ a w K Q := by
  unfold Oper.wp
  simp only [execOp, List.map_toArray, List.map_cons, List.map_nil, Act.eval]
  go_simp
  exact h
set_option maxRecDepth 100000 in
set_option maxHeartbeats 4000000 in
theorem op_bldL {op : Int} {l : List Tm} (hop : fits op) (hv : (Mx.ls d l).ok w (a.tmps.getD k undef)) (h : ∀ v, (Mx.tm d ⟨op, .empty, 0, .empty, l, [], []⟩).ok w v → K (a.put dst v) w) : Oper.wp Tryd.prog ⟨dst, .build 26 #[(0, .const (.int .i64 op)), (4, .tmp k)], ty, pos, af, gd⟩ a w K Q := by
  obtain ⟨aL, cL, e, hR⟩ := hv
  have he : a.eval (.tmp k) = .slice aL l.length cL := e
  unfold Oper.wp
  simp only [execOp, List.map_toArray, List.map_cons, List.map_nil, he, Act.eval]
  go_simp
  exact h _ (IsT.mk (t := ⟨op, .empty, 0, .empty, l, [], []⟩) hop (show fits 0 by unfold fits; omega) hR row_nil row_nil)
set_option maxRecDepth 100000 in
set_option maxHeartbeats 4000000 in
theorem op_bldA {l p : List Tm} {x : List (ByteArray × Int)} (hx : (Mx.vs x).ok w (a.tmps.getD k undef)) (hp : (Mx.ls d p).ok w (a.tmps.getD k2 undef)) (hl : (Mx.ls d l).ok w (a.tmps.getD k3 undef)) (h : ∀ v, (Mx.tm d ⟨19, .empty, 0, .empty, l, x, p⟩).ok w v → K (a.put dst v) w) : Oper.wp Tryd.prog ⟨dst, .build 26 #[(0, .const (.int .i64 19)), (5, .tmp k), (6, .tmp k2), (4, .tmp k3)], ty, pos, af, gd⟩ a w K Q := by
  obtain ⟨aV, cV, e, hV⟩ := hx
  obtain ⟨aP, cP, e2, hP⟩ := hp
  obtain ⟨aL, cL, e3, hL⟩ := hl
  have he : a.eval (.tmp k) = .slice aV x.length cV := e
  have he2 : a.eval (.tmp k2) = .slice aP p.length cP := e2
  have he3 : a.eval (.tmp k3) = .slice aL l.length cL := e3
  unfold Oper.wp
  simp only [execOp, List.map_toArray, List.map_cons, List.map_nil, he, he2, he3, Act.eval]
  go_simp
  exact h _ (IsT.mk (t := ⟨19, .empty, 0, .empty, l, x, p⟩) (show fits 19 by unfold fits; omega) (show fits 0 by unfold fits; omega) hL hV hP)
set_option maxRecDepth 100000 in
set_option maxHeartbeats 4000000 in
theorem op_box (h : ∀ v w', Below w.heap.size w w' → (Mx.bx w.heap.size).ok w' v → K (a.put dst v) w') : Oper.wp Tryd.prog ⟨dst, .alloc 26, ty, pos, af, gd⟩ a w K Q := by
  unfold Oper.wp
  simp only [execOp]
  go_simp
  exact h _ _ ((Below.refl _ w).alloc (Nat.le_refl _) _) ⟨w.heap.size, rfl, Nat.le_refl _, new_block w _ _⟩
theorem set7 (w : World) (r : Nat) (x0 x1 x2 x3 x4 x5 x6 : Value) : w.setCells r 0 [x0, x1, x2, x3, x4, x5, x6] = put7 w r 0 x0 x1 x2 x3 x4 x5 x6 := rfl
theorem infT7 : (Tryd.prog.info? 26).map (·.size) = some 7 := by kernel_rfl
theorem PutAt.set {w w' : World} {r : Nat} (h : PutAt r w w') (o : Nat) (v : Value) : PutAt r w (w'.setCell ⟨r, o, none⟩ v) := ⟨h.os, h.tape, h.output, by simp [h.size], fun j hj => (Below.heap_setCell w' ⟨r, o, none⟩ v j hj).trans (h.block j hj)⟩
theorem put7_only (w : World) (r : Nat) (x0 x1 x2 x3 x4 x5 x6 : Value) : PutAt r w (put7 w r 0 x0 x1 x2 x3 x4 x5 x6) := by
  unfold put7
  exact (((((((⟨rfl, rfl, rfl, rfl, fun _ _ => rfl⟩ : PutAt r w w).set 0 x0).set (0 + 1) x1).set (0 + 2) x2).set (0 + 3) x3).set (0 + 4) x4).set (0 + 5) x5).set (0 + 6) x6
theorem there7 {w : World} {r : Nat} {ty : TypeId} (hb : w.heap[r]? = some (.cells zeroC ty)) : w.there r 0 7 := fun j hj => by
  have hs : zeroC.size = 7 := rfl
  have h1 := (blk hb).2.1 j _ (Array.getElem?_eq_getElem (by omega))
  rw [Nat.zero_add, h1]
  exact ⟨rfl, (blk hb).2.2 j⟩
theorem op_storeT {r : Nat} (hb : w.heap[r]? = some (.cells zeroC 26)) (hr : a.tmps.getD k undef = .pointer (some ⟨r, 0, none⟩)) (hv : (Mx.tm d t).ok w (a.tmps.getD k2 undef)) (h : ∀ w' cs, a.tmps.getD k2 undef = .agg cs → PutAt r w w' → w'.heap[r]? = some (.cells cs 26) → K (a.put dst undef) w') : Oper.wp Tryd.prog ⟨dst, .store 26 (.tmp k) (.tmp k2), ty, pos, af, gd⟩ a w K Q := by
  have hv0 : IsT w w.heap.size d (a.tmps.getD k2 undef) t := hv
  obtain ⟨i0, i2, s1, s3, a4, a5, a6, n4, n5, n6, c4, c5, c6, e⟩ := hv0.seven
  have he : a.eval (.tmp k2) = .agg #[.int .i64 i0, .string s1, .int .i64 i2, .string s3, .slice a4 n4 c4, .slice a5 n5 c5, .slice a6 n6 c6] := e
  have hp : a.eval (.tmp k) = .pointer (some ⟨r, 0, none⟩) := hr
  have hK := h _ _ e (put7_only w r (.int .i64 i0) (.string s1) (.int .i64 i2) (.string s3) (.slice a4 n4 c4) (.slice a5 n5 c5) (.slice a6 n6 c6)) (fill7 hb)
  rw [← set7] at hK
  exact wp_store_mid (op := ⟨dst, .store 26 (.tmp k) (.tmp k2), ty, pos, af, gd⟩) 26 (.tmp k) (.tmp k2) rfl r 0 #[.int .i64 i0, .string s1, .int .i64 i2, .string s3, .slice a4 n4 c4, .slice a5 n5 c5, .slice a6 n6 c6] hp he (there7 hb) infT7 (by simp [Value.oneCell']) hK
end
end Go.Proofs.YtiockiilenjjaaaDoor

/- A term laid into a box that held nothing. -/
namespace Go.Proofs.YtiockiilenjjaaaDoor
open Go Go.RowKit
/-- No operator that is none, no name that is empty. -/
def NZ : Nat → Tm → Prop
  | 0, _ => False
  | e + 1, t => t.op ≠ 0 ∧ (∀ v ∈ t.vars, v.1 ≠ ⟨#[]⟩) ∧ (∀ u ∈ t.l, NZ e u) ∧ ∀ u ∈ t.pat, NZ e u
theorem NZ.op {e : Nat} {t : Tm} (h : NZ e t) : t.op ≠ 0 := by
  cases e with
  | zero => exact h.elim
  | succ e => exact h.1
theorem zero_cell {w : World} {r o : Nat} {v : Value} (hz : w.heap[r]? = some (.cells zeroC 26)) (h : w.cell? ⟨r, o, none⟩ = some v) : v = .int .i64 0 ∨ v = .string ⟨#[]⟩ ∨ v = .slice none 0 0 := by
  have hs : zeroC.size = 7 := rfl
  have ho : o < 7 := by
    rcases Nat.lt_or_ge o 7 with hlt | hge
    · exact hlt
    · simp only [World.cell?, hz] at h
      rw [Array.getElem?_eq_none (by omega)] at h
      cases h
  have hc : ∀ u, zeroC[o]? = some u → v = u := fun u hu => by
    have := (blk hz).2.1 o u hu
    rw [h] at this
    exact Option.some.inj this
  rcases (by omega : o = 0 ∨ o = 1 ∨ o = 2 ∨ o = 3 ∨ o = 4 ∨ o = 5 ∨ o = 6) with rfl | rfl | rfl | rfl | rfl | rfl | rfl
  · exact .inl (hc (.int .i64 0) rfl)
  · exact .inr (.inl (hc (.string ⟨#[]⟩) rfl))
  · exact .inl (hc (.int .i64 0) rfl)
  · exact .inr (.inl (hc (.string ⟨#[]⟩) rfl))
  · exact .inr (.inr (hc (.slice none 0 0) rfl))
  · exact .inr (.inr (hc (.slice none 0 0) rfl))
  · exact .inr (.inr (hc (.slice none 0 0) rfl))
theorem Row.off {B r n cap k : Nat} {a : Option Addr} {p q : Nat → Nat → Nat → Prop} (h : Row B a n cap k p) (hp : ∀ b o j, j < n → p b o j → b ≠ r ∧ q b o j) : RowP (fun b => b < B ∧ b ≠ r) a n cap k q := by
  refine ⟨h.1, h.2.1, fun hn => ?_⟩
  obtain ⟨b, off, e, hb, hj⟩ := h.2.2 hn
  exact ⟨b, off, e, ⟨hb, (hp b _ 0 (by omega) (hj 0 (by omega))).1⟩, fun j hjn => (hp b _ j hjn (hj j hjn)).2⟩
theorem TmAt.op0 {w : World} {B d b o r : Nat} {t : Tm} (hz : w.heap[r]? = some (.cells zeroC 26)) (h : TmAt w B d b o t) (h0 : t.op ≠ 0) : b ≠ r := by
  cases d with
  | zero => exact h.elim
  | succ d =>
    obtain ⟨_, _, _, _, _, _, _, _, _, hr, _⟩ := h
    rintro rfl
    have h1 : w.cell? ⟨b, o, none⟩ = some (.int .i64 t.op) := hr 0 _ rfl
    rcases zero_cell hz h1 with e | e | e
    · injection e with _ e
      exact h0 e
    · cases e
    · cases e
theorem vars_off {w : World} {b o r j : Nat} {x : List (ByteArray × Int)} (hz : w.heap[r]? = some (.cells zeroC 26)) (hn : ∀ v ∈ x, v.1 ≠ ⟨#[]⟩) (hj : j < x.length) (h : BR w x b o j) : b ≠ r := by
  rintro rfl
  have h1 : w.cell? ⟨b, o, none⟩ = some (.string x[j].1) := (h _ (List.getElem?_eq_getElem hj)).1 0 _ rfl
  rcases zero_cell hz h1 with e | e | e
  · cases e
  · injection e with e
    exact hn _ (List.getElem_mem hj) e
  · cases e
theorem TmAt.off {w : World} {B r : Nat} (hz : w.heap[r]? = some (.cells zeroC 26)) : ∀ {d e b o : Nat} {t : Tm}, TmAt w B d b o t → NZ e t → TmP w (fun k => k < B ∧ k ≠ r) d b o t
  | 0, _, _, _, _, h, _ => h.elim
  | d + 1, 0, _, _, _, _, h => h.elim
  | d + 1, e + 1, b, o, t, h, hn => by
    have hb := h.op0 hz hn.1
    obtain ⟨h0, h1, h2, aL, aV, aP, cL, cV, cP, hr, hL, hV, hP, hPl⟩ := h
    refine ⟨⟨h0, hb⟩, h1, h2, aL, aV, aP, cL, cV, cP, hr, hL.off ?_, hV.off ?_, hP.off ?_, hPl⟩
    · intro b o j hj h
      exact ⟨(h _ (List.getElem?_eq_getElem hj)).op0 hz (hn.2.2.1 _ (List.getElem_mem hj)).op, fun u hu => TmAt.off hz (h u hu) (hn.2.2.1 u (List.mem_of_getElem? hu))⟩
    · intro b o j hj h
      exact ⟨vars_off hz hn.2.1 hj h, h⟩
    · intro b o j hj h
      exact ⟨(h _ (List.getElem?_eq_getElem hj)).op0 hz (hn.2.2.2 _ (List.getElem_mem hj)).op, fun u hu => TmAt.off hz (h u hu) (hn.2.2.2 u (List.mem_of_getElem? hu))⟩
theorem IsT.off {w : World} {B r d e : Nat} {v : Value} {t : Tm} (hz : w.heap[r]? = some (.cells zeroC 26)) (h : IsT w B d v t) (hn : NZ (e + 1) t) : IsP w (fun k => k < B ∧ k ≠ r) d v t := by
  obtain ⟨h1, h2, aL, aV, aP, cL, cV, cP, hr, hL, hV, hP⟩ := h
  refine ⟨h1, h2, aL, aV, aP, cL, cV, cP, hr, hL.off ?_, hV.off ?_, hP.off ?_⟩
  · intro b o j hj h
    exact ⟨(h _ (List.getElem?_eq_getElem hj)).op0 hz (hn.2.2.1 _ (List.getElem_mem hj)).op, fun u hu => TmAt.off hz (h u hu) (hn.2.2.1 u (List.mem_of_getElem? hu))⟩
  · intro b o j hj h
    exact ⟨vars_off hz hn.2.1 hj h, h⟩
  · intro b o j hj h
    exact ⟨(h _ (List.getElem?_eq_getElem hj)).op0 hz (hn.2.2.2 _ (List.getElem_mem hj)).op, fun u hu => TmAt.off hz (h u hu) (hn.2.2.2 u (List.mem_of_getElem? hu))⟩
/-- A term laid into a box that held nothing. -/
theorem IsT.put {w w' : World} {r d e : Nat} {cs : Array Value} {t : Tm} (hz : w.heap[r]? = some (.cells zeroC 26)) (h : IsT w w.heap.size d (.agg cs) t) (hn : NZ (e + 1) t) (hput : PutAt r w w') (hh : w'.heap[r]? = some (.cells cs 26)) : TmAt w' w'.heap.size (d + 1) r 0 t := by
  have hP := (h.off hz hn).keep (Q := fun k => k < w.heap.size ∧ k ≠ r) (w' := w') (fun k hk => ⟨hk, hput.block k hk.2⟩) (Nat.le_refl d)
  have hI : IsT w' w'.heap.size d (.agg cs) t := hP.isT fun k hk => by rw [hput.size]; exact hk.1
  refine hI.at (Below.refl _ _) (Nat.le_refl _) (by rw [hput.size]; exact (Array.getElem?_eq_some_iff.1 hz).1) ⟨_, _, hh⟩ fun cs' e => ?_
  injection e with e
  subst e
  exact range_block hh
end Go.Proofs.YtiockiilenjjaaaDoor

/- known: the terms that it makes. -/
namespace Go.Proofs.YtiockiilenjjaaaDoor
open Go Go.RowKit
def bX : ByteArray := ⟨#[120]⟩
def bF : ByteArray := ⟨#[102]⟩
def tX : Tm := ⟨18, bX, 1, .empty, [], [], []⟩
def tFX : Tm := ⟨17, bF, 0, .empty, [tX], [], []⟩
def t0 : Tm := ⟨1, .empty, 0, ⟨#[48]⟩, [], [], []⟩
def t3 : Tm := ⟨1, .empty, 0, ⟨#[51]⟩, [], [], []⟩
def tLe : Tm := ⟨10, .empty, 0, .empty, [t0, tFX], [], []⟩
def tAll : Tm := ⟨19, .empty, 0, .empty, [tLe], [(bX, 1)], [tFX]⟩
def xC : Array Value := #[.int .i64 18, .string bX, .int .i64 1, .string ⟨#[]⟩, .slice none 0 0, .slice none 0 0, .slice none 0 0]
theorem isX (w : World) (B d : Nat) : IsT w B d (.agg xC) tX := IsT.mk (t := tX) (show fits 18 by unfold fits; omega) (show fits 1 by unfold fits; omega) row_nil row_nil row_nil
theorem isN (s : ByteArray) (w : World) (B d : Nat) : IsT w B d (.agg #[.int .i64 1, .string .empty, .int .i64 0, .string s, .slice none 0 0, .slice none 0 0, .slice none 0 0]) ⟨1, .empty, 0, s, [], [], []⟩ := IsT.mk (t := ⟨1, .empty, 0, s, [], [], []⟩) (show fits 1 by unfold fits; omega) (show fits 0 by unfold fits; omega) row_nil row_nil row_nil
theorem enter_app : Enters Tryd.prog 32 := ⟨fun xs w => by go_simp⟩
theorem enter_n : Enters Tryd.prog 31 := ⟨fun xs w => by go_simp⟩
theorem IsT.deep {w : World} {B d d' : Nat} {v : Value} {t : Tm} (h : IsT w B d v t) (hd : d ≤ d') : IsT w B d' v t := h.more (Below.refl _ _) (Nat.le_refl _) hd
section
variable {P : Program} {Q : Exit → Act → World → Prop}
/-- As one_store, by the operation's number. -/
theorem one_store2 {l : List Oper} {a0 : Act} {w0 : World} (N B s q : Nat) (kept pre : List Nat) (sp : Nat → World → Value → Prop) (pu : Nat → Value → Prop) (J : World → Value → Prop)
    (hg : fitF N 0 kept l = true) (hN : a0.tmps.size = N) (hB : B ≤ w0.heap.size) (hsl : s < l.length) (hsd : (l.getD s default).dst = none) (hsg : (l.getD s default).guard = none)
    (hsp : (pre.all fun i => (preds (l.getD s default)).contains i) = true) (hqp : q ∈ pre) (hns : s ∉ pre)
    (hno : ((List.range l.length).all fun i => i == s || (match l[i]? with | some o => o.dst.isSome | none => false)) = true)
    (hmono : ∀ i w w' v, sp i w v → Below w.heap.size w w' → sp i w' v)
    (hpus : ∀ v, pu s v)
    (hstep : ∀ i, i ∈ pre → ∀ (a : Act) (w : World), Below B w0 w → a.tmps.size = N → (∀ k, k ∈ kept → a.tmps[k]? = a0.tmps[k]?) → (∀ j, (preds (l.getD i default)).contains j = true → j ∈ pre → sp j w (slotOf l.toArray a j)) →
      if Region.wanted (l.getD i default) (yielded l.toArray a.tmps) then (l.getD i default).wp P a w (fun a' w' => ∃ v, a' = a.put (l.getD i default).dst v ∧ Below w.heap.size w w' ∧ sp i w' v ∧ pu i v) Q else sp i w undef ∧ pu i undef)
    (hpure : ∀ i, i < l.length → i ∉ pre → i ≠ s → ∀ (a : Act) (w : World), a.tmps.size = N → (∀ k, k ∈ kept → a.tmps[k]? = a0.tmps[k]?) → (∀ j, (preds (l.getD i default)).contains j = true → pu j (slotOf l.toArray a j)) →
      if Region.wanted (l.getD i default) (yielded l.toArray a.tmps) then (l.getD i default).wp P a w (fun a' w' => ∃ v, a' = a.put (l.getD i default).dst v ∧ w' = w ∧ pu i v) Q else pu i undef)
    (hstore : ∀ (a : Act) (w : World), Below B w0 w → a.tmps.size = N → (∀ k, k ∈ kept → a.tmps[k]? = a0.tmps[k]?) → (∀ i, i ∈ pre → sp i w (slotOf l.toArray a i)) → (l.getD s default).wp P a w (fun a' w' => a' = a ∧ J w' (slotOf l.toArray a q)) Q)
    (hend : ∀ (a : Act) (w : World), a.defers = a0.defers → a.tmps.size = N → (∀ k, k ∈ kept → a.tmps[k]? = a0.tmps[k]?) → (∀ i, i < l.length → pu i (slotOf l.toArray a i)) → J w (slotOf l.toArray a q) → Q .normal a w) :
    wpAny P .any l.toArray Q l.toArray.size (Array.replicate l.toArray.size false) a0 w0 := by
  have hgd : ∀ (i : Nat) (o : Oper), l[i]? = some o → l.getD i default = o := fun i o ho => by simp [List.getD_eq_getElem?_getD, ho]
  have hs : l[s]? = some (l.getD s default) := by simp [List.getD_eq_getElem?_getD, hsl]
  refine one_store (so := l.getD s default) N B s q kept pre sp pu J hg hN hB hs hsd hsg hsp hqp hns hno hmono hpus ?_ ?_ hstore hend
  · intro i o ho hi a w hb hn hk hp
    have h := hstep i hi a w hb hn hk
    rw [hgd i o ho] at h
    exact h hp
  · intro i o ho hi his a w hn hk hp
    have h := hpure i (List.getElem?_eq_some_iff.1 ho).1 hi his a w hn hk
    rw [hgd i o ho] at h
    exact h hp
end
theorem wnone {o : Oper} {y : Nat → Option Bool} (h : o.guard = none) : Region.wanted o y = true := by simp [Region.wanted, h]
theorem nz_all : NZ 5 tAll := by
  simp [NZ, tAll, tLe, t0, tFX, tX, bX, bF]
def kept2 : List Nat := [0, 1, 3, 4, 5, 6, 7, 8, 9, 10, 25, 26, 27, 28, 29, 30, 31, 32, 33, 34, 35, 36, 37, 38, 39, 40, 41, 42, 43, 44, 45, 46, 47, 48, 49, 50, 51, 52, 53, 54, 55, 56, 57, 58, 59, 60, 61, 62, 63, 64, 65, 66, 67, 68, 69, 70, 71, 72, 73, 74, 75, 76, 77, 78, 79, 80, 81, 82, 83, 84, 85, 86, 87, 88, 89, 90, 91, 92]
def sps2 (B : Nat) : List Mx := [.val (.agg #[.string bX, .int .i64 1]), .vs [(bX, 1)], .val (.agg xC), .ls 1 [tX], .tm 1 tFX, .ls 2 [tFX], .tm 1 t0, .val (.agg xC), .ls 1 [tX], .tm 1 tFX, .ls 2 [t0, tFX], .tm 2 tLe, .ls 3 [tLe], .tm 3 tAll, .bx B]
/-- What region 2 leaves. -/
def J2 (B : Nat) (w0 w : World) (v : Value) : Prop := ∃ r, v = .pointer (some ⟨r, 0, none⟩) ∧ B ≤ r ∧ Below B w0 w ∧ TmAt w w.heap.size 4 r 0 tAll
set_option maxRecDepth 100000 in
set_option maxHeartbeats 4000000 in
theorem known_r2 {Q : Exit → Act → World → Prop} {a0 : Act} {w0 : World} {b1 : Nat} (hN : a0.tmps.size = 93) (h1 : a0.tmps[1]? = some (.pointer (some ⟨b1, 0, none⟩))) (hx : w0.heap[b1]? = some (.cells xC 26))
    (hend : ∀ (a : Act) (w : World), a.defers = a0.defers → a.tmps.size = 93 → (∀ k, k ∈ kept2 → a.tmps[k]? = a0.tmps[k]?) → J2 w0.heap.size w0 w (a.tmps.getD 2 undef) → Q .normal a w) :
    (Code.region 2 (regionOf Tryd.f12 2).toArray true).wp Tryd.prog Q a0 w0 := by
  have hD : Below w0.heap.size w0 w0.drew := (Below.refl _ w0).drew
  refine wp_region_any (by kernel_rfl) ?_
  refine one_store2 (l := regionOf Tryd.f12 2) (w0 := w0.drew) 93 w0.heap.size 15 14 kept2 [0, 1, 2, 3, 4, 5, 6, 7, 8, 9, 10, 11, 12, 13, 14] (fun i => ((sps2 w0.heap.size).getD i .any).ok) (fun _ _ => True) (J2 w0.heap.size w0) (by kernel_rfl) hN (Nat.le_refl _) (by decide) (by kernel_rfl) (by kernel_rfl) (by kernel_rfl) (by decide) (by decide) (by kernel_rfl) (fun i w w' v h hb => ((sps2 w0.heap.size).getD i .any).mono w w' v h hb) (fun _ => trivial) ?_ ?_ ?_ ?_
  · intro i hi a w hb hn hk hp
    have hb0 : Below w0.heap.size w0 w := hD.trans hb
    have hxw : w.heap[b1]? = some (.cells xC 26) := (hb0.block b1 (Array.getElem?_eq_some_iff.1 hx).1).trans hx
    have hld : (Instr.loadAt 26 (.pointer (some ⟨b1, 0, none⟩))).run Tryd.prog w = .ok (.agg xC) w := run_loadAt_mid (P := Tryd.prog) w b1 0 26 xC.toList _ (range_block hxw) rfl rfl rfl
    have k1 : a.eval (.tmp 1) = .pointer (some ⟨b1, 0, none⟩) := by
      have := (hk 1 (by decide)).trans h1
      simp [Act.eval, this]
    have hi' : i = 0 ∨ i = 1 ∨ i = 2 ∨ i = 3 ∨ i = 4 ∨ i = 5 ∨ i = 6 ∨ i = 7 ∨ i = 8 ∨ i = 9 ∨ i = 10 ∨ i = 11 ∨ i = 12 ∨ i = 13 ∨ i = 14 := by simpa using hi
    rcases hi' with rfl | rfl | rfl | rfl | rfl | rfl | rfl | rfl | rfl | rfl | rfl | rfl | rfl | rfl | rfl
    · exact st_want (wnone rfl) (op_bldV ⟨_, rfl, Below.refl _ _, rfl, trivial⟩)
    · exact st_want (wnone rfl) (op_bsV (s := bX) (n := 1) (by unfold fits; omega) (hp 0 rfl (by decide)) fun v w' h1 h2 => ⟨v, rfl, h1, h2, trivial⟩)
    · exact st_want (wnone rfl) (op_load k1 hld ⟨_, rfl, Below.refl _ _, rfl, trivial⟩)
    · exact st_want (wnone rfl) (op_bs1 (d := 0) (t := tX) (by have e : a.tmps.getD 13 undef = .agg xC := hp 2 rfl (by decide); rw [e]; exact isX w _ 0) fun v w' h1 h2 => ⟨v, rfl, h1, h2, trivial⟩)
    · obtain ⟨al, cl, e, hR⟩ : (Mx.ls 1 [tX]).ok w (a.tmps.getD 14 undef) := hp 3 rfl (by decide)
      refine st_want (wnone rfl) (op_call enter_app ?_)
      have hargs : (#[Operand.const (.string ⟨#[102]⟩), .tmp 14]).map a.eval = #[.string bF, .slice al 1 cl] := by
        simp only [List.map_toArray, List.map_cons, List.map_nil, Act.eval, e]
        rfl
      rw [hargs]
      refine (app_any bF al 1 cl w).mono ?_
      rintro e w' ⟨rfl, hb'⟩
      exact ⟨_, rfl, _, rfl, hb', (IsT.mk (t := tFX) (show fits 17 by unfold fits; omega) (show fits 0 by unfold fits; omega) hR row_nil row_nil).more hb' hb'.size (Nat.le_refl _), trivial⟩
    · exact st_want (wnone rfl) (op_bs1 (d := 1) (t := tFX) (hp 4 rfl (by decide)) fun v w' h1 h2 => ⟨v, rfl, h1, h2, trivial⟩)
    · refine st_want (wnone rfl) (op_call enter_n ?_)
      have hargs : (#[Operand.const (.string ⟨#[48]⟩)]).map a.eval = #[.string ⟨#[48]⟩] := by
        simp only [List.map_toArray, List.map_cons, List.map_nil, Act.eval]
      rw [hargs]
      refine (n_any ⟨#[48]⟩ w).mono ?_
      rintro e w' ⟨rfl, hb'⟩
      exact ⟨_, rfl, _, rfl, hb', isN _ w' _ 1, trivial⟩
    · exact st_want (wnone rfl) (op_load k1 hld ⟨_, rfl, Below.refl _ _, rfl, trivial⟩)
    · exact st_want (wnone rfl) (op_bs1 (d := 0) (t := tX) (by have e : a.tmps.getD 18 undef = .agg xC := hp 7 rfl (by decide); rw [e]; exact isX w _ 0) fun v w' h1 h2 => ⟨v, rfl, h1, h2, trivial⟩)
    · obtain ⟨al, cl, e, hR⟩ : (Mx.ls 1 [tX]).ok w (a.tmps.getD 19 undef) := hp 8 rfl (by decide)
      refine st_want (wnone rfl) (op_call enter_app ?_)
      have hargs : (#[Operand.const (.string ⟨#[102]⟩), .tmp 19]).map a.eval = #[.string bF, .slice al 1 cl] := by
        simp only [List.map_toArray, List.map_cons, List.map_nil, Act.eval, e]
        rfl
      rw [hargs]
      refine (app_any bF al 1 cl w).mono ?_
      rintro e w' ⟨rfl, hb'⟩
      exact ⟨_, rfl, _, rfl, hb', (IsT.mk (t := tFX) (show fits 17 by unfold fits; omega) (show fits 0 by unfold fits; omega) hR row_nil row_nil).more hb' hb'.size (Nat.le_refl _), trivial⟩
    · exact st_want (wnone rfl) (op_bs2 (d := 1) (t := t0) (u := tFX) (hp 6 rfl (by decide)) (hp 9 rfl (by decide)) fun v w' h1 h2 => ⟨v, rfl, h1, h2, trivial⟩)
    · exact st_want (wnone rfl) (op_bldL (d := 2) (op := 10) (l := [t0, tFX]) (by unfold fits; omega) (hp 10 rfl (by decide)) fun v h2 => ⟨v, rfl, Below.refl _ _, h2, trivial⟩)
    · exact st_want (wnone rfl) (op_bs1 (d := 2) (t := tLe) (hp 11 rfl (by decide)) fun v w' h1 h2 => ⟨v, rfl, h1, h2, trivial⟩)
    · have hP : (Mx.ls 3 [tFX]).ok w (a.tmps.getD 16 undef) := by
        obtain ⟨al, cl, e, hR⟩ : (Mx.ls 2 [tFX]).ok w (a.tmps.getD 16 undef) := hp 5 rfl (by decide)
        exact ⟨al, cl, e, hR.mono (Nat.le_refl _) fun b o j _ h u hu => (h u hu).more (Below.refl _ _) (Nat.le_refl _) (by omega)⟩
      exact st_want (wnone rfl) (op_bldA (d := 3) (l := [tLe]) (p := [tFX]) (x := [(bX, 1)]) (hp 1 rfl (by decide)) hP (hp 12 rfl (by decide)) fun v h2 => ⟨v, rfl, Below.refl _ _, h2, trivial⟩)
    · exact st_want (wnone rfl) (op_box fun v w' h1 ⟨r, h2, h3, h4⟩ => ⟨v, rfl, h1, ⟨r, h2, Nat.le_trans hb0.size h3, h4⟩, trivial⟩)
  · intro i hi hi1 hi2
    exfalso
    have hl : (regionOf Tryd.f12 2).length = 16 := by kernel_rfl
    rw [hl] at hi
    have hi1' : ¬ (i = 0 ∨ i = 1 ∨ i = 2 ∨ i = 3 ∨ i = 4 ∨ i = 5 ∨ i = 6 ∨ i = 7 ∨ i = 8 ∨ i = 9 ∨ i = 10 ∨ i = 11 ∨ i = 12 ∨ i = 13 ∨ i = 14) := by simpa using hi1
    omega
  · intro a w hb hn hk hp
    have hb0 : Below w0.heap.size w0 w := hD.trans hb
    obtain ⟨r, e, hr, hz⟩ : (Mx.bx w0.heap.size).ok w (a.tmps.getD 2 undef) := hp 14 (by decide)
    have h24 : (Mx.tm 3 tAll).ok w (a.tmps.getD 24 undef) := hp 13 (by decide)
    refine op_storeT (r := r) hz e h24 fun w' cs ecs hput hh => ⟨rfl, r, e, hr, ⟨hput.os.trans hb0.os, hput.tape.trans hb0.tape, hput.output.trans hb0.output, by rw [hput.size]; exact hb0.size, fun k hk => (hput.block k (by omega)).trans (hb0.block k hk)⟩, ?_⟩
    have hI : IsT w w.heap.size 3 (a.tmps.getD 24 undef) tAll := h24
    rw [ecs] at hI
    exact hI.put hz nz_all hput hh
  · intro a w hd hn hk _ hJ
    exact hend a w hd hn hk hJ
end Go.Proofs.YtiockiilenjjaaaDoor

/- known: what is said of its terms. -/
namespace Go.Proofs.YtiockiilenjjaaaDoor
open Go Go.RowKit
def tF3 : Tm := ⟨17, bF, 0, .empty, [t3], [], []⟩
def tR : Tm := ⟨10, .empty, 0, .empty, [t0, tF3], [], []⟩
def sigF : List Fn := [⟨bF, [1], 1⟩]
def rtT : ByteArray → Bool := fun _ => true
theorem tx_tX : tX.text = [120] := by
  rw [Tm.text_eq]
  rfl
theorem tx_tFX : tFX.text = [40, 102, 32, 120, 41] := by
  rw [Tm.text_eq]
  simp only [tFX, List.map_cons, List.map_nil, List.all_cons, List.all_nil, tx_tX]
  rfl
theorem tx_t0 : t0.text = [48] := by
  rw [Tm.text_eq]
  rfl
theorem tx_t3 : t3.text = [51] := by
  rw [Tm.text_eq]
  rfl
theorem tx_tLe : tLe.text = [40, 60, 61, 32, 48, 32, 40, 102, 32, 120, 41, 41] := by
  rw [Tm.text_eq]
  simp only [tLe, List.map_cons, List.map_nil, List.all_cons, List.all_nil, tx_t0, tx_tFX]
  rfl
theorem tx_tF3 : tF3.text = [40, 102, 32, 51, 41] := by
  rw [Tm.text_eq]
  simp only [tF3, List.map_cons, List.map_nil, List.all_cons, List.all_nil, tx_t3]
  rfl
theorem tx_tR : tR.text = [40, 60, 61, 32, 48, 32, 40, 102, 32, 51, 41, 41] := by
  rw [Tm.text_eq]
  simp only [tR, List.map_cons, List.map_nil, List.all_cons, List.all_nil, tx_t0, tx_tF3]
  rfl
theorem tx_tAll : tAll.text = [40, 102, 111, 114, 97, 108, 108, 32, 40, 120, 32, 105, 110, 116, 41, 32, 40, 112, 97, 116, 116, 101, 114, 110, 32, 40, 102, 32, 120, 41, 41, 32, 40, 60, 61, 32, 48, 32, 40, 102, 32, 120, 41, 41, 41] := by
  rw [Tm.text_eq]
  simp only [tAll, List.map_cons, List.map_nil, List.all_cons, List.all_nil, tx_tLe, tx_tFX]
  rfl
theorem sz_tX : tX.size = 1 := by
  rw [Tm.size_eq]
  rfl
theorem sz_tFX : tFX.size = 2 := by
  rw [Tm.size_eq]
  simp only [tFX, List.map_cons, List.map_nil, List.all_cons, List.all_nil, sz_tX]
  rfl
theorem sz_t0 : t0.size = 1 := by
  rw [Tm.size_eq]
  rfl
theorem sz_t3 : t3.size = 1 := by
  rw [Tm.size_eq]
  rfl
theorem sz_tLe : tLe.size = 4 := by
  rw [Tm.size_eq]
  simp only [tLe, List.map_cons, List.map_nil, List.all_cons, List.all_nil, sz_t0, sz_tFX]
  rfl
theorem sz_tF3 : tF3.size = 2 := by
  rw [Tm.size_eq]
  simp only [tF3, List.map_cons, List.map_nil, List.all_cons, List.all_nil, sz_t3]
  rfl
theorem sz_tR : tR.size = 4 := by
  rw [Tm.size_eq]
  simp only [tR, List.map_cons, List.map_nil, List.all_cons, List.all_nil, sz_t0, sz_tF3]
  rfl
theorem sz_tAll : tAll.size = 5 := by
  rw [Tm.size_eq]
  simp only [tAll, List.map_cons, List.map_nil, List.all_cons, List.all_nil, sz_tLe]
  rfl
theorem dp_tX : tX.depth = 1 := by
  rw [Tm.depth_eq]
  rfl
theorem dp_tFX : tFX.depth = 2 := by
  rw [Tm.depth_eq]
  simp only [tFX, List.map_cons, List.map_nil, List.all_cons, List.all_nil, dp_tX]
  rfl
theorem dp_t0 : t0.depth = 1 := by
  rw [Tm.depth_eq]
  rfl
theorem dp_t3 : t3.depth = 1 := by
  rw [Tm.depth_eq]
  rfl
theorem dp_tLe : tLe.depth = 3 := by
  rw [Tm.depth_eq]
  simp only [tLe, List.map_cons, List.map_nil, List.all_cons, List.all_nil, dp_t0, dp_tFX]
  rfl
theorem dp_tF3 : tF3.depth = 2 := by
  rw [Tm.depth_eq]
  simp only [tF3, List.map_cons, List.map_nil, List.all_cons, List.all_nil, dp_t3]
  rfl
theorem dp_tR : tR.depth = 3 := by
  rw [Tm.depth_eq]
  simp only [tR, List.map_cons, List.map_nil, List.all_cons, List.all_nil, dp_t0, dp_tF3]
  rfl
theorem dp_tAll : tAll.depth = 4 := by
  rw [Tm.depth_eq]
  simp only [tAll, List.map_cons, List.map_nil, List.all_cons, List.all_nil, dp_tLe]
  rfl
theorem gr_tX : tX.ground = false := by
  rw [Tm.ground_eq]
  rfl
theorem gr_tFX : tFX.ground = false := by
  rw [Tm.ground_eq]
  simp only [tFX, List.map_cons, List.map_nil, List.all_cons, List.all_nil, gr_tX]
  rfl
theorem gr_t0 : t0.ground = true := by
  rw [Tm.ground_eq]
  rfl
theorem gr_t3 : t3.ground = true := by
  rw [Tm.ground_eq]
  rfl
theorem gr_tLe : tLe.ground = false := by
  rw [Tm.ground_eq]
  simp only [tLe, List.map_cons, List.map_nil, List.all_cons, List.all_nil, gr_t0, gr_tFX]
  rfl
theorem gr_tF3 : tF3.ground = true := by
  rw [Tm.ground_eq]
  simp only [tF3, List.map_cons, List.map_nil, List.all_cons, List.all_nil, gr_t3]
  rfl
theorem gr_tR : tR.ground = true := by
  rw [Tm.ground_eq]
  simp only [tR, List.map_cons, List.map_nil, List.all_cons, List.all_nil, gr_t0, gr_tF3]
  rfl
theorem gr_tAll : tAll.ground = false := by
  rw [Tm.ground_eq]
  simp only [tAll, List.map_cons, List.map_nil, List.all_cons, List.all_nil, gr_tLe]
  rfl
theorem wt_tX : tX.wt = 1 := by
  rw [Tm.wt_eq]
  rfl
theorem wt_tFX : tFX.wt = 2 := by
  rw [Tm.wt_eq]
  simp only [tFX, List.map_cons, List.map_nil, List.all_cons, List.all_nil, wt_tX]
  rfl
theorem wt_t0 : t0.wt = 1 := by
  rw [Tm.wt_eq]
  rfl
theorem wt_t3 : t3.wt = 1 := by
  rw [Tm.wt_eq]
  rfl
theorem wt_tLe : tLe.wt = 4 := by
  rw [Tm.wt_eq]
  simp only [tLe, List.map_cons, List.map_nil, List.all_cons, List.all_nil, wt_t0, wt_tFX]
  rfl
theorem wt_tF3 : tF3.wt = 2 := by
  rw [Tm.wt_eq]
  simp only [tF3, List.map_cons, List.map_nil, List.all_cons, List.all_nil, wt_t3]
  rfl
theorem wt_tR : tR.wt = 4 := by
  rw [Tm.wt_eq]
  simp only [tR, List.map_cons, List.map_nil, List.all_cons, List.all_nil, wt_t0, wt_tF3]
  rfl
theorem wt_tAll : tAll.wt = 8 := by
  rw [Tm.wt_eq]
  simp only [tAll, List.map_cons, List.map_nil, List.all_cons, List.all_nil, wt_tLe, wt_tFX]
  rfl
theorem i0_t0 : t0.inst0 = t0 := by rw [Tm.inst0_eq]; rfl
theorem i0_t3 : t3.inst0 = t3 := by rw [Tm.inst0_eq]; rfl
theorem i0_tF3 : tF3.inst0 = tF3 := by
  rw [Tm.inst0_eq]
  simp only [tF3, List.map_cons, List.map_nil, i0_t3]
  rfl
theorem i0_tR : tR.inst0 = tR := by
  rw [Tm.inst0_eq]
  simp only [tR, List.map_cons, List.map_nil, i0_t0, i0_tF3]
  rfl
theorem gs_t0 : t0.gs = [t0] := by rw [Tm.gs_eq, gr_t0, i0_t0]; rfl
theorem gs_t3 : t3.gs = [t3] := by rw [Tm.gs_eq, gr_t3, i0_t3]; rfl
theorem gs_tF3 : tF3.gs = [t3, tF3] := by
  rw [Tm.gs_eq, gr_tF3, i0_tF3]
  simp only [tF3, gsL, List.map_cons, List.map_nil, gs_t3]
  rfl
theorem gs_tR : tR.gs = [t0, t3, tF3, tR] := by
  rw [Tm.gs_eq, gr_tR, i0_tR]
  simp only [tR, gsL, List.map_cons, List.map_nil, gs_t0, gs_tF3]
  rfl
theorem sm_03 : t0.same t3 = false := by
  have h : (t0.nu.toList == t3.nu.toList) = false := str_ne (show ¬ (⟨#[48]⟩ : ByteArray) = ⟨#[51]⟩ by decide)
  rw [Tm.same_eq]
  unfold Tm.sameLab
  rw [h]
  simp
theorem sm_0F : t0.same tF3 = false := by rw [Tm.same_eq]; rfl
theorem sm_3F : t3.same tF3 = false := by rw [Tm.same_eq]; rfl
theorem sm_0R : t0.same tR = false := by rw [Tm.same_eq]; rfl
theorem sm_3R : t3.same tR = false := by rw [Tm.same_eq]; rfl
theorem sm_FR : tF3.same tR = false := by rw [Tm.same_eq]; rfl
theorem c_apps : tR.apps = [tF3] := by
  unfold Tm.apps
  rw [gs_tR]
  have h : insAll [t0, t3, tF3, tR] [] = [t0, t3, tF3, tR] := by
    simp [insAll, insT, sm_03, sm_0F, sm_3F, sm_0R, sm_3R, sm_FR]
  rw [h]
  rfl
def sb : ByteArray → Option Tm := subV [(bX, 1)] [t3]
def h0 : ByteArray → Int := fun _ => 0
theorem rp_X : rep sb h0 18 bX = some t3 := by rfl
theorem in_tX : tX.inst sb h0 = t3 := by rw [(inst_some (t := tX) rp_X).1]; exact i0_t3
theorem in_t0 : t0.inst sb h0 = t0 := by rw [(inst_none (t := t0) rfl (by decide)).1]; rfl
theorem in_tFX : tFX.inst sb h0 = tF3 := by
  rw [(inst_none (t := tFX) rfl (by decide)).1]
  simp only [tFX, List.map_cons, List.map_nil, in_tX]
  rfl
theorem in_tLe : tLe.inst sb h0 = tR := by
  rw [(inst_none (t := tLe) rfl (by decide)).1]
  simp only [tLe, List.map_cons, List.map_nil, in_t0, in_tFX]
  rfl
theorem ic0_t3 : t3.icp0 = 0 := by
  unfold t3
  rw [Tm.icp0]
  rfl
theorem ic_tX : tX.icp sb h0 = 0 := by rw [(inst_some (t := tX) rp_X).2]; exact ic0_t3
theorem ic_t0 : t0.icp sb h0 = 0 := by rw [(inst_none (t := t0) rfl (by decide)).2]; rfl
theorem ic_tFX : tFX.icp sb h0 = 1 := by
  rw [(inst_none (t := tFX) rfl (by decide)).2]
  simp only [tFX, icpL, List.map_cons, List.map_nil, ic_tX]
  rfl
theorem ic_tLe : tLe.icp sb h0 = 3 := by
  rw [(inst_none (t := tLe) rfl (by decide)).2]
  simp only [tLe, icpL, List.map_cons, List.map_nil, ic_t0, ic_tFX]
  rfl
theorem wt0 (t : Tm) (h : t.op ≠ 19) : within t.op t.vars h0 = h0 := by unfold within; rw [if_neg h]
theorem is_tX : tX.isz sb h0 = 1 ∧ tX.idp sb h0 = 1 := by
  obtain ⟨e1, e2⟩ := isz_some (t := tX) rp_X
  rw [e1, e2]
  exact ⟨sz_t3, dp_t3⟩
theorem is_t0 : t0.isz sb h0 = 1 ∧ t0.idp sb h0 = 1 := by
  obtain ⟨e1, e2⟩ := isz_none (t := t0) (sub := sb) (hid := h0) rfl
  rw [e1, e2]
  exact ⟨rfl, rfl⟩
theorem is_tFX : tFX.isz sb h0 = 2 ∧ tFX.idp sb h0 = 2 := by
  obtain ⟨e1, e2⟩ := isz_none (t := tFX) (sub := sb) (hid := h0) rfl
  rw [e1, e2, wt0 tFX (by decide)]
  simp only [tFX, iszL, idpL, List.map_cons, List.map_nil, is_tX]
  exact ⟨rfl, rfl⟩
theorem is_tLe : tLe.isz sb h0 = 4 ∧ tLe.idp sb h0 = 3 := by
  obtain ⟨e1, e2⟩ := isz_none (t := tLe) (sub := sb) (hid := h0) rfl
  rw [e1, e2, wt0 tLe (by decide)]
  simp only [tLe, iszL, idpL, List.map_cons, List.map_nil, is_t0, is_tFX]
  exact ⟨rfl, rfl⟩
theorem nz_R : NZ 5 tR := by
  simp [NZ, tR, t0, tF3, t3]
end Go.Proofs.YtiockiilenjjaaaDoor

namespace Go.Proofs.YtiockiilenjjaaaDoor
open Go Go.RowKit
theorem wb_x : wordB bX = true := by
  unfold wordB isRes
  rw [ByteArray.toList_eq]
  decide
theorem wb_f : wordB bF = true := by
  unfold wordB isRes
  rw [ByteArray.toList_eq]
  decide
theorem ck_t0 (sig : List Fn) (env : ByteArray → List Int) : t0.chk rtT sig env = (1, 0) := by
  rw [Tm.chk_eq]
  rfl
theorem ck_tX (env : ByteArray → List Int) (h : (env bX).getLast? = some 1) (sig : List Fn) : tX.chk rtT sig env = (1, 0) := by
  rw [Tm.chk_eq]
  have hs : shapeE rtT sig tX.op tX.name tX.num tX.l.length (headOp tX.l) tX.vars tX.pat.length = 0 := by
    show (if shapeB rtT 18 bX .empty 0 0 [] 0 then (0 : Int) else 30) = 0
    unfold shapeB
    simp [wb_x]
  rw [hs]
  show varE bX 1 env = (1, 0)
  unfold varE
  rw [h]
  rfl
theorem find_f : findF bF sigF = some ⟨bF, [1], 1⟩ := by rfl
theorem ck_tFX (env : ByteArray → List Int) (h : (env bX).getLast? = some 1) : tFX.chk rtT sigF env = (1, 0) := by
  rw [Tm.chk_eq]
  have hs : shapeE rtT sigF tFX.op tFX.name tFX.num tFX.l.length (headOp tFX.l) tFX.vars tFX.pat.length = 0 := by
    show appE sigF bF 1 = 0
    unfold appE
    rw [wb_f, find_f]
    rfl
  have hl : chkL (tFX.l.map (Tm.chk rtT sigF)) env = ([1], 0) := by
    simp only [tFX, List.map_cons, List.map_nil, chkL, ck_tX env h sigF]
    rfl
  rw [hs, hl]
  rfl
theorem ck_tFX0 (env : ByteArray → List Int) : tFX.chk rtT [] env = (0, 32) := by
  rw [Tm.chk_eq]
  have hs : shapeE rtT [] tFX.op tFX.name tFX.num tFX.l.length (headOp tFX.l) tFX.vars tFX.pat.length = 32 := by
    show appE [] bF 1 = 32
    unfold appE
    rw [wb_f]
    rfl
  rw [hs]
  rfl
theorem ck_tLe (env : ByteArray → List Int) (h : (env bX).getLast? = some 1) : tLe.chk rtT sigF env = (2, 0) := by
  rw [Tm.chk_eq]
  have hs : shapeE rtT sigF tLe.op tLe.name tLe.num tLe.l.length (headOp tLe.l) tLe.vars tLe.pat.length = 0 := by rfl
  have hl : chkL (tLe.l.map (Tm.chk rtT sigF)) env = ([1, 1], 0) := by
    simp only [tLe, List.map_cons, List.map_nil, chkL, ck_t0, ck_tFX env h]
    rfl
  rw [hs, hl]
  rfl
theorem ck_tLe0 (env : ByteArray → List Int) : tLe.chk rtT [] env = (0, 32) := by
  rw [Tm.chk_eq]
  have hs : shapeE rtT [] tLe.op tLe.name tLe.num tLe.l.length (headOp tLe.l) tLe.vars tLe.pat.length = 0 := by rfl
  have hl : (chkL (tLe.l.map (Tm.chk rtT [])) env).2 = 32 := by
    simp only [tLe, List.map_cons, List.map_nil, chkL, ck_t0, ck_tFX0]
    rfl
  rw [hs, hl]
  rfl
theorem sh_all (sig : List Fn) : shapeE rtT sig 19 .empty .empty 1 10 [(bX, 1)] 1 = 0 := by
  unfold shapeE shapeB bindersB
  simp [wb_x, sortB, distinct, memB]
theorem bare_FX : tFX.bare = true ∧ tFX.vn = [bX] := by
  constructor
  · unfold tFX tX
    simp [Tm.bare]
  · unfold tFX tX
    simp [Tm.vn]
theorem env_x : ((bindV [(bX, 1)] fun _ => []) bX).getLast? = some 1 := by
  simp [bindV]
theorem c_chk : tAll.check rtT sigF = (2, 0) := by
  have hlim : limE tAll = 0 := by unfold limE; rw [dp_tAll, sz_tAll]; rfl
  unfold Tm.check
  rw [hlim]
  simp only [ne_eq, not_true_eq_false, if_false]
  unfold tAll
  rw [Tm.chk]
  have hp : limE tFX = 0 := by unfold limE; rw [dp_tFX, sz_tFX]; rfl
  have hu : underE (headF ([tLe].map fun u => Tm.chk rtT sigF u) (bindV [(bX, 1)] fun _ => [])) (patEs ([tFX].map fun p => ((limE p, p.op, p.bare), Tm.chk rtT sigF p)) (bindV [(bX, 1)] fun _ => [])) [(bX, 1)] (([tFX].map Tm.vn).flatten) = 0 := by
    simp only [List.map_cons, List.map_nil, headF, patEs, hp, bare_FX.1, bare_FX.2, ck_tLe _ env_x, ck_tFX _ env_x]
    simp [underE, patE, firstE, memB, tFX]
  have hs : shapeE rtT sigF 19 .empty .empty [tLe].length (headOp [tLe]) [(bX, 1)] [tFX].length = 0 := sh_all sigF
  rw [hs, hu]
  rfl
theorem c_chk0 : tAll.check rtT [] = (0, 32) := by
  have hlim : limE tAll = 0 := by unfold limE; rw [dp_tAll, sz_tAll]; rfl
  unfold Tm.check
  rw [hlim]
  simp only [ne_eq, not_true_eq_false, if_false]
  unfold tAll
  rw [Tm.chk]
  have hu : underE (headF ([tLe].map fun u => Tm.chk rtT [] u) (bindV [(bX, 1)] fun _ => [])) (patEs ([tFX].map fun p => ((limE p, p.op, p.bare), Tm.chk rtT [] p)) (bindV [(bX, 1)] fun _ => [])) [(bX, 1)] (([tFX].map Tm.vn).flatten) = 32 := by
    simp only [List.map_cons, List.map_nil, headF, ck_tLe0]
    simp [underE]
  have hs : shapeE rtT [] 19 .empty .empty [tLe].length (headOp [tLe]) [(bX, 1)] [tFX].length = 0 := sh_all []
  rw [hs, hu]
  rfl
end Go.Proofs.YtiockiilenjjaaaDoor
