/- Package farkas: a row, so many times, is added. -/
import Derived.Test.YthgdmppmjnmiiaaGreatDoorZAK
import Derived.Orders
import Derived.Deep.MidRow
set_option linter.unusedVariables false
set_option linter.unusedSimpArgs false

/- Package farkas: the end of add. -/
namespace Go.Proofs.YthgdmppmjnmiiaaGreatDoor
open Go Go.RowKit Go.Maps
open _root_.Go.Proofs.YthgdmppmjnmiiaaGreatDoor.Nm (IsI pw)
theorem arr_lit {a : Array Value} {n : Nat} (h : a.size = n) : a = ((List.range n).map fun i => a.getD i undef).toArray := by
  apply Array.ext
  · simp [h]
  · intro i h1 h2
    simp [Array.getD_eq_getD_getElem?, h1]
section
variable {P : Program} {Q : Exit → Act → World → Prop}
/-- Before the store: what each slot holds in memory that only grows; behind it: what the store left, and what hangs on no memory. -/
theorem one_store {l : List Oper} {a0 : Act} {w0 : World} {so : Oper} (N B s q : Nat) (kept pre : List Nat) (sp : Nat → World → Value → Prop) (pu : Nat → Value → Prop) (J : World → Value → Prop)
    (hg : fitF N 0 kept l = true) (hN : a0.tmps.size = N) (hB : B ≤ w0.heap.size) (hs : l[s]? = some so) (hsd : so.dst = none) (hsg : so.guard = none)
    (hsp : (pre.all fun i => (ancs l 4 (preds so)).contains i) = true) (hqd : (preds so).contains q = true) (hqp : q ∈ pre) (hns : s ∉ pre)
    (hno : ((List.range l.length).all fun i => i == s || (match l[i]? with | some o => o.dst.isSome | none => false)) = true)
    (hmono : ∀ i w w' v, sp i w v → Below w.heap.size w w' → sp i w' v)
    (hpus : ∀ v, pu s v)
    (hstep : ∀ i o, l[i]? = some o → i ∈ pre → ∀ (a : Act) (w : World), Below B w0 w → a.tmps.size = N → (∀ k, k ∈ kept → a.tmps[k]? = a0.tmps[k]?) → (∀ j, (preds o).contains j = true → j ∈ pre → sp j w (slotOf l.toArray a j)) →
      if Region.wanted o (yielded l.toArray a.tmps) then o.wp P a w (fun a' w' => ∃ v, a' = a.put o.dst v ∧ Below w.heap.size w w' ∧ sp i w' v ∧ pu i v) Q else sp i w undef ∧ pu i undef)
    (hpure : ∀ i o, l[i]? = some o → i ∉ pre → i ≠ s → ∀ (a : Act) (w : World), a.tmps.size = N → (∀ k, k ∈ kept → a.tmps[k]? = a0.tmps[k]?) → (∀ j, (preds o).contains j = true → pu j (slotOf l.toArray a j)) →
      if Region.wanted o (yielded l.toArray a.tmps) then o.wp P a w (fun a' w' => ∃ v, a' = a.put o.dst v ∧ w' = w ∧ pu i v) Q else pu i undef)
    (hstore : ∀ (a : Act) (w : World), Below B w0 w → a.tmps.size = N → (∀ k, k ∈ kept → a.tmps[k]? = a0.tmps[k]?) → (∀ i, i ∈ pre → sp i w (slotOf l.toArray a i)) → so.wp P a w (fun a' w' => a' = a ∧ J w' (slotOf l.toArray a q)) Q)
    (hend : ∀ (a : Act) (w : World), a.defers = a0.defers → a.tmps.size = N → (∀ k, k ∈ kept → a.tmps[k]? = a0.tmps[k]?) → (∀ i, i < l.length → pu i (slotOf l.toArray a i)) → J w (slotOf l.toArray a q) → Q .normal a w) :
    wpAny P .any l.toArray Q l.toArray.size (Array.replicate l.toArray.size false) a0 w0 := by
  have hspec := fitF_spec l 0 kept hg
  have hdst : ∀ i o, l[i]? = some o → i ≠ s → ∃ d, o.dst = some d := fun i o ho hne => by
    have hi := (List.getElem?_eq_some_iff.1 ho).1
    have h := List.all_eq_true.1 hno i (List.mem_range.2 hi)
    simp only [ho, Bool.or_eq_true, beq_iff_eq] at h
    exact Option.isSome_iff_exists.1 (h.resolve_left hne)
  have hslot : ∀ i o k ok (a : Act) v, l[i]? = some o → l[k]? = some ok → k ≠ i → k ≠ s → slotOf l.toArray (a.put o.dst v) k = slotOf l.toArray a k := fun i o k ok a v ho hk hne hks => by
    obtain ⟨dk, hdk⟩ := hdst k ok hk hks
    have hk' : l.toArray[k]? = some ok := by simpa using hk
    cases hd : o.dst with
    | none => rfl
    | some d =>
      refine slot_put_other hk' hdk fun e => ?_
      subst e
      rcases Nat.lt_or_gt_of_ne hne with h | h
      · exact ((hspec i o ho).2 d hd).2.2 k ok h hk hdk
      · exact ((hspec k ok hk).2 d hdk).2.2 i o h ho hd
  have hget : ∀ (listed : Array Bool) (i j : Nat), i ≠ j → (listed.setIfInBounds i true).getD j false = listed.getD j false := fun listed i j e => getD_set_ne false e
  refine stepsF N kept pu (fun listed a w => (listed.getD s false = true → J w (slotOf l.toArray a q)) ∧ (listed.getD s false = false → Below B w0 w ∧ ∀ i, i ∈ pre → listed.getD i false = true → sp i w (slotOf l.toArray a i))) hg hN ?_ ?_ ?_ ?_
  · refine ⟨fun h => ?_, fun _ => ⟨Below.refl _ _, fun i _ h => ?_⟩⟩ <;>
    · exfalso
      simp only [Array.getD_eq_getD_getElem?, Array.getElem?_replicate] at h
      split at h <;> cases h
  · intro i o ho listed a w hsz hun hdown hdf hn hk hpr hJ
    have hi := (List.getElem?_eq_some_iff.1 ho).1
    by_cases his : i = s
    · subst his
      rw [hs] at ho
      injection ho with ho
      subst ho
      have hw : Region.wanted so (yielded l.toArray a.tmps) = true := by simp [Region.wanted, hsg]
      have hl0 : listed.getD i false = false := by
        have h1 : i < listed.size := by omega
        simpa [h1] using hun
      obtain ⟨hb, hsps⟩ := hJ.2 hl0
      rw [if_pos hw]
      have hall : ∀ j, j ∈ pre → listed.getD j false = true := fun j hj => ancs_listed hdown 4 (preds so) (fun i hi => (hpr i (by simpa using hi)).1) j (by simpa using List.all_eq_true.1 hsp j hj)
      refine Oper.wp_mono ?_ (hstore a w hb hn hk fun j hj => hsps j hj (hall j hj))
      rintro a' w' ⟨rfl, hJ'⟩
      refine ⟨undef, (by rw [hsd]; rfl), (fun h => by rw [hsd] at h; cases h), (fun _ => hJ'), fun h => ?_⟩
      have h1 : i < listed.size := by omega
      simp [h1] at h
    · have hsame : (listed.setIfInBounds i true).getD s false = listed.getD s false := hget listed i s his
      have hoq : ∃ oq, l[q]? = some oq := by
        obtain ⟨e, he, hon⟩ := preds_spec hqd
        have h2 := (hspec s so hs).1 e he.1 he.2
        have h3 := (List.getElem?_eq_some_iff.1 hs).1
        exact ⟨_, List.getElem?_eq_getElem (by omega)⟩
      have hqs : q ≠ s := fun e => hns (e ▸ hqp)
      obtain ⟨oq, hoq⟩ := hoq
      by_cases hip : i ∈ pre
      · have hl0 : listed.getD s false = false := by
          cases h : listed.getD s false with
          | false => rfl
          | true =>
            have h2 := ancs_listed hdown 4 (preds so) (fun i hi => hdown s so hs h i (by simpa using hi)) i (by simpa using List.all_eq_true.1 hsp i hip)
            have h1 : i < listed.size := by omega
            simp only [Array.getD_eq_getD_getElem?, Array.getElem?_eq_getElem h1, Option.getD_some] at h2 hun
            rw [h2] at hun
            cases hun
        obtain ⟨hb, hsps⟩ := hJ.2 hl0
        have hkeep : ∀ w' v, Below w.heap.size w w' → sp i w' v → ((listed.setIfInBounds i true).getD s false = true → J w' (slotOf l.toArray (a.put o.dst v) q)) ∧ ((listed.setIfInBounds i true).getD s false = false → Below B w0 w' ∧ ∀ j, j ∈ pre → (listed.setIfInBounds i true).getD j false = true → sp j w' (slotOf l.toArray (a.put o.dst v) j)) := fun w' v hb' hv => by
          refine ⟨(fun h => by rw [hsame, hl0] at h; cases h), fun _ => ⟨hb.trans (hb'.mono (Nat.le_trans hB hb.size)), fun j hj hlj => ?_⟩⟩
          by_cases e : i = j
          · subst e
            obtain ⟨d, hd⟩ := hdst i o ho his
            have ho' : l.toArray[i]? = some o := by simpa using ho
            have h1 := slot_put_same (a := a) (v := v) ho' hd (by have := ((hspec i o ho).2 d hd).2.1; omega)
            rw [h1]
            exact hv
          · rw [hget listed i j e] at hlj
            have hjl : j < l.length := by
              rcases Nat.lt_or_ge j listed.size with h | h
              · omega
              · simp [Array.getElem?_eq_none h] at hlj
            rw [hslot i o j l[j] a v ho (List.getElem?_eq_getElem hjl) (Ne.symm e) (fun e' => hns (e' ▸ hj))]
            exact hmono _ _ _ _ (hsps j hj hlj) hb'
        have h := hstep i o ho hip a w hb hn hk fun j hj hjp => hsps j hjp (hpr j hj).1
        split at h
        · rename_i hw
          rw [if_pos hw]
          refine Oper.wp_mono ?_ h
          rintro a' w' ⟨v, rfl, hb', hv, hpv⟩
          exact ⟨v, rfl, fun _ => hpv, hkeep w' v hb' hv⟩
        · rename_i hw
          rw [if_neg hw]
          exact ⟨fun _ => h.2, hkeep w undef (Below.refl _ _) h.1⟩
      · have hkeep : ∀ v, ((listed.setIfInBounds i true).getD s false = true → J w (slotOf l.toArray (a.put o.dst v) q)) ∧ ((listed.setIfInBounds i true).getD s false = false → Below B w0 w ∧ ∀ j, j ∈ pre → (listed.setIfInBounds i true).getD j false = true → sp j w (slotOf l.toArray (a.put o.dst v) j)) := fun v => by
          rw [hsame]
          refine ⟨fun h => ?_, fun h => ⟨(hJ.2 h).1, fun j hj hlj => ?_⟩⟩
          · rw [hslot i o q oq a v ho hoq (fun e => hip (e ▸ hqp)) hqs]
            exact hJ.1 h
          · have e : i ≠ j := fun e => hip (e ▸ hj)
            rw [hget listed i j e] at hlj
            have hjl : j < l.length := by
              rcases Nat.lt_or_ge j listed.size with h | h
              · omega
              · simp [Array.getElem?_eq_none h] at hlj
            rw [hslot i o j l[j] a v ho (List.getElem?_eq_getElem hjl) (Ne.symm e) (fun e' => hns (e' ▸ hj))]
            exact (hJ.2 h).2 j hj hlj
        have h := hpure i o ho hip his a w hn hk fun j hj => (hpr j hj).2
        split at h
        · rename_i hw
          rw [if_pos hw]
          refine Oper.wp_mono ?_ h
          rintro a' w' ⟨v, rfl, rfl, hpv⟩
          exact ⟨v, rfl, fun _ => hpv, hkeep v⟩
        · rename_i hw
          rw [if_neg hw]
          exact ⟨fun _ => h, hkeep undef⟩
  · intro i o ho hd v
    by_cases his : i = s
    · subst his; exact hpus v
    · obtain ⟨d, hd'⟩ := hdst i o ho his
      rw [hd'] at hd
      cases hd
  · intro listed a w hsz hall hdf hn hk hpu hJ
    exact hend a w hdf hn hk hpu (hJ.1 (hall s (List.getElem?_eq_some_iff.1 hs).1))
end
section
variable {P : Program} {Q : Exit → Act → World → Prop}
/-- As one_store, by the operation's number. -/
theorem one_store2 {l : List Oper} {a0 : Act} {w0 : World} (N B s q : Nat) (kept pre : List Nat) (sp : Nat → World → Value → Prop) (pu : Nat → Value → Prop) (J : World → Value → Prop)
    (hg : fitF N 0 kept l = true) (hN : a0.tmps.size = N) (hB : B ≤ w0.heap.size) (hsl : s < l.length) (hsd : (l.getD s default).dst = none) (hsg : (l.getD s default).guard = none)
    (hsp : (pre.all fun i => (ancs l 4 (preds (l.getD s default))).contains i) = true) (hqd : (preds (l.getD s default)).contains q = true) (hqp : q ∈ pre) (hns : s ∉ pre)
    (hno : ((List.range l.length).all fun i => i == s || (match l[i]? with | some o => o.dst.isSome | none => false)) = true)
    (hmono : ∀ i w w' v, sp i w v → Below w.heap.size w w' → sp i w' v)
    (hpus : ∀ v, pu s v)
    (hstep : ∀ i, i ∈ pre → ∀ (a : Act) (w : World), Below B w0 w → a.tmps.size = N → (∀ k, k ∈ kept → a.tmps[k]? = a0.tmps[k]?) → (∀ j, (preds (l.getD i default)).contains j = true → j ∈ pre → sp j w (slotOf l.toArray a j)) →
      if Region.wanted (l.getD i default) (yielded l.toArray a.tmps) then (l.getD i default).wp P a w (fun a' w' => ∃ v, a' = a.put (l.getD i default).dst v ∧ Below w.heap.size w w' ∧ sp i w' v ∧ pu i v) Q else sp i w undef ∧ pu i undef)
    (hpure : ∀ i, i < l.length → i ∉ pre → i ≠ s → ∀ (a : Act) (w : World), a.tmps.size = N → (∀ k, k ∈ kept → a.tmps[k]? = a0.tmps[k]?) → (∀ j, (preds (l.getD i default)).contains j = true → pu j (slotOf l.toArray a j)) →
      if Region.wanted (l.getD i default) (yielded l.toArray a.tmps) then (l.getD i default).wp P a w (fun a' w' => ∃ v, a' = a.put (l.getD i default).dst v ∧ w' = w ∧ pu i v) Q else pu i undef)
    (hstore : ∀ (a : Act) (w : World), Below B w0 w → a.tmps.size = N → (∀ k, k ∈ kept → a.tmps[k]? = a0.tmps[k]?) → (∀ i, i ∈ pre → sp i w (slotOf l.toArray a i)) → (l.getD s default).wp P a w (fun a' w' => a' = a ∧ J w' (slotOf l.toArray a q)) Q)
    (hend : ∀ (a : Act) (w : World), a.defers = a0.defers → a.tmps.size = N → (∀ k, k ∈ kept → a.tmps[k]? = a0.tmps[k]?) → (∀ i, i < l.length → pu i (slotOf l.toArray a i)) → J w (slotOf l.toArray a q) → Q .normal a w) :
    wpAny P .any l.toArray Q l.toArray.size (Array.replicate l.toArray.size false) a0 w0 := by
  have hgd : ∀ (i : Nat) (o : Oper), l[i]? = some o → l.getD i default = o := fun i o ho => by simp [List.getD_eq_getElem?_getD, ho]
  have hs : l[s]? = some (l.getD s default) := by simp [List.getD_eq_getElem?_getD, hsl]
  refine one_store (so := l.getD s default) N B s q kept pre sp pu J hg hN hB hs hsd hsg hsp hqd hqp hns hno hmono hpus ?_ ?_ hstore hend
  · intro i o ho hi a w hb hn hk hp
    have h := hstep i hi a w hb hn hk
    rw [hgd i o ho] at h
    exact h hp
  · intro i o ho hi his a w hn hk hp
    have h := hpure i (List.getElem?_eq_some_iff.1 ho).1 hi his a w hn hk
    rw [hgd i o ho] at h
    exact h hp
end
theorem wnone {o : Oper} {y : Nat → Option Bool} (h : o.guard = none) : Region.wanted o y = true := by simp [Region.wanted, h]

theorem enter_Mul2 : Enters Tryz.prog 46 := ⟨fun xs w => by go_simp⟩
theorem enter_Add2 : Enters Tryz.prog 45 := ⟨fun xs w => by go_simp⟩
theorem op_nilCheck {P : Program} {Q : Exit → Act → World → Prop} {K : Act → World → Prop} {a : Act} {w : World} {dst : Option Tmp} {ty : TypeId} {pos : String} {af : Array Edge} {gd : Option (Nat × Bool)} {x : Operand} {p : Addr} (hx : a.eval x = .pointer (some p)) (h : K (a.put dst (.pointer (some p))) w) : Oper.wp P ⟨dst, .nilCheck x, ty, pos, af, gd⟩ a w K Q := by
  unfold Oper.wp
  simp only [execOp, hx]
  exact h
set_option maxRecDepth 100000 in
theorem fa_sum (r : Nat) (w : World) : (Instr.fieldAt 51 (.pointer (some ⟨r, 0, none⟩)) 1).run Tryz.prog w = .ok (.pointer (some ⟨r, 1, none⟩)) w := by go_simp
set_option maxRecDepth 100000 in
theorem fa_row (r : Nat) (w : World) : (Instr.fieldAt 68 (.pointer (some ⟨r, 0, none⟩)) 1).run Tryz.prog w = .ok (.pointer (some ⟨r, 1, none⟩)) w := by go_simp
set_option maxRecDepth 100000 in
theorem ld_I {b o : Nat} {x y : Value} {w : World} (h : w.rangeAt b o [x, y]) : (Instr.loadAt 49 (.pointer (some ⟨b, o, none⟩))).run Tryz.prog w = .ok (.agg #[x, y]) w := run_loadAt_mid (P := Tryz.prog) w b o 49 _ _ h rfl rfl rfl
def sps9 (r X T : Nat) (sv xv tv : Value) : List Value := [.pointer (some ⟨r, 0, none⟩), .pointer (some ⟨r, 0, none⟩), .pointer (some ⟨r, 0, none⟩), .pointer (some ⟨r, 1, none⟩), sv, .pointer (some ⟨X, 1, none⟩), xv, tv, undef, undef, .pointer (some ⟨r, 0, none⟩), .pointer (some ⟨r, 1, none⟩)]
def sp9 (r X T : Nat) (sv xv tv : Value) (z1 z2 : Int) (j : Nat) (w : World) (v : Value) : Prop := (j ≠ 8 → j ≠ 9 → v = (sps9 r X T sv xv tv).getD j undef) ∧ (j = 8 → IsI w v z1) ∧ (j = 9 → IsI w v z2)
def kept9 : List Nat := List.range 45
set_option maxRecDepth 100000 in
set_option maxHeartbeats 4000000 in
theorem add_r9 {Q : Exit → Act → World → Prop} {a0 : Act} {w0 : World} {r X : Nat} {s1 s2 x1 x2 t1 t2 : Value} {k kx t : Int} (hN : a0.tmps.size = 57) (h0 : a0.tmps[0]? = some (.pointer (some ⟨r, 0, none⟩))) (h4 : a0.tmps[4]? = some (.pointer (some ⟨X, 0, none⟩))) (h5 : a0.tmps[5]? = some (.pointer (some ⟨X + 1, 0, none⟩)))
    (hr : ∃ m, w0.heap[r]? = some (.cells #[m, s1, s2] 51)) (hX : ∃ y, w0.heap[X]? = some (.cells #[y, x1, x2] 68)) (hT : w0.heap[X + 1]? = some (.cells #[t1, t2] 49))
    (hs : IsB w0 w0.heap.size (.agg #[s1, s2]) k) (hx : IsB w0 w0.heap.size (.agg #[x1, x2]) kx) (ht : IsB w0 w0.heap.size (.agg #[t1, t2]) t) (bk : (k.natAbs : Int) < pw 4000) (bx : (kx.natAbs : Int) < pw 4000) (bt : (t.natAbs : Int) < pw 4000) (bxt : ((kx * t).natAbs : Int) < pw 4000)
    (hend : ∀ (a : Act) (w : World), a.defers = a0.defers → (∃ (V : World) (n0 : Int) (na : Option Addr) (nl nc : Nat), Below w0.heap.size w0 V ∧ IsI V (.agg #[.int .i64 n0, .slice na nl nc]) (k + kx * t) ∧ w = (V.setCell ⟨r, 1, none⟩ (.int .i64 n0)).setCell ⟨r, 2, none⟩ (.slice na nl nc)) → Q .normal a w) :
    (Code.region 9 (Nm.regionOf Tryz.f29 9).toArray true).wp Tryz.prog Q a0 w0 := by
  obtain ⟨m, hr⟩ := hr
  obtain ⟨y, hX⟩ := hX
  have hD : Below w0.heap.size w0 w0.drew := (Below.refl _ w0).drew
  have hl : (Nm.regionOf Tryz.f29 9).length = 13 := by kernel_rfl
  have hrlt : r < w0.heap.size := (Array.getElem?_eq_some_iff.1 hr).1
  have hXlt : X < w0.heap.size := (Array.getElem?_eq_some_iff.1 hX).1
  have hTlt : X + 1 < w0.heap.size := (Array.getElem?_eq_some_iff.1 hT).1
  refine wp_region_any (by kernel_rfl) ?_
  refine one_store2 (l := (Nm.regionOf Tryz.f29 9)) (w0 := w0.drew) 57 w0.heap.size 12 0 kept9 [0, 1, 2, 3, 4, 5, 6, 7, 8, 9, 10, 11] (sp9 r X (X + 1) (.agg #[s1, s2]) (.agg #[x1, x2]) (.agg #[t1, t2]) (kx * t) (k + kx * t)) (fun _ _ => True) (fun w _ => ∃ (V : World) (n0 : Int) (na : Option Addr) (nl nc : Nat), Below w0.heap.size w0 V ∧ IsI V (.agg #[.int .i64 n0, .slice na nl nc]) (k + kx * t) ∧ w = (V.setCell ⟨r, 1, none⟩ (.int .i64 n0)).setCell ⟨r, 2, none⟩ (.slice na nl nc)) (by kernel_rfl) hN (Nat.le_refl _) (by rw [hl]; omega) (by kernel_rfl) (by kernel_rfl) (by kernel_rfl) (by kernel_rfl) (by decide) (by decide) (by kernel_rfl) ?_ (fun _ => trivial) ?_ ?_ ?_ ?_
  · intro j w w' v h hb
    exact ⟨h.1, fun e => (h.2.1 e).below hb, fun e => (h.2.2 e).below hb⟩
  · intro j hj a w hb hn hk hp
    have hb0 : Below w0.heap.size w0 w := hD.trans hb
    have k0 : a.eval (.tmp 0) = .pointer (some ⟨r, 0, none⟩) := getD_of ((hk 0 (by decide)).trans h0)
    have k4 : a.eval (.tmp 4) = .pointer (some ⟨X, 0, none⟩) := getD_of ((hk 4 (by decide)).trans h4)
    have k5 : a.eval (.tmp 5) = .pointer (some ⟨X + 1, 0, none⟩) := getD_of ((hk 5 (by decide)).trans h5)
    have hi' : j = 0 ∨ j = 1 ∨ j = 2 ∨ j = 3 ∨ j = 4 ∨ j = 5 ∨ j = 6 ∨ j = 7 ∨ j = 8 ∨ j = 9 ∨ j = 10 ∨ j = 11 := by simpa using hj
    rcases hi' with rfl | rfl | rfl | rfl | rfl | rfl | rfl | rfl | rfl | rfl | rfl | rfl
    · exact st_want (wnone rfl) (op_move ⟨_, rfl, Below.refl _ _, ⟨fun _ _ => k0, by simp, by simp⟩, trivial⟩)
    · exact st_want (wnone rfl) (op_move ⟨_, rfl, Below.refl _ _, ⟨fun _ _ => k0, by simp, by simp⟩, trivial⟩)
    · have e : a.eval (.tmp 46) = .pointer (some ⟨r, 0, none⟩) := (hp 1 rfl (by decide)).1 (by decide) (by decide)
      exact st_want (wnone rfl) (op_nilCheck e ⟨_, rfl, Below.refl _ _, ⟨fun _ _ => rfl, by simp, by simp⟩, trivial⟩)
    · have e : a.eval (.tmp 47) = .pointer (some ⟨r, 0, none⟩) := (hp 2 rfl (by decide)).1 (by decide) (by decide)
      exact st_want (wnone rfl) (op_fieldAddr e (fa_sum r w) ⟨_, rfl, Below.refl _ _, ⟨fun _ _ => rfl, by simp, by simp⟩, trivial⟩)
    · have e : a.eval (.tmp 48) = .pointer (some ⟨r, 1, none⟩) := (hp 3 rfl (by decide)).1 (by decide) (by decide)
      refine st_want (wnone rfl) (op_load e (ld_I (x := s1) (y := s2) fun j v hv => ?_) ⟨_, rfl, Below.refl _ _, ⟨fun _ _ => rfl, by simp, by simp⟩, trivial⟩)
      rw [hb0.cell (p := ⟨r, 1 + j, none⟩) hrlt]
      match j, hv with
      | 0, hv => exact ((blk hr).2.1 1 _ rfl).trans (by simpa using hv)
      | 1, hv => exact ((blk hr).2.1 2 _ rfl).trans (by simpa using hv)
      | j + 2, hv => simp at hv
    · exact st_want (wnone rfl) (op_fieldAddr k4 (fa_row X w) ⟨_, rfl, Below.refl _ _, ⟨fun _ _ => rfl, by simp, by simp⟩, trivial⟩)
    · have e : a.eval (.tmp 50) = .pointer (some ⟨X, 1, none⟩) := (hp 5 rfl (by decide)).1 (by decide) (by decide)
      refine st_want (wnone rfl) (op_load e (ld_I (x := x1) (y := x2) fun j v hv => ?_) ⟨_, rfl, Below.refl _ _, ⟨fun _ _ => rfl, by simp, by simp⟩, trivial⟩)
      rw [hb0.cell (p := ⟨X, 1 + j, none⟩) hXlt]
      match j, hv with
      | 0, hv => exact ((blk hX).2.1 1 _ rfl).trans (by simpa using hv)
      | 1, hv => exact ((blk hX).2.1 2 _ rfl).trans (by simpa using hv)
      | j + 2, hv => simp at hv
    · refine st_want (wnone rfl) (op_load k5 (ld_I (x := t1) (y := t2) fun j v hv => ?_) ⟨_, rfl, Below.refl _ _, ⟨fun _ _ => rfl, by simp, by simp⟩, trivial⟩)
      rw [hb0.cell (p := ⟨X + 1, 0 + j, none⟩) hTlt]
      match j, hv with
      | 0, hv => exact ((blk hT).2.1 0 _ rfl).trans (by simpa using hv)
      | 1, hv => exact ((blk hT).2.1 1 _ rfl).trans (by simpa using hv)
      | j + 2, hv => simp at hv
    · have e1 : a.tmps.getD 51 undef = .agg #[x1, x2] := (hp 6 rfl (by decide)).1 (by decide) (by decide)
      have e2 : a.tmps.getD 52 undef = .agg #[t1, t2] := (hp 7 rfl (by decide)).1 (by decide) (by decide)
      refine st_want (wnone rfl) (op_call enter_Mul2 ?_)
      have hargs : (#[Operand.tmp 51, .tmp 52]).map a.eval = #[.agg #[x1, x2], .agg #[t1, t2]] := by
        simp only [List.map_toArray, List.map_cons, List.map_nil, Act.eval]
        rw [e1, e2]
      rw [hargs]
      refine (Nm.mul_any _ _ kx t w (hx.more hb0 hb0.size).1 (ht.more hb0 hb0.size).1 bx bt).mono ?_
      rintro ex w' ⟨q, rfl, hb', hI⟩
      exact ⟨q, rfl, q, rfl, hb', ⟨by simp, fun _ => hI, by simp⟩, trivial⟩
    · have e1 : a.tmps.getD 49 undef = .agg #[s1, s2] := (hp 4 rfl (by decide)).1 (by decide) (by decide)
      have e2 : IsI w (a.tmps.getD 53 undef) (kx * t) := (hp 8 rfl (by decide)).2.1 rfl
      refine st_want (wnone rfl) (op_call enter_Add2 ?_)
      have hargs : (#[Operand.tmp 49, .tmp 53]).map a.eval = #[.agg #[s1, s2], a.tmps.getD 53 undef] := by
        simp only [List.map_toArray, List.map_cons, List.map_nil, Act.eval]
        rw [e1]
      rw [hargs]
      refine (Nm.add_any _ _ k (kx * t) w (hs.more hb0 hb0.size).1 e2 bk bxt).mono ?_
      rintro ex w' ⟨q, rfl, hb', hI⟩
      exact ⟨q, rfl, q, rfl, hb', ⟨by simp, by simp, fun _ => hI⟩, trivial⟩
    · have e : a.eval (.tmp 45) = .pointer (some ⟨r, 0, none⟩) := (hp 0 rfl (by decide)).1 (by decide) (by decide)
      exact st_want (wnone rfl) (op_nilCheck e ⟨_, rfl, Below.refl _ _, ⟨fun _ _ => rfl, by simp, by simp⟩, trivial⟩)
    · have e : a.eval (.tmp 55) = .pointer (some ⟨r, 0, none⟩) := (hp 10 rfl (by decide)).1 (by decide) (by decide)
      exact st_want (wnone rfl) (op_fieldAddr e (fa_sum r w) ⟨_, rfl, Below.refl _ _, ⟨fun _ _ => rfl, by simp, by simp⟩, trivial⟩)
  · intro j hj hj1 hj2 a w hn hk hp
    rw [hl] at hj
    have hj1' : ¬ (j = 0 ∨ j = 1 ∨ j = 2 ∨ j = 3 ∨ j = 4 ∨ j = 5 ∨ j = 6 ∨ j = 7 ∨ j = 8 ∨ j = 9 ∨ j = 10 ∨ j = 11) := by simpa using hj1
    omega
  · intro a w hb hn hk hp
    have hb0 : Below w0.heap.size w0 w := hD.trans hb
    have hI : IsI w (a.tmps.getD 54 undef) (k + kx * t) := (hp 9 (by decide)).2.2 rfl
    obtain ⟨n0, na, nl, nc, e7⟩ := hI.form
    have e3 : a.eval (.tmp 54) = .agg #[.int .i64 n0, .slice na nl nc] := e7
    have e4 : a.eval (.tmp 56) = .pointer (some ⟨r, 1, none⟩) := (hp 11 (by decide)).1 (by decide) (by decide)
    rw [e7] at hI
    have hrw : w.heap[r]? = some (.cells #[m, s1, s2] 51) := (hb0.block r hrlt).trans hr
    have r1 : w.cell? ⟨r, 1, none⟩ = some s1 := (blk hrw).2.1 1 _ rfl
    have r2 : w.cell? ⟨r, 2, none⟩ = some s2 := (blk hrw).2.1 2 _ rfl
    have f1 := (blk hrw).2.2 1
    have f2 := (blk hrw).2.2 2
    show Oper.wp Tryz.prog ⟨none, .store 49 (.tmp 56) (.tmp 54), _, _, _, _⟩ a w _ _
    unfold Oper.wp
    simp only [execOp, e3, e4]
    simp [go_sem, r1, r2, f1, f2]
    exact ⟨w, hb0, n0, na, nl, nc, hI, rfl⟩
  · intro a w hd hn hk hpu hJ
    exact hend a w hd hJ
end Go.Proofs.YthgdmppmjnmiiaaGreatDoor

namespace Go.Proofs.YthgdmppmjnmiiaaGreatDoor
open Go Go.RowKit Go.Maps
open _root_.Go.Proofs.YthgdmppmjnmiiaaGreatDoor.Nm (IsI pw)
theorem keepC {W0 cur w' : World} {X : Prop} (h : Below W0.heap.size W0 cur ∧ X) (hb : Below cur.heap.size cur w') : Below W0.heap.size W0 w' := h.1.trans (hb.mono h.1.size)
theorem keepA {W0 cur : World} {X : Prop} (h : Below W0.heap.size W0 cur ∧ X) (o : Obj) : Below W0.heap.size W0 (cur.alloc o) := h.1.alloc h.1.size _
theorem keep0 (W0 : World) : Below W0.heap.size W0 W0.drew := (Below.refl _ W0).drew
theorem new_in {W v1 : World} {o : Obj} (hv : Below (W.alloc o).drew.heap.size (W.alloc o).drew v1) : v1.heap[W.heap.size]? = some o := by
  have h := (MapKept.heap_alloc W o).1
  have hl : W.heap.size < (W.alloc o).drew.heap.size := (Array.getElem?_eq_some_iff.1 (show (W.alloc o).drew.heap[W.heap.size]? = some o from h)).1
  exact (hv.block W.heap.size hl).trans h
theorem new_in2 {W v1 : World} {o : Obj} (hv : Below (W.alloc o).heap.size (W.alloc o) v1) : v1.heap[W.heap.size]? = some o := by
  have h := (MapKept.heap_alloc W o).1
  exact (hv.block W.heap.size (Array.getElem?_eq_some_iff.1 h).1).trans h
/-- All that was there stands, one block aside. -/
structure But (r : Nat) (w w' : World) : Prop where
  os : w'.os = w.os
  tape : w'.tape = w.tape
  output : w'.output = w.output
  size : w.heap.size ≤ w'.heap.size
  block : ∀ k, k < w.heap.size → k ≠ r → w'.heap[k]? = w.heap[k]?
theorem But.refl (r : Nat) (w : World) : But r w w := ⟨rfl, rfl, rfl, Nat.le_refl _, fun _ _ _ => rfl⟩
theorem But.of {r B : Nat} {w w' : World} (h : Below B w w') (hB : w.heap.size ≤ B) : But r w w' := ⟨h.os, h.tape, h.output, h.size, fun k hk _ => h.block k (Nat.lt_of_lt_of_le hk hB)⟩
theorem But.cell {r : Nat} {w w' : World} (h : But r w w') {p : Addr} (hp : p.block < w.heap.size) (hr : p.block ≠ r) : w'.cell? p = w.cell? p := World.cell?_of_block (w := w) (h.block p.block hp hr)
theorem But.setCell {r : Nat} {a w : World} (h : But r a w) {p : Addr} (hp : p.block = r ∨ a.heap.size ≤ p.block) (u : Value) : But r a (w.setCell p u) := by
  refine ⟨h.os, h.tape, h.output, by simpa using h.size, fun k hk hr => ?_⟩
  rw [Below.heap_setCell w p u k (by rcases hp with rfl | hp <;> omega)]
  exact h.block k hk hr
/-- Within a round of add: the sum is there, the row, how many times. -/
structure AI (w : World) (r mb n : Nat) (f : ByteArray → Int) (k : Int) (v : Value) (ps : List (ByteArray × Int)) (kx : Int) (tv : Value) (t : Int) (V : World) : Prop where
  fr : Fr r mb w V
  sz : w.heap.size + 2 ≤ V.heap.size
  sum : SumAt V r mb n f k
  row : IsR V V.heap.size v ps kx
  tm : IsB V V.heap.size tv t
  bx : ∃ x y z, v = .agg #[x, y, z] ∧ V.heap[w.heap.size]? = some (.cells #[x, y, z] 68)
  bt : ∃ x y, tv = .agg #[x, y] ∧ V.heap[w.heap.size + 1]? = some (.cells #[x, y] 49)
theorem AI.grow {w : World} {r mb n : Nat} {f : ByteArray → Int} {k : Int} {v : Value} {ps : List (ByteArray × Int)} {kx : Int} {tv : Value} {t : Int} {V V' : World} (h : AI w r mb n f k v ps kx tv t V) (hb : Below V.heap.size V V') : AI w r mb n f k v ps kx tv t V' := by
  obtain ⟨h1, h2, h3, h4, h5, ⟨x, y, z, e, h6⟩, ⟨x', y', e', h7⟩⟩ := h
  exact ⟨h1.trans (Fr.of hb (Nat.le_refl _)), Nat.le_trans h2 hb.size, h3.more hb, h4.more hb hb.size (Nat.le_refl _), h5.more hb hb.size, ⟨x, y, z, e, (hb.block _ (Array.getElem?_eq_some_iff.1 h6).1).trans h6⟩, ⟨x', y', e', (hb.block _ (Array.getElem?_eq_some_iff.1 h7).1).trans h7⟩⟩
theorem fput_self {f : ByteArray → Int} {s : ByteArray} {z : Int} (h : f s = z) : fput f s z = f := by
  funext t
  unfold fput
  split
  · rename_i e; rw [e, h]
  · rfl
/-- The map is turned: what stands. -/
theorem AI.map {w : World} {r mb n : Nat} {f g : ByteArray → Int} {k : Int} {v : Value} {ps : List (ByteArray × Int)} {kx : Int} {tv : Value} {t : Int} {V V' : World} {n' : Nat} (h : AI w r mb n f k v ps kx tv t V) (ht : V.mapTurned V' mb) (hw : r < w.heap.size ∧ mb < w.heap.size) (hS : ∀ D i a l c, V.heap[r]? = some (.cells #[.map (some mb), .int .i64 i, .slice a l c] 51) → V.ownsMap Tryz.prog 9 R0 mb n D → MF V D f → ∃ D', V'.ownsMap Tryz.prog 9 R0 mb n' D' ∧ MF V D' g) : AI w r mb n' g k v ps kx tv t V' := by
  obtain ⟨h1, h2, ⟨D, i, a, l, c, s1, s2, s3, s4⟩, h4, h5, ⟨x, y, z, e, h6⟩, ⟨x', y', e', h7⟩⟩ := h
  have hp := turned_put ht
  obtain ⟨es, cl, _, _, hm, _⟩ := id ht
  have hk : ∀ b, b < V.heap.size → (∃ o u, V.cell? ⟨b, o, none⟩ = some u ∧ Str u) → V'.heap[b]? = V.heap[b]? ∧ b < V'.heap.size ∧ b < V'.heap.size := fun b hb ⟨o, u, hu, _⟩ => by
    have hne : b ≠ mb := by
      rintro rfl
      rw [map_no_cell hm] at hu
      cases hu
    exact ⟨hp.block b hne, by rw [hp.size]; exact hb, by rw [hp.size]; exact hb⟩
  have hrm : r ≠ mb := by
    rintro rfl
    rw [s1] at hm
    cases hm
  obtain ⟨D', d1, d2⟩ := hS D i a l c s1 s2 s3
  refine ⟨h1.trans (Fr.put hp (.inr (.inl rfl))), by rw [hp.size]; exact h2, ⟨D', i, a, l, c, (hp.block r hrm).trans s1, d1, d2.keep hk, s4.keepS hk⟩, h4.keep hk, h5.keepS hk, ⟨x, y, z, e, (hp.block _ (by omega)).trans h6⟩, ⟨x', y', e', (hp.block _ (by omega)).trans h7⟩⟩
theorem noU : ∀ (o : Nat) (y : Int), (#[Value.int .i64 0, .slice none 0 0] : Array Value)[o]? ≠ some (.int .u32 y) := fun o y e => by
  match o with
  | 0 => simp at e
  | 1 => simp at e
  | o + 2 => simp at e
theorem fadd_snoc (f : ByteArray → Int) (ps : List (ByteArray × Int)) (p : ByteArray × Int) (t : Int) : fadd f (ps ++ [p]) t = fput (fadd f ps t) p.1 (fadd f ps t p.1 + p.2 * t) := by
  simp [fadd, List.foldl_append]
theorem fadd_take {f : ByteArray → Int} {ps : List (ByteArray × Int)} {i : Nat} {p : ByteArray × Int} {t : Int} (hp : ps[i]? = some p) : fadd f (ps.take (i + 1)) t = fput (fadd f (ps.take i) t) p.1 (fadd f (ps.take i) t p.1 + p.2 * t) := by
  rw [List.take_add_one, hp]
  exact fadd_snoc _ _ _ _
theorem fadd_bound {f : ByteArray → Int} {ps : List (ByteArray × Int)} {t : Int} {M X : Nat} (hM : ∀ s, (f s).natAbs ≤ M) (hX : ∀ p ∈ ps, p.2.natAbs * t.natAbs ≤ X) : ∀ i, i ≤ ps.length → ∀ s, (fadd f (ps.take i) t s).natAbs ≤ M + i * X := by
  intro i
  induction i with
  | zero => intro _ s; simpa [fadd] using hM s
  | succ i ih =>
    intro hi s
    obtain ⟨p, hp⟩ : ∃ p, ps[i]? = some p := ⟨_, List.getElem?_eq_getElem (by omega)⟩
    have h1 := ih (by omega)
    have h2 := hX p (List.mem_of_getElem? hp)
    rw [fadd_take hp]
    unfold fput
    have e : (i + 1) * X = i * X + X := by rw [Nat.add_mul, Nat.one_mul]
    split
    · have h3 := h1 p.1
      have h4 : (p.2 * t).natAbs = p.2.natAbs * t.natAbs := Int.natAbs_mul _ _
      omega
    · have := h1 s
      omega
set_option maxRecDepth 100000 in
set_option maxHeartbeats 4000000 in
theorem add_any2 {w : World} {r mb n : Nat} {f : ByteArray → Int} {k : Int} {v : Value} {ps : List (ByteArray × Int)} {kx : Int} {tv : Value} {t : Int} {M X : Nat} (hS : SumAt w r mb n f k) (hR : IsR w w.heap.size v ps kx) (hT : IsB w w.heap.size tv t) (hw : r < w.heap.size ∧ mb < w.heap.size) (hl : ps.length ≤ 1000000) (hn : n + ps.length ≤ 1000000000)
    (hM : ∀ s, (f s).natAbs ≤ M) (hk : k.natAbs ≤ M) (hX : ∀ p ∈ ps, p.2.natAbs * t.natAbs ≤ X ∧ (p.2.natAbs : Int) < pw 3000 ∧ p.1.size ≤ 200) (hX2 : kx.natAbs * t.natAbs ≤ X ∧ (kx.natAbs : Int) < pw 3000) (ht : (t.natAbs : Int) < pw 3000) (hb : ((M + (ps.length + 1) * X : Nat) : Int) < pw 3000) :
    Calls Tryz.prog 29 #[.pointer (some ⟨r, 0, none⟩), v, tv] w fun e w' => e = .returned (.tuple #[]) ∧ Fr r mb w w' ∧ SumAt w' r mb (n + ps.length) (fadd f ps t) (k + kx * t) := by
  have hRv := hR
  obtain ⟨aP, nP, cP, x1, x2, rfl, hnP, hP, hkx⟩ := hR
  obtain ⟨j0, ja, jl, jc, ej⟩ := hkx.form
  obtain ⟨rfl, rfl⟩ : x1 = .int .i64 j0 ∧ x2 = .slice ja jl jc := by simpa using ej
  obtain ⟨t0, ta, tl, tc, rfl⟩ := hT.form
  obtain ⟨w1, e1, hb1, hs1, hc1, hh1⟩ := box_new w #[.slice aP nP cP, .int .i64 j0, .slice ja jl jc] 68
  obtain ⟨w2, e2, hb2, hs2, hc2, hh2⟩ := box_new w1 #[.int .i64 t0, .slice ta tl tc] 49
  rw [hs1] at hh2
  have hb02 : Below w.heap.size w w2 := hb1.trans (hb2.mono (by omega))
  have hA0 : AI w r mb n f k (.agg #[.slice aP nP cP, .int .i64 j0, .slice ja jl jc]) ps kx (.agg #[.int .i64 t0, .slice ta tl tc]) t w2 := ⟨Fr.of hb02 (Nat.le_refl _), by omega, hS.more hb02, hRv.more hb02 (by omega) (Nat.le_refl _), hT.more hb02 (by omega), ⟨_, _, _, rfl, (hb2.block _ (by omega)).trans hh1⟩, ⟨_, _, rfl, hh2⟩⟩
  have HE := hide (And.intro e1 e2)
  have HA0 := hide hA0
  have HC := hide (And.intro hnP (And.intro hw (And.intro hn (And.intro hM (And.intro hk (And.intro hX (And.intro hX2 (And.intro ht hb))))))))
  have y0 : w2.cell? ⟨w.heap.size, 0, none⟩ = some (.slice aP nP cP) := by
    obtain ⟨x, y, z, e, h⟩ := hA0.bx
    have : x = .slice aP nP cP := by simp at e; exact e.1.symm
    rw [← this]
    exact (blk h).2.1 0 _ rfl
  have hnP2 : nP ≤ 1000000 := by omega
  clear hS hRv hT hnP hw hn hM hk hX hX2 ht hb hP hkx ej e1 hb1 hs1 hc1 hh1 e2 hb2 hs2 hc2 hh2 hb02 hA0
  rw [← (unhide HE).2, ← (unhide HE).1] at y0
  go_enter Tryz.func29, Tryz.ntmps29
  go_wp2_with fail
  rw [(unhide HE).1, (unhide HE).2]
  clear y0
  go_loopw [12] (fun iv wr => ∃ i : Nat, i ≤ nP ∧ iv = .int .i64 i ∧ AI w r mb (n + i) (fadd f (ps.take i) t) k (.agg #[.slice aP nP cP, .int .i64 j0, .slice ja jl jc]) ps kx (.agg #[.int .i64 t0, .slice ta tl tc]) t wr) (fun iv _ => nP - (intOf iv).toNat)
  case atStart => exact ⟨0, Nat.zero_le _, rfl, unhide HA0⟩
  case round =>
    obtain ⟨i, hi0, rfl, hA⟩ := hrel
    clear HE HA0
    by_cases hi : i < nP
    · have g1 : (i : Int) < (nP : Int) := by omega
      have g0 : (0 : Int) ≤ (i : Int) := by omega
      have g2 : (nP : Int) ≤ 1000000 := by omega
      obtain ⟨hnP, hw, hn, hM, hk, hX, hX2, ht, hb⟩ := unhide HC
      obtain ⟨a', n', c', x1', x2', e', hnP', hP', _⟩ := hA.row
      obtain ⟨rfl, rfl, rfl, rfl, rfl⟩ : a' = aP ∧ n' = nP ∧ c' = cP ∧ x1' = .int .i64 j0 ∧ x2' = .slice ja jl jc := by simp at e'; exact ⟨e'.1.1.symm, e'.1.2.1.symm, e'.1.2.2.symm, e'.2.1.symm, e'.2.2.symm⟩
      obtain ⟨b, off, rfl, hbB, hPj⟩ := hP'.2.2 (by omega)
      obtain ⟨p, hp⟩ : ∃ p, ps[i]? = some p := ⟨_, List.getElem?_eq_getElem (by omega)⟩
      obtain ⟨u1, u2, hcc, hIp⟩ := hPj i hi _ hp
      obtain ⟨nm, z⟩ := p
      obtain ⟨z0, za, zl, zc, ez⟩ := hIp.form
      obtain ⟨rfl, rfl⟩ : u1 = .int .i64 z0 ∧ u2 = .slice za zl zc := by simpa using ez
      have q0 : wr.cell? ⟨b, off + i * 3, none⟩ = some (.string nm) := hcc 0 _ rfl
      have q1 : wr.cell? ⟨b, off + i * 3 + 1, none⟩ = some (.int .i64 z0) := hcc 1 _ rfl
      have q2 : wr.cell? ⟨b, off + i * 3 + 2, none⟩ = some (.slice za zl zc) := hcc 2 _ rfl
      obtain ⟨W, eW, hbW, hsW, hcW, hhW⟩ := box_new wr #[.string nm, .int .i64 z0, .slice za zl zc] 92
      have hAW := hA.grow hbW
      have hIW := hIp.more hbW hbW.size
      have HEW := hide eW
      have HAW := hide (And.intro hAW (And.intro hIW hhW))
      have HP := hide hp
      clear hnP hw hn hM hk hX hX2 ht hb hnP' hP' e' hbB hPj hp hcc hIp ez eW hbW hsW hcW hhW hAW hIW hA
      go_wp2_with fail
      rw [unhide HEW]
      obtain ⟨hAW, hIW, hhW⟩ := unhide HAW
      obtain ⟨hnP, hw, hn, hM, hk, hX, hX2, ht, hb⟩ := unhide HC
      obtain ⟨hx1, hx2, hx3⟩ := hX _ (List.mem_of_getElem? (unhide HP))
      obtain ⟨lv, hl1, hl2, hl3⟩ := lookup_sum hAW.sum (s := nm) (by unfold maxLen; have hx3' : nm.size ≤ 200 := hx3; omega)
      obtain ⟨l0, la, ll, lc, rfl⟩ := hl2.form
      obtain ⟨_, si, sa, sl, sc, hsum, _⟩ := hAW.sum
      have hrW : r < W.heap.size := (Array.getElem?_eq_some_iff.1 hsum).1
      have hpW : wr.heap.size < W.heap.size := (Array.getElem?_eq_some_iff.1 hhW).1
      obtain ⟨hx, hy, hxy, htb⟩ := hAW.bt
      obtain ⟨rfl, rfl⟩ : hx = .int .i64 t0 ∧ hy = .slice ta tl tc := by simp at hxy; exact ⟨hxy.1.symm, hxy.2.symm⟩
      have htW : w.heap.size + 1 < W.heap.size := (Array.getElem?_eq_some_iff.1 htb).1
      have HSS : Hid (∀ w', Below W.heap.size W w' → (Below W.heap.size W w' ∧ w'.cell? ⟨r, 0, none⟩ = some (.map (some mb)) ∧ w'.cell? ⟨wr.heap.size, 0, none⟩ = some (.string nm) ∧ w'.cell? ⟨wr.heap.size, 1, none⟩ = some (.int .i64 z0) ∧ w'.cell? ⟨wr.heap.size, 2, none⟩ = some (.slice za zl zc) ∧ w'.cell? ⟨w.heap.size + 1, 0, none⟩ = some (.int .i64 t0) ∧ w'.cell? ⟨w.heap.size + 1, 1, none⟩ = some (.slice ta tl tc) ∧ (Instr.lookup 46 (.map (some mb)) (.string nm) false).run Tryz.prog w' = .ok (.agg #[.int .i64 l0, .slice la ll lc]) w')) := fun w' h => ⟨h, (h.cell (p := ⟨r, 0, none⟩) hrW).trans ((blk hsum).2.1 0 _ rfl), (h.cell (p := ⟨wr.heap.size, 0, none⟩) hpW).trans ((blk hhW).2.1 0 _ rfl), (h.cell (p := ⟨wr.heap.size, 1, none⟩) hpW).trans ((blk hhW).2.1 1 _ rfl), (h.cell (p := ⟨wr.heap.size, 2, none⟩) hpW).trans ((blk hhW).2.1 2 _ rfl), (h.cell (p := ⟨w.heap.size + 1, 0, none⟩) htW).trans ((blk htb).2.1 0 _ rfl), (h.cell (p := ⟨w.heap.size + 1, 1, none⟩) htW).trans ((blk htb).2.1 1 _ rfl), hl3 w' h⟩
      obtain ⟨fs, hfs⟩ : ∃ fs, fadd f (ps.take i) t nm = fs := ⟨_, rfl⟩
      rw [hfs] at hl2
      have HFS := hide hfs
      have hpwm : pw 3000 ≤ pw 4000 := Nm.pw_mono (by omega)
      have hfsM : (fs.natAbs : Int) < pw 4000 := by
        have h1 := fadd_bound hM (fun p hp => (hX p hp).1) i (by omega) nm
        rw [hfs] at h1
        have h2 : i * X ≤ (ps.length + 1) * X := Nat.mul_le_mul (by omega) (Nat.le_refl _)
        omega
      have hztM : ((z * t).natAbs : Int) < pw 4000 := by
        have h1 : (z * t).natAbs ≤ X := by rw [Int.natAbs_mul]; exact hx1
        have h2 : 1 * X ≤ (ps.length + 1) * X := Nat.mul_le_mul (by omega) (Nat.le_refl _)
        omega
      have HMul : Hid (∀ V, Below W.heap.size W V → Calls Tryz.prog 46 #[.agg #[.int .i64 z0, .slice za zl zc], .agg #[.int .i64 t0, .slice ta tl tc]] V fun e w' => ∃ r, e = .returned r ∧ Below V.heap.size V w' ∧ IsI w' r (z * t)) := fun V h => Nm.mul_any _ _ z t V (hIW.more h h.size).1 (hAW.tm.more h h.size).1 (Int.lt_of_lt_of_le hx2 (Nm.pw_mono (by omega))) (Int.lt_of_lt_of_le ht (Nm.pw_mono (by omega)))
      have HLv : Hid (∀ V, Below W.heap.size W V → IsI V (.agg #[.int .i64 l0, .slice la ll lc]) fs) := fun V h => (hl2.more h h.size).1
      have HM2 := hide (And.intro hfsM hztM)
      obtain ⟨_, s0, s1, s2, s3, s4, s5, s6⟩ := unhide HSS W (Below.refl _ W)
      clear hAW hIW hhW hnP hw hn hM hk hX hX2 ht hb hx1 hx2 hx3 hl1 hl2 hl3 hsum hrW hpW hxy htb htW hfs hfsM hztM hpwm
      refine wp_mono (Q := Nm.nrm (fun a' V => ∃ (nb : Nat) (n0 : Int) (na : Option Addr) (nl nc : Nat) (y16 y17 y18 y19 y20 y21 y22 y23 y24 y25 y26 y27 : Value), a' = { tmps := #[.pointer (some ⟨r, 0, none⟩), .agg #[.slice (some ⟨b, off, none⟩) n' c', .int .i64 j0, .slice ja jl jc], .agg #[.int .i64 t0, .slice ta tl tc], undef, .pointer (some ⟨w.heap.size, 0, none⟩), .pointer (some ⟨w.heap.size + 1, 0, none⟩), undef, .pointer (some ⟨wr.heap.size, 0, none⟩), .pointer (some ⟨nb, 0, none⟩), .pointer (some ⟨w.heap.size, 0, none⟩), .slice (some ⟨b, off, none⟩) n' c', .int .i64 (n' : Int), .int .i64 (i : Int), .bool true, .pointer (some ⟨b, off + i * 3, none⟩), .agg #[.string nm, .int .i64 z0, .slice za zl zc], y16, y17, y18, y19, y20, y21, y22, y23, y24, y25, y26, y27, u28, u29, u30, u31, u32, u33, u34, u35, u36, u37, u38, u39, u40, u41, u42, u43, u44, undef, undef, undef, undef, undef, undef, undef, undef, undef, undef, undef, undef], defers := [] } ∧ Below W.heap.size W V ∧ W.heap.size ≤ nb ∧ V.heap[nb]? = some (.cells #[.int .i64 n0, .slice na nl nc] 49) ∧ IsI V (.agg #[.int .i64 n0, .slice na nl nc]) (fs + z * t))) ?reg ?go
      case reg =>
        go_region_held3 (fun w' => Below W.heap.size W w' ∧ w'.cell? ⟨r, 0, none⟩ = some (.map (some mb)) ∧ w'.cell? ⟨wr.heap.size, 0, none⟩ = some (.string nm) ∧ w'.cell? ⟨wr.heap.size, 1, none⟩ = some (.int .i64 z0) ∧ w'.cell? ⟨wr.heap.size, 2, none⟩ = some (.slice za zl zc) ∧ w'.cell? ⟨w.heap.size + 1, 0, none⟩ = some (.int .i64 t0) ∧ w'.cell? ⟨w.heap.size + 1, 1, none⟩ = some (.slice ta tl tc) ∧ (Instr.lookup 46 (.map (some mb)) (.string nm) false).run Tryz.prog w' = .ok (.agg #[.int .i64 l0, .slice la ll lc]) w') (first | assumption | exact unhide HSS _ hT2 | exact unhide HSS _ hT1 | exact unhide HSS _ (keep0 _) | exact unhide HSS _ (keepC (by assumption) (by assumption)) | exact unhide HSS _ (keepA (by assumption) _) | exact unhide HSS _ ((hT2.setCell (Nat.le_refl _) _).setCell (Nat.le_refl _) _) | exact unhide HSS _ ((hT2.setCell hT1.size _).setCell hT1.size _) | exact unhide HSS _ (hT2.alloc hT2.size _) | exact unhide HSS _ (hT1.alloc hT1.size _)) (first
          | (go_at_call 46; refine (unhide HMul _ (by first | exact keep0 _ | exact ((Below.refl _ _).alloc (Nat.le_refl _) _).drew)).mono ?_; rintro e v1 ⟨r1, rfl, hv1, hI1⟩; obtain ⟨m0, mA, mL, mC, rfl⟩ := hI1.form; have hT1 : Below W.heap.size W v1 := (by first | exact (keep0 W).trans hv1 | exact (((Below.refl _ W).alloc (Nat.le_refl _) _).drew).trans (hv1.mono (by simp))); (try (have hg := new_in (W := W) hv1; have gc0 : v1.cell? ⟨W.heap.size, 0, none⟩ = some (.int .i64 0) := (blk hg).2.1 0 _ rfl; have gc1 : v1.cell? ⟨W.heap.size, 1, none⟩ = some (.slice none 0 0) := (blk hg).2.1 1 _ rfl; have gf0 := (blk hg).2.2 0; have gf1 := (blk hg).2.2 1)))
          | (go_at_call 45; refine (Nm.add_any _ _ fs (z * t) _ (unhide HLv _ (by first | exact hT1 | exact hT1.alloc hT1.size _)) (by first | exact hI1 | exact hI1.below ((Below.refl _ _).alloc (Nat.le_refl _) _)) (unhide HM2).1 (unhide HM2).2).mono ?_; rintro e v2 ⟨r2, rfl, hv2, hI2⟩; obtain ⟨k0, kA, kL, kC, rfl⟩ := hI2.form; have hT2 : Below W.heap.size W v2 := (by first | exact hT1.trans (hv2.mono hT1.size) | exact (hT1.alloc hT1.size _).trans (hv2.mono (by have := hT1.size; simp; omega))); (try (have hg2 := (hv2.block W.heap.size (Array.getElem?_eq_some_iff.1 hg).1).trans hg; have gc0 : v2.cell? ⟨W.heap.size, 0, none⟩ = some (.int .i64 0) := (blk hg2).2.1 0 _ rfl; have gc1 : v2.cell? ⟨W.heap.size, 1, none⟩ = some (.slice none 0 0) := (blk hg2).2.1 1 _ rfl; have gf0 := (blk hg2).2.2 0; have gf1 := (blk hg2).2.2 1)); (try (have hg2 := new_in2 (W := v1) hv2; have gc0 : v2.cell? ⟨v1.heap.size, 0, none⟩ = some (.int .i64 0) := (blk hg2).2.1 0 _ rfl; have gc1 : v2.cell? ⟨v1.heap.size, 1, none⟩ = some (.slice none 0 0) := (blk hg2).2.1 1 _ rfl; have gf0 := (blk hg2).2.2 0; have gf1 := (blk hg2).2.2 1))))
        all_goals first
          | exact Nm.nrm_mk ⟨W.heap.size, _, _, _, _, _, _, _, _, _, _, _, _, _, _, _, _, rfl, (hT2.setCell (Nat.le_refl _) _).setCell (Nat.le_refl _) _, Nat.le_refl _, fill2 hg2, ((IsB.of hI2).put (put2 v2 W.heap.size _ _) hg2 noU).1⟩
          | exact Nm.nrm_mk ⟨v1.heap.size, _, _, _, _, _, _, _, _, _, _, _, _, _, _, _, _, rfl, (hT2.setCell hT1.size _).setCell hT1.size _, hT1.size, fill2 hg2, ((IsB.of hI2).put (put2 v2 v1.heap.size _ _) hg2 noU).1⟩
          | exact Nm.nrm_mk ⟨v2.heap.size, _, _, _, _, _, _, _, _, _, _, _, _, _, _, _, _, rfl, hT2.alloc hT2.size _, hT2.size, (MapKept.heap_alloc v2 _).1, hI2.below ((Below.refl _ _).alloc (Nat.le_refl _) _)⟩
      case go =>
        rintro e a V h9
        obtain ⟨rfl, nb, n0, na, nl, nc, y16, y17, y18, y19, y20, y21, y22, y23, y24, y25, y26, y27, rfl, hVb, hnb, hVn, hVI⟩ := Nm.nrm_out h9
        clear h9 s0 s1 s2 s3 s4 s5 s6 HMul HLv HM2
        have k0 : V.cell? ⟨nb, 0, none⟩ = some (.int .i64 n0) := (blk hVn).2.1 0 _ rfl
        have k1 : V.cell? ⟨nb, 1, none⟩ = some (.slice na nl nc) := (blk hVn).2.1 1 _ rfl
        have HSg := hide (Nm.sign_any _ _ V hVI)
        have HV := hide (And.intro hVb (And.intro hnb (And.intro hVn hVI)))
        clear hVb hnb hVn hVI
        go_wp2_with fail
        refine (unhide HSg).mono ?_
        rintro e V2 ⟨rfl, hb2⟩
        obtain ⟨hVb, hnb, hVn, hVI⟩ := unhide HV
        obtain ⟨hAW, hIW, hhW⟩ := unhide HAW
        obtain ⟨hnP, hw, hn, hM, hk, hX, hX2, ht, hb⟩ := unhide HC
        have hx3 : nm.size ≤ maxLen := by have h := (hX _ (List.mem_of_getElem? (unhide HP))).2.2; unfold maxLen; simp only at h; omega
        have hb02 : Below W.heap.size W V2 := hVb.trans (hb2.mono hVb.size)
        have hA2 := hAW.grow hb02
        obtain ⟨D, si, sa, sl, sc, hsum, hom, hmf, hkk⟩ := hA2.sum
        have r0 : V2.cell? ⟨r, 0, none⟩ = some (.map (some mb)) := (blk hsum).2.1 0 _ rfl
        have p0 : V2.cell? ⟨wr.heap.size, 0, none⟩ = some (.string nm) := (hb02.cell (p := ⟨wr.heap.size, 0, none⟩) (Array.getElem?_eq_some_iff.1 hhW).1).trans ((blk hhW).2.1 0 _ rfl)
        have k0' : V2.cell? ⟨nb, 0, none⟩ = some (.int .i64 n0) := (hb2.cell (p := ⟨nb, 0, none⟩) (Array.getElem?_eq_some_iff.1 hVn).1).trans k0
        have k1' : V2.cell? ⟨nb, 1, none⟩ = some (.slice na nl nc) := (hb2.cell (p := ⟨nb, 1, none⟩) (Array.getElem?_eq_some_iff.1 hVn).1).trans k1
        have hI2 : IsB V2.drew V2.drew.heap.size (.agg #[.int .i64 n0, .slice na nl nc]) (fs + z * t) := IsB.of (hVI.below hb2.drew)
        have hAd : AI w r mb (n + i) (fadd f (ps.take i) t) k (.agg #[.slice (some ⟨b, off, none⟩) n' c', .int .i64 j0, .slice ja jl jc]) ps kx (.agg #[.int .i64 t0, .slice ta tl tc]) t V2.drew := hA2.grow ((Below.refl _ V2).drew)
        have hstep : fadd f (ps.take (i + 1)) t = fput (fadd f (ps.take i) t) nm (fs + z * t) := by rw [fadd_take (unhide HP), ← unhide HFS]
        have hom2 : V2.drew.ownsMap Tryz.prog 9 R0 mb (n + i) D := hom.drew
        clear k0 k1 HSg HV
        by_cases hz : fs + z * t = 0
        · have hsg : Nm.sgn (fs + z * t) = 0 := by rw [hz]; rfl
          obtain ⟨V3, hrun, hom3, hturn⟩ := hom2.drop str_keyed Tryz.underlying46 (key_str hx3) 0
          have hA3 : AI w r mb (n + (i + 1)) (fadd f (ps.take (i + 1)) t) k (.agg #[.slice (some ⟨b, off, none⟩) n' c', .int .i64 j0, .slice ja jl jc]) ps kx (.agg #[.int .i64 t0, .slice ta tl tc]) t V3 := hAd.map hturn hw fun D' i' a' l' c' e1 e2 e3 => by
            obtain ⟨V3', hrun', hom3', hturn'⟩ := e2.drop str_keyed Tryz.underlying46 (key_str hx3) 0
            have : V3' = V3 := by rw [hrun] at hrun'; injection hrun' with _ h; exact h.symm
            subst this
            refine ⟨_, hom3'.mono (by omega), ?_⟩
            rw [hstep, hz]
            exact e3.del
          have HA3 := hide hA3
          have HR := hide hrun
          rw [hsg]
          clear hVb hnb hVn hVI hAW hIW hhW hnP hw hn hM hk hX hX2 ht hb hx3 hb02 hA2 hsum hom hmf hkk hI2 hAd hstep hom2 hom3 hturn hA3 hb2 k0' k1' hsg
          go_wp2_with fail
          have hrun := unhide HR
          go_region
          clear hrun r0 p0 HR
          go_wp2
          refine ⟨⟨i + 1, by omega, by simp, unhide HA3⟩, ?_⟩
          simp [intOf]
          omega
        · obtain ⟨sg, hsg, hsg0⟩ : ∃ sg, Nm.sgn (fs + z * t) = sg ∧ sg ≠ 0 := by
            refine ⟨_, rfl, ?_⟩
            unfold Nm.sgn
            split
            · decide
            · split
              · decide
              · omega
          obtain ⟨V3, hrun, hom3, hturn⟩ := hom2.store (val := .agg #[.int .i64 n0, .slice na nl nc]) str_keyed Tryz.underlying46 (by unfold maxLen; omega) (key_str hx3) (d := .held (.agg #[.int .i64 n0, .slice na nl nc])) (ps := []) rfl
          have hA3 : AI w r mb (n + (i + 1)) (fadd f (ps.take (i + 1)) t) k (.agg #[.slice (some ⟨b, off, none⟩) n' c', .int .i64 j0, .slice ja jl jc]) ps kx (.agg #[.int .i64 t0, .slice ta tl tc]) t V3 := hAd.map hturn hw fun D' i' a' l' c' e1 e2 e3 => by
            obtain ⟨V3', hrun', hom3', hturn'⟩ := e2.store (val := .agg #[.int .i64 n0, .slice na nl nc]) str_keyed Tryz.underlying46 (by unfold maxLen; omega) (key_str hx3) (d := .held (.agg #[.int .i64 n0, .slice na nl nc])) (ps := []) rfl
            have : V3' = V3 := by rw [hrun] at hrun'; injection hrun' with _ h; exact h.symm
            subst this
            refine ⟨_, hom3'.mono (by omega), ?_⟩
            rw [hstep]
            exact e3.put e2.isMap hI2 hz
          have HA3 := hide hA3
          have HR := hide hrun
          rw [hsg]
          have g5 : (sg == 0) = false := by simpa using hsg0
          have g6 : decide (sg = 0) = false := by simpa using hsg0
          clear hVb hnb hVn hVI hAW hIW hhW hnP hw hn hM hk hX hX2 ht hb hx3 hb02 hA2 hsum hom hmf hkk hI2 hAd hstep hom2 hom3 hturn hA3 hb2 hsg
          go_wp2_with fail
          have hrun := unhide HR
          go_region
          clear hrun r0 p0 HR k0' k1'
          go_wp2
          refine ⟨⟨i + 1, by omega, by simp, unhide HA3⟩, ?_⟩
          simp [intOf]
          omega
    · have gi : decide ((i : Int) < (nP : Int)) = false := by simp; omega
      have g1 : ¬ ((i : Int) < (nP : Int)) := by omega
      obtain rfl : i = nP := by omega
      obtain ⟨hnP, hw, hn, hM, hk, hX, hX2, ht, hb⟩ := unhide HC
      rw [hnP, List.take_length, ← hnP] at hA
      obtain ⟨D, si, sa, sl, sc, hsum, hom, hmf, hkk⟩ := id hA.sum
      obtain ⟨x', y', z', ex', hxb⟩ := hA.bx
      obtain ⟨rfl, rfl, rfl⟩ : x' = .slice aP i cP ∧ y' = .int .i64 j0 ∧ z' = .slice ja jl jc := by simp at ex'; exact ⟨ex'.1.symm, ex'.2.1.symm, ex'.2.2.symm⟩
      obtain ⟨x2', y2', ex2', htb⟩ := hA.bt
      obtain ⟨rfl, rfl⟩ : x2' = .int .i64 t0 ∧ y2' = .slice ta tl tc := by simp at ex2'; exact ⟨ex2'.1.symm, ex2'.2.symm⟩
      obtain ⟨a', n', c', x1', x2', e', _, _, hkx⟩ := hA.row
      obtain ⟨rfl, rfl, rfl, rfl, rfl⟩ : a' = aP ∧ n' = i ∧ c' = cP ∧ x1' = .int .i64 j0 ∧ x2' = .slice ja jl jc := by simp at e'; exact ⟨e'.1.1.symm, e'.1.2.1.symm, e'.1.2.2.symm, e'.2.1.symm, e'.2.2.symm⟩
      have hpwm : pw 3000 ≤ pw 4000 := Nm.pw_mono (by omega)
      have hxM : ((kx * t).natAbs : Int) < pw 4000 := by
        have h1 : (kx * t).natAbs ≤ X := by rw [Int.natAbs_mul]; exact hX2.1
        have h2 : 1 * X ≤ (ps.length + 1) * X := Nat.mul_le_mul (by omega) (Nat.le_refl _)
        omega
      have hkM : (k.natAbs : Int) < pw 4000 := by omega
      have HA := hide (And.intro hA (And.intro hsum (And.intro hom (And.intro hmf (And.intro hkk (And.intro hxb (And.intro htb (And.intro hkx (And.intro hxM (And.intro hkM (And.intro hX2.2 (And.intro ht (And.intro hpwm (And.intro hw hnP))))))))))))))
      clear hnP hw hn hM hk hX hX2 ht hb hsum hom hmf hkk hxb htb ex' ex2' e' hkx hpwm hxM hkM hA hi hi0
      go_wp2_with fail
      obtain ⟨hA, hsum, hom, hmf, hkk, hxb, htb, hkx, hxM, hkM, hX2, ht, hpwm, hw, hnP⟩ := unhide HA
      refine add_r9 (w0 := wr) (X := w.heap.size) (k := k) (kx := kx) (t := t) rfl rfl rfl rfl ⟨_, hsum⟩ ⟨_, hxb⟩ htb hkk hkx hA.tm hkM (Int.lt_of_lt_of_le hX2 hpwm) (Int.lt_of_lt_of_le ht hpwm) hxM ?_
      rintro a W hd ⟨V, n0, na, nl, nc, hVb, hVI, rfl⟩
      have hrV := (hVb.block r (Array.getElem?_eq_some_iff.1 hsum).1).trans hsum
      have hput : PutAt r V ((V.setCell ⟨r, 1, none⟩ (.int .i64 n0)).setCell ⟨r, 2, none⟩ (.slice na nl nc)) := ((PutAt.refl r V).set 1 _).set 2 _
      have hAV := hA.grow hVb
      have hNo : NoS #[.map (some mb), .int .i64 si, .slice sa sl sc] := fun o u hu hs => by
        match o, hu with
        | 0, hu => simp at hu; subst hu; rcases hs with ⟨s, e⟩ | ⟨s, e⟩ <;> cases e
        | 1, hu => simp at hu; subst hu; rcases hs with ⟨s, e⟩ | ⟨s, e⟩ <;> cases e
        | 2, hu => simp at hu; subst hu; rcases hs with ⟨s, e⟩ | ⟨s, e⟩ <;> cases e
        | o + 3, hu => simp at hu
      have hkeep := noS_keep (B := V.heap.size) hput hrV hNo
      have hkeep2 : ∀ b, b < V.heap.size → (∃ o u, V.cell? ⟨b, o, none⟩ = some u ∧ Str u) → ((V.setCell ⟨r, 1, none⟩ (.int .i64 n0)).setCell ⟨r, 2, none⟩ (.slice na nl nc)).heap[b]? = V.heap[b]? ∧ b < ((V.setCell ⟨r, 1, none⟩ (.int .i64 n0)).setCell ⟨r, 2, none⟩ (.slice na nl nc)).heap.size ∧ b < ((V.setCell ⟨r, 1, none⟩ (.int .i64 n0)).setCell ⟨r, 2, none⟩ (.slice na nl nc)).heap.size := fun b hb h => ⟨(hkeep b hb h).1, (hkeep b hb h).2.2, (hkeep b hb h).2.2⟩
      refine bodyPost_end (fn := Tryz.f29) (v := .tuple #[]) (by simp [results, Tryz.results29]) hd ⟨rfl, hAV.fr.trans (Fr.put hput (.inl rfl)), ?_⟩
      obtain ⟨D2, i2, a2, l2, c2, u1, u2, u3, u4⟩ := hAV.sum
      have hmr : mb ≠ r := by
        rintro rfl
        obtain ⟨es, cl, hm, _⟩ := u2
        rw [u1] at hm
        cases hm
      rw [hnP] at *
      refine ⟨D2, n0, na, nl, nc, set_block (set_block hrV _) _, ?_, u3.keep hkeep2, (IsB.of hVI).keepS hkeep2⟩
      obtain ⟨es, cl, hm, F, hs, hD⟩ := u2
      exact ⟨es, cl, (hput.block mb hmr).trans hm, F, hs, hD⟩
end Go.Proofs.YthgdmppmjnmiiaaGreatDoor
