/- The walk of TermSigs. -/
import Derived.Test.YtdkenobgfgmepaaDoorZAY
set_option linter.unusedVariables false
set_option linter.unusedSimpArgs false

/- The document's Right and Parse at texts that are not right. -/
namespace Go.Proofs.YtdkenobgfgmepaaDoor.Nm
open Go Go.RowKit

theorem bad_of {L : List UInt8} (h : ¬ Dg L) : ∃ i, ∃ hi : i < L.length, ¬ (48 ≤ (L[i]'hi).toNat ∧ (L[i]'hi).toNat ≤ 57) := by
  apply Classical.byContradiction
  intro hn
  apply h
  intro b hb
  obtain ⟨i, hi, rfl⟩ := List.mem_iff_getElem.1 hb
  apply Classical.byContradiction
  intro h9
  exact hn ⟨i, hi, h9⟩
theorem get_list {T : ByteArray} {L : List UInt8} (h : T.data.toList = L) (i : Nat) (hi : i < T.size) (hl : i < L.length) : T[i]'hi = L[i]'hl := by
  subst h
  exact (get_toList T i hi hl).symm

set_option maxRecDepth 100000 in
set_option maxHeartbeats 800000 in
theorem right_no (T : ByteArray) (L : List UInt8) (w : World) (hT : T.data.toList = L) (hl : L.length ≤ 2000) (h : ¬ RT (Lib.hasPrefix L [45]) (Lib.trimPrefix L [45])) :
    Calls Tryd.prog 59 #[.string T] w fun e w' => e = .returned (.bool false) ∧ Below w.heap.size w w' := by
  have hsz : T.size = L.length := by rw [← hT]; simp
  cases L with
  | nil =>
    have h0 : (T.size : Int) = 0 := by rw [hsz]; rfl
    clear h hT
    go_enter Tryd.func59, Tryd.ntmps59
    go_wp2
    go_ret
    exact ⟨rfl, Below.refl _ _⟩
  | cons b R =>
    have hpos : 0 < T.size := by rw [hsz]; simp
    have hsz' : T.size = R.length + 1 := by rw [hsz]; simp
    have hl' : R.length ≤ 2000 := by simp at hl; omega
    have hls : T.size ≤ 4000 := by omega
    have hb0 : T[0]'hpos = b := get_list hT 0 hpos (by simp)
    have hposI : (0 : Int) < (T.size : Int) := by omega
    by_cases hb : b = 45
    · subst hb
      have hp : Lib.hasPrefix (45 :: R) [45] = true := by simp [Lib.hasPrefix]
      have hq : Lib.trimPrefix (45 :: R) [45] = R := by simp [Lib.trimPrefix, hp]
      rw [hp, hq] at h
      have h45 : (((T[0]'hpos).toNat : Int) == 45) = true := by rw [hb0]; rfl
      by_cases h1 : 1 < T.size
      · have hR : R ≠ [] := by intro e; subst e; simp at hsz'; omega
        have hb1 : T[1]'h1 = R[0]'(by omega) := get_list hT 1 h1 (by simp; omega)
        have h0L : ((1 : Int) == (T.size : Int)) = false := by simp; omega
        by_cases h48 : (T[1]'h1).toNat = 48
        · have h48' : (((T[1]'h1).toNat : Int) == 48) = true := by simp; omega
          clear h hT hb0 hb1 hsz hsz' hl hl'
          by_cases h2 : (2 : Int) < (T.size : Int)
          · go_enter Tryd.func59, Tryd.ntmps59
            go_wp2
            go_ret
            exact ⟨rfl, Below.refl _ _⟩
          · have h2' : decide ((2 : Int) < (T.size : Int)) = false := by simpa using h2
            go_enter Tryd.func59, Tryd.ntmps59
            go_wp2
            go_ret
            exact ⟨rfl, Below.refl _ _⟩
        · have h48' : (((T[1]'h1).toNat : Int) == 48) = false := by simp; omega
          have hnd : ¬ Dg R := fun hd => h ⟨hd, hR, fun h9 => by
            exfalso
            cases R with
            | nil => exact hR rfl
            | cons c R' =>
              simp only [List.head?_cons, Option.some.injEq] at h9
              rw [hb1] at h48
              simp only [List.getElem_cons_zero] at h48
              rw [h9] at h48
              exact h48 rfl, by omega⟩
          have hbad : ∃ i, ∃ hi : i < T.size, 1 ≤ i ∧ ¬ (48 ≤ (T[i]'hi).toNat ∧ (T[i]'hi).toNat ≤ 57) := by
            obtain ⟨i, hi, h9⟩ := bad_of hnd
            refine ⟨i + 1, by omega, by omega, ?_⟩
            rw [get_list hT (i + 1) (by omega) (by simp; omega)]
            simpa using h9
          have HBAD := hide hbad
          clear hbad h hT hb0 hb1 hnd h48 hsz hsz' hl hl'
          go_enter Tryd.func59, Tryd.ntmps59
          go_wp2
          go_loop [3] (fun iv => ∃ i : Nat, 1 ≤ i ∧ i ≤ T.size ∧ iv = .int .i64 i ∧ Hid (∀ j (hj : j < T.size), 1 ≤ j → j < i → 48 ≤ (T[j]'hj).toNat ∧ (T[j]'hj).toNat ≤ 57)) (fun iv => T.size - (intOf iv).toNat)
          case atStart => exact ⟨1, Nat.le_refl _, by omega, rfl, hide (fun j hj h1 h2 => absurd h2 (by omega))⟩
          case round =>
            obtain ⟨i, hi0, hi1, rfl, hall⟩ := hrel
            by_cases hi : i < T.size
            · by_cases d0 : (T[i]'hi).toNat < 48
              · have t0 : decide (((T[i]'hi).toNat : Int) < 48) = true := by simp; omega
                go_wp2
                go_ret
                exact ⟨rfl, Below.refl _ _⟩
              · have t0 : decide (((T[i]'hi).toNat : Int) < 48) = false := by simp; omega
                by_cases d1 : 57 < (T[i]'hi).toNat
                · have t1 : decide (57 < ((T[i]'hi).toNat : Int)) = true := by simp; omega
                  go_wp2
                  go_ret
                  exact ⟨rfl, Below.refl _ _⟩
                · have t1 : decide (57 < ((T[i]'hi).toNat : Int)) = false := by simp; omega
                  have hall1 := hide (fun j (hj : j < T.size) (h1 : 1 ≤ j) (h2 : j < i + 1) => show 48 ≤ (T[j]'hj).toNat ∧ (T[j]'hj).toNat ≤ 57 from by
                    by_cases e : j = i
                    · subst e; omega
                    · exact unhide hall j hj h1 (by omega))
                  go_wp2
                  exact ⟨⟨i + 1, by omega, by omega, by simp, hall1⟩, by simp [intOf]; omega⟩
            · exfalso
              obtain ⟨j, hj, h1, h2⟩ := unhide HBAD
              exact h2 (unhide hall j hj h1 (by omega))
      · have h0L : (T.size : Int) = 1 := by omega
        clear h hT hb0 hsz hsz' hl hl'
        go_enter Tryd.func59, Tryd.ntmps59
        go_wp2
        go_ret
        exact ⟨rfl, Below.refl _ _⟩
    · have e : ([45] : List UInt8).isPrefixOf (b :: R) = false := by simp [List.isPrefixOf, Ne.symm hb]
      have hp : Lib.hasPrefix (b :: R) [45] = false := by simp [Lib.hasPrefix, e]
      have hq : Lib.trimPrefix (b :: R) [45] = b :: R := by simp [Lib.trimPrefix, Lib.hasPrefix, e]
      rw [hp, hq] at h
      have hbn : b.toNat ≠ 45 := fun h9 => hb (UInt8.toNat_inj.1 h9)
      have h45 : (((T[0]'hpos).toNat : Int) == 45) = false := by rw [hb0]; simp; omega
      have h0L : ((0 : Int) == (T.size : Int)) = false := by simp; omega
      by_cases h48 : (T[0]'hpos).toNat = 48
      · have h48' : (((T[0]'hpos).toNat : Int) == 48) = true := by simp; omega
        have h1 : (1 : Int) < (T.size : Int) := by
          rcases Nat.lt_or_ge 1 T.size with h9 | h9
          · omega
          · exfalso
            have hR : R = [] := List.eq_nil_of_length_eq_zero (by omega)
            subst hR
            rw [hb0] at h48
            have hb8 : b = 48 := UInt8.toNat_inj.1 h48
            subst hb8
            exact h ⟨by intro x hx; simp at hx; subst hx; decide, by simp, fun _ => ⟨rfl, rfl⟩, by decide⟩
        clear h hT hb0 hsz hsz' hl hl'
        go_enter Tryd.func59, Tryd.ntmps59
        go_wp2
        go_ret
        exact ⟨rfl, Below.refl _ _⟩
      · have h48' : (((T[0]'hpos).toNat : Int) == 48) = false := by simp; omega
        have hnd : ¬ Dg (b :: R) := fun hd => h ⟨hd, by simp, fun h9 => by
          exfalso
          simp only [List.head?_cons, Option.some.injEq] at h9
          rw [hb0, h9] at h48
          exact h48 rfl, by simp; omega⟩
        have hbad : ∃ i, ∃ hi : i < T.size, 0 ≤ i ∧ ¬ (48 ≤ (T[i]'hi).toNat ∧ (T[i]'hi).toNat ≤ 57) := by
          obtain ⟨i, hi, h9⟩ := bad_of hnd
          have hi' : i < T.size := by rw [hsz]; exact hi
          refine ⟨i, hi', Nat.zero_le _, ?_⟩
          rw [get_list hT i hi' hi]
          exact h9
        have HBAD := hide hbad
        clear hbad h hT hb0 hnd h48 hsz hsz' hl hl'
        go_enter Tryd.func59, Tryd.ntmps59
        go_wp2
        go_loop [3] (fun iv => ∃ i : Nat, 0 ≤ i ∧ i ≤ T.size ∧ iv = .int .i64 i ∧ Hid (∀ j (hj : j < T.size), 0 ≤ j → j < i → 48 ≤ (T[j]'hj).toNat ∧ (T[j]'hj).toNat ≤ 57)) (fun iv => T.size - (intOf iv).toNat)
        case atStart => exact ⟨0, Nat.le_refl _, by omega, rfl, hide (fun j hj h1 h2 => absurd h2 (by omega))⟩
        case round =>
          obtain ⟨i, hi0, hi1, rfl, hall⟩ := hrel
          by_cases hi : i < T.size
          · by_cases d0 : (T[i]'hi).toNat < 48
            · have t0 : decide (((T[i]'hi).toNat : Int) < 48) = true := by simp; omega
              go_wp2
              go_ret
              exact ⟨rfl, Below.refl _ _⟩
            · have t0 : decide (((T[i]'hi).toNat : Int) < 48) = false := by simp; omega
              by_cases d1 : 57 < (T[i]'hi).toNat
              · have t1 : decide (57 < ((T[i]'hi).toNat : Int)) = true := by simp; omega
                go_wp2
                go_ret
                exact ⟨rfl, Below.refl _ _⟩
              · have t1 : decide (57 < ((T[i]'hi).toNat : Int)) = false := by simp; omega
                have hall1 := hide (fun j (hj : j < T.size) (h1 : 0 ≤ j) (h2 : j < i + 1) => show 48 ≤ (T[j]'hj).toNat ∧ (T[j]'hj).toNat ≤ 57 from by
                  by_cases e : j = i
                  · subst e; omega
                  · exact unhide hall j hj h1 (by omega))
                go_wp2
                exact ⟨⟨i + 1, by omega, by omega, by simp, hall1⟩, by simp [intOf]; omega⟩
          · exfalso
            obtain ⟨j, hj, h1, h2⟩ := unhide HBAD
            exact h2 (unhide hall j hj h1 (by omega))

end Go.Proofs.YtdkenobgfgmepaaDoor.Nm

/- Sorts and errors; light terms; texts of numbers; signatures as the rows read them. -/
namespace Go.Proofs.YtdkenobgfgmepaaDoor
open Go Go.RowKit
theorem chkL_mem {fs : List ((ByteArray → List Int) → Int × Int)} {env : ByteArray → List Int} (h : (chkL fs env).2 = 0) : ∀ s ∈ (chkL fs env).1, ∃ f ∈ fs, (f env).2 = 0 ∧ (f env).1 = s := by
  induction fs with
  | nil => intro s hs; cases hs
  | cons f fs ih =>
    intro s hs
    have e : chkL (f :: fs) env = if (f env).2 ≠ 0 then ([], (f env).2) else ((f env).1 :: (chkL fs env).1, (chkL fs env).2) := rfl
    by_cases hf : (f env).2 = 0
    · rw [e, if_neg (fun k => k hf)] at h hs
      rcases List.mem_cons.1 hs with rfl | hs
      · exact ⟨f, List.mem_cons_self, hf, rfl⟩
      · obtain ⟨g, hg, h1⟩ := ih h s hs
        exact ⟨g, List.mem_cons_of_mem _ hg, h1⟩
    · rw [e, if_pos hf] at h
      exact absurd h hf
def Snd (p : Int × Int) : Prop := (p.2 = 0 ∧ p.1 ≠ 0) ∨ (p.1 = 0 ∧ p.2 ≠ 0)
theorem sortB_ne {s : Int} (h : sortB s = true) : s ≠ 0 := by
  unfold sortB at h
  simp at h
  omega
theorem if_some {c : Prop} [Decidable c] {a s : Int} (h : (if c then some a else none) = some s) : a = s := by
  split at h
  · exact Option.some.inj h
  · cases h
theorem chk_snd (rt : ByteArray → Bool) (sig : List Fn) (env : ByteArray → List Int) (he : ∀ k, ∀ s ∈ env k, s ≠ 0) (t : Tm) : Snd (t.chk rt sig env) := by
  refine Tm.ind (p := fun t => Snd (t.chk rt sig env)) (fun t hl _ => ?_) t
  rw [Tm.chk_eq]
  by_cases hs : shapeE rt sig t.op t.name t.num t.l.length (headOp t.l) t.vars t.pat.length = 0
  · rw [if_neg (fun k => k hs)]
    by_cases h18 : t.op = 18
    · rw [if_pos h18]
      unfold varE
      cases hg : (env t.name).getLast? with
      | none => exact .inr ⟨rfl, (by decide : (32 : Int) ≠ 0)⟩
      | some s =>
        simp only
        by_cases e : s = t.sort
        · rw [if_pos e]
          exact .inl ⟨rfl, by rw [← e]; exact he _ s (List.mem_of_getLast? hg)⟩
        · rw [if_neg e]
          exact .inr ⟨rfl, by decide⟩
    · rw [if_neg h18]
      by_cases h19 : t.op = 19
      · rw [if_pos h19]
        unfold allP
        by_cases hu : t.under rt sig (bindV t.vars env) = 0
        · rw [if_neg (fun k => k hu)]
          exact .inl ⟨rfl, by decide⟩
        · rw [if_pos hu]
          exact .inr ⟨rfl, hu⟩
      · rw [if_neg h19]
        by_cases hc : (chkL (t.l.map (Tm.chk rt sig)) env).2 = 0
        · rw [if_neg (fun k => k hc)]
          cases hso : sortOfT sig t.op t.name (chkL (t.l.map (Tm.chk rt sig)) env).1 with
          | none => exact .inr ⟨rfl, by decide⟩
          | some s =>
            refine .inl ⟨rfl, ?_⟩
            show s ≠ 0
            unfold sortOfT at hso
            by_cases h17 : t.op = 17
            · rw [if_pos h17] at hso
              obtain ⟨f, _, hf⟩ := Option.bind_eq_some_iff.1 hso
              unfold appliedT at hf
              split at hf
              · rename_i hk
                rw [← Option.some.inj hf]
                exact sortB_ne hk.2
              · cases hf
            · rw [if_neg h17] at hso
              by_cases h4 : 4 ≤ t.op ∧ t.op ≤ 16
              · rw [if_pos h4] at hso
                unfold operatedT at hso
                by_cases h16 : t.op.toNat = 16
                · rw [if_pos h16] at hso
                  split at hso
                  · rw [← Option.some.inj hso]
                    have hn : t.l.length = 3 := by
                      have : shapeB rt t.op t.name t.num t.l.length (headOp t.l) t.vars t.pat.length = true := by
                        unfold shapeE at hs
                        rw [if_neg h17] at hs
                        cases hb : shapeB rt t.op t.name t.num t.l.length (headOp t.l) t.vars t.pat.length with
                        | true => rfl
                        | false => rw [hb] at hs; cases hs
                      unfold shapeB at this
                      rw [if_neg (by omega), if_neg (by omega), if_pos h4] at this
                      unfold operandsB at this
                      rw [h16] at this
                      simp [opCount] at this
                      omega
                    have hlen := chkL_len hc
                    rw [List.length_map, hn] at hlen
                    have hm : (chkL (t.l.map (Tm.chk rt sig)) env).1.getD 1 0 ∈ (chkL (t.l.map (Tm.chk rt sig)) env).1 := by
                      rw [List.getD_eq_getElem?_getD, List.getElem?_eq_getElem (by omega)]
                      exact List.getElem_mem _
                    obtain ⟨f, hf, h0, h1⟩ := chkL_mem hc _ hm
                    obtain ⟨u, hu, rfl⟩ := List.mem_map.1 hf
                    rcases hl u hu with ⟨_, h⟩ | ⟨_, h⟩
                    · rw [← h1]; exact h
                    · exact absurd h0 h
                  · cases hso
                · rw [if_neg h16] at hso
                  rw [← if_some hso]
                  unfold opOwn
                  rw [if_neg h16]
                  split <;> decide
              · rw [if_neg h4] at hso
                split at hso <;> (rw [← Option.some.inj hso]; decide)
        · rw [if_pos hc]
          exact .inr ⟨rfl, hc⟩
  · rw [if_pos hs]
    exact .inr ⟨rfl, hs⟩
theorem check_snd (rt : ByteArray → Bool) (sig : List Fn) (t : Tm) : Snd (t.check rt sig) := by
  unfold Tm.check
  by_cases h : limE t = 0
  · rw [if_neg (fun k => k h)]
    exact chk_snd rt sig _ (fun _ s hs => by cases hs) t
  · rw [if_pos h]
    exact .inr ⟨rfl, h⟩
/-- A light term is no deeper than it weighs. -/
theorem TmAt.lower {w : World} {B : Nat} : ∀ {m d b o : Nat} {t : Tm}, TmAt w B d b o t → t.wt ≤ m → TmAt w B m b o t
  | 0, _, _, _, t, _, h => absurd h (by have := wt_pos t; omega)
  | m + 1, 0, _, _, _, h, _ => h.elim
  | m + 1, d + 1, b, o, t, ⟨hb, h1, h2, aL, aV, aP, cL, cV, cP, hr, hL, hV, hP, hx⟩, hw =>
    ⟨hb, h1, h2, aL, aV, aP, cL, cV, cP, hr, hL.mono (Nat.le_refl _) fun b o j _ h u hu => (h u hu).lower (by have := wt_mem (List.mem_of_getElem? hu); omega), hV, hP.mono (Nat.le_refl _) fun b o j _ h u hu => (h u hu).lower (by have := wt_memP (List.mem_of_getElem? hu); omega), hx⟩
theorem IsT.lower {w : World} {B d m : Nat} {v : Value} {t : Tm} (h : IsT w B d v t) (hw : t.wt ≤ m) : IsT w B m v t := by
  obtain ⟨h1, h2, aL, aV, aP, cL, cV, cP, hr, hL, hV, hP⟩ := h
  exact ⟨h1, h2, aL, aV, aP, cL, cV, cP, hr, hL.mono (Nat.le_refl _) fun b o j _ h u hu => (h u hu).lower (by have := wt_mem (List.mem_of_getElem? hu); omega), hV, hP.mono (Nat.le_refl _) fun b o j _ h u hu => (h u hu).lower (by have := wt_memP (List.mem_of_getElem? hu); omega)⟩
theorem Row.lower {w : World} {B d m n c : Nat} {a : Option Addr} {l : List Tm} (h : Row B a n c 7 (fun b o j => ∀ u, l[j]? = some u → TmAt w B d b o u)) (hw : ∀ u ∈ l, u.wt ≤ m) : Row B a n c 7 (fun b o j => ∀ u, l[j]? = some u → TmAt w B m b o u) :=
  h.mono (Nat.le_refl _) fun b o j _ h u hu => (h u hu).lower (hw u (List.mem_of_getElem? hu))
theorem size_wt (t : Tm) : t.size ≤ t.wt ∧ t.depth ≤ t.wt := by
  refine Tm.ind (p := fun t => t.size ≤ t.wt ∧ t.depth ≤ t.wt) (fun t hl _ => ?_) t
  rw [t.size_eq, t.depth_eq, t.wt_eq]
  have h1 : ∀ l : List Tm, (∀ u ∈ l, u.size ≤ u.wt ∧ u.depth ≤ u.wt) → (l.map Tm.size).sum ≤ (l.map Tm.wt).sum ∧ maxOf (l.map Tm.depth) ≤ (l.map Tm.wt).sum := fun l => by
    refine snoc_ind (p := fun l => (∀ u ∈ l, u.size ≤ u.wt ∧ u.depth ≤ u.wt) → (l.map Tm.size).sum ≤ (l.map Tm.wt).sum ∧ maxOf (l.map Tm.depth) ≤ (l.map Tm.wt).sum) (fun _ => ⟨by simp, by simp [maxOf]⟩) (fun l a ih h => ?_) l
    have h1 := ih fun u hu => h u (by simp [hu])
    have h2 := h a (by simp)
    have e : maxOf ((l ++ [a]).map Tm.depth) = max (maxOf (l.map Tm.depth)) a.depth := by
      rw [List.map_append, maxOf, List.foldl_append]
      rfl
    rw [e, List.map_append, List.map_append, List.sum_append, List.sum_append]
    simp
    omega
  have := h1 t.l hl
  omega
theorem okT_of {P : ByteArray → Prop} (hP : ∀ s, s.size ≤ 500 → P s) : ∀ {m e e' : Nat} {t : Tm}, t.wt ≤ m → m ≤ 1000 → Lt e t → NmOk e' t → OkT P m t
  | 0, _, _, t, h, _, _, _ => absurd h (by have := wt_pos t; omega)
  | m + 1, 0, _, _, _, _, h, _ => h.elim
  | m + 1, e + 1, 0, _, _, _, _, h => h.elim
  | m + 1, e + 1, e' + 1, t, hw, hm, ⟨h1, h2, h3, h4⟩, ⟨g1, g2, g3, g4, g5⟩ => by
    have hs := size_wt t
    refine ⟨fun _ => hP _ h2, by omega, fun v hv => by have := g3 v hv; unfold maxLen at this; omega, by omega, by omega, fun u hu => okT_of hP (by have := wt_mem hu; omega) (by omega) (h3 u hu) (g4 u hu), fun u hu => okT_of hP (by have := wt_memP hu; omega) (by omega) (h4 u hu) (g5 u hu)⟩
theorem txt_back (L : List UInt8) : Nm.txt (Lib.hasPrefix L [45]) (Lib.trimPrefix L [45]) = L := by
  cases L with
  | nil => rfl
  | cons b L =>
    by_cases e : b = 45
    · subst e
      simp [Nm.txt, Lib.trimPrefix, Lib.hasPrefix]
    · have e2 : ([45] : List UInt8).isPrefixOf (b :: L) = false := by simp [List.isPrefixOf, Ne.symm e]
      simp [Nm.txt, Lib.trimPrefix, Lib.hasPrefix, e2]
/-- Which texts are numbers: package num and the document say the same. -/
theorem rt_ex : ∃ rt : ByteArray → Bool, ∀ s : ByteArray, s.size ≤ 1900 → PC rt s ∧ RtC rt s := by
  refine ⟨fun s => @decide (Nm.RT (Lib.hasPrefix s.data.toList [45]) (Lib.trimPrefix s.data.toList [45])) (Classical.propDecidable _), fun s hs => ?_⟩
  have hlen : s.data.toList.length ≤ 1900 := by
    have : s.data.toList.length = s.size := by simp
    omega
  have hb := txt_back s.data.toList
  have he : (⟨(Nm.txt (Lib.hasPrefix s.data.toList [45]) (Lib.trimPrefix s.data.toList [45])).toArray⟩ : ByteArray) = s := by rw [hb]
  by_cases h : Nm.RT (Lib.hasPrefix s.data.toList [45]) (Lib.trimPrefix s.data.toList [45])
  · have hd : @decide (Nm.RT (Lib.hasPrefix s.data.toList [45]) (Lib.trimPrefix s.data.toList [45])) (Classical.propDecidable _) = true := @decide_eq_true _ (Classical.propDecidable _) h
    refine ⟨fun w => ?_, fun w => ?_⟩
    · simp only [hd]
      have := Nm.parse_yes (Lib.hasPrefix s.data.toList [45]) (Lib.trimPrefix s.data.toList [45]) w h.dg h.ne h.z h.len
      rw [he] at this
      refine this.mono ?_
      rintro e w' ⟨r, rfl, hb, hI⟩
      rcases hI with ⟨rfl, _⟩ | ⟨b, off, cap, xs, rfl, _⟩
      · exact ⟨_, _, _, _, rfl, hb⟩
      · exact ⟨_, _, _, _, rfl, hb⟩
    · simp only [hd]
      exact (Nm.right_yes _ _ s w hb.symm h).mono fun e w' h => h
  · have hd : @decide (Nm.RT (Lib.hasPrefix s.data.toList [45]) (Lib.trimPrefix s.data.toList [45])) (Classical.propDecidable _) = false := @decide_eq_false _ (Classical.propDecidable _) h
    refine ⟨fun w => ?_, fun w => ?_⟩
    · simp only [hd]
      have := Nm.parse_not s.data.toList w (by omega) h
      refine this.mono ?_
      rintro e w' ⟨rfl, hb⟩
      exact ⟨_, _, _, _, rfl, hb⟩
    · simp only [hd]
      exact (Nm.right_no s _ w rfl (by omega) h).mono fun e w' h => h
end Go.Proofs.YtdkenobgfgmepaaDoor

/- Signatures as the rows read them; the walk of TermChecks. -/
namespace Go.Proofs.YtdkenobgfgmepaaDoor
open Go Go.RowKit Go.ChangeShapes Go.WideShapes Go.ChangeAt
theorem cells_fun : Tryd.prog.cellsOf 56 = 3 := by kernel_rfl
theorem cells_li : Tryd.prog.cellsOf 54 = 1 := by kernel_rfl
theorem bytes_fun : 0 < Tryd.prog.bytesOf 56 := by
  have : Tryd.prog.bytesOf 56 = 48 := by kernel_rfl
  omega
theorem bytes_i : 0 < Tryd.prog.bytesOf 3 := by
  have : Tryd.prog.bytesOf 3 = 8 := by kernel_rfl
  omega
theorem len1 : ∀ {l : List Value}, l.length = 1 → ∃ c0, l = [c0]
  | [c0], _ => ⟨c0, rfl⟩
theorem len3 : ∀ {l : List Value}, l.length = 3 → ∃ c0 c1 c2, l = [c0, c1, c2]
  | [c0, c1, c2], _ => ⟨c0, c1, c2, rfl⟩
section
variable {H : Type} {enc : TypeId × Value → H} {W : World} {base : Nat} {sp : Nat → Bool} {held : Bool}
theorem open_ints {n : Nat} {c : Value} {x : DataW H × List MemPlace} (h : DataW.trod enc Tryd.prog W base sp held n 54 [c] = some x) (hz : ∀ m ∈ x.1.weights Tryd.prog 54, m ≤ reachBytes) : ∃ a cap, ∃ xs : List Int, c = .slice a xs.length cap ∧ Row W.heap.size a xs.length cap 1 (IR W xs) := by
  obtain ⟨a, len, cap, rfl, hl, hz2, hr⟩ := row_of (k := 1) (q := fun l _ => ∃ z, l = [.int .i64 z] ∧ fits z) Tryd.underlying54 cells_i (by omega) bytes_i h hz fun m j l y _ hy hl1 _ => by
    obtain ⟨c0, rfl⟩ := len1 hl1
    obtain ⟨z, rfl, hz⟩ := trod_i Tryd.underlying3 hy
    exact ⟨z, rfl, hz⟩
  by_cases h0 : len = 0
  · subst h0
    exact ⟨a, cap, [], rfl, hl, by simp, fun h => absurd rfl h⟩
  · obtain ⟨b, off, rfl, hb, hj⟩ := hr h0
    obtain ⟨xs, hxs, hp⟩ := pick_list (p := fun j (z : Int) => W.cell? ⟨b, off + j * 1, none⟩ = some (.int .i64 z) ∧ fits z) 0 (len := len) fun j hjl => by
      obtain ⟨l, _, hra, z, rfl, hz⟩ := hj j hjl
      exact ⟨z, hra 0 _ rfl, hz⟩
    subst hxs
    exact ⟨_, cap, xs, rfl, hl, hz2, fun _ => ⟨b, off, rfl, hb, fun j _ z hz => hp j z hz⟩⟩
set_option maxRecDepth 100000 in
theorem open_fun {n : Nat} {l : List Value} {x : DataW H × List MemPlace} (h : DataW.trod enc Tryd.prog W base sp held n 56 l = some x) (hl : l.length = 3) (hz : ∀ m ∈ x.1.weights Tryd.prog 56, m ≤ reachBytes) : ∃ f : Fn, ∃ aA cA, l = [.string f.name, .slice aA f.args.length cA, .int .i64 f.out] ∧ fits f.out ∧ Row W.heap.size aA f.args.length cA 1 (IR W f.args) := by
  obtain ⟨xs, m, rfl, hx, _, hxs, hf⟩ := DataW.trod_struct Tryd.underlying56 h
  obtain ⟨c0, c1, c2, rfl⟩ := len3 hl
  have hs : xs.length = 3 := hxs
  have h0 : DataW.trod enc Tryd.prog W base sp held m 9 (List.take (Tryd.prog.cellsOf 9) (List.drop 0 [c0, c1, c2])) = xs[0]? := hf 0 _ rfl
  have h1 : DataW.trod enc Tryd.prog W base sp held m 54 (List.take (Tryd.prog.cellsOf 54) (List.drop 1 [c0, c1, c2])) = xs[1]? := hf 1 _ rfl
  have h2 : DataW.trod enc Tryd.prog W base sp held m 3 (List.take (Tryd.prog.cellsOf 3) (List.drop 2 [c0, c1, c2])) = xs[2]? := hf 2 _ rfl
  rw [cells_s] at h0
  rw [cells_li] at h1
  rw [cells_i] at h2
  rw [List.getElem?_eq_getElem (by omega)] at h0 h1 h2
  obtain ⟨s, rfl, hsz⟩ := trod_s Tryd.underlying9 h0
  obtain ⟨z, rfl, hzz⟩ := trod_i Tryd.underlying3 h2
  obtain ⟨a, cap, zs, rfl, hA⟩ := open_ints h1 fun k hk => by
    refine hz k ?_
    rw [hx]
    simp only [DataW.weights, Tryd.underlying56]
    exact each_of (t := 54) (i := 1) rfl (by rw [List.getElem?_map, List.getElem?_eq_getElem (by omega)]; rfl) hk
  exact ⟨⟨s, zs, z⟩, a, cap, rfl, hzz, hA⟩
theorem open_sig {n : Nat} {c : Value} {x : DataW H × List MemPlace} (h : DataW.trod enc Tryd.prog W base sp held n 22 [c] = some x) (hz : ∀ m ∈ x.1.weights Tryd.prog 22, m ≤ reachBytes) : ∃ a cap, ∃ sig : List Fn, c = .slice a sig.length cap ∧ Row W.heap.size a sig.length cap 3 (SigR W W.heap.size sig) := by
  obtain ⟨a, len, cap, rfl, hl, hz2, hr⟩ := row_of (k := 3) (q := fun l _ => ∃ f : Fn, ∃ aA cA, l = [.string f.name, .slice aA f.args.length cA, .int .i64 f.out] ∧ fits f.out ∧ Row W.heap.size aA f.args.length cA 1 (IR W f.args)) Tryd.underlying22 cells_fun (by omega) bytes_fun h hz fun m j l y _ hy hl3 hzy => open_fun hy hl3 hzy
  by_cases h0 : len = 0
  · subst h0
    exact ⟨a, cap, [], rfl, hl, by simp, fun h => absurd rfl h⟩
  · obtain ⟨b, off, rfl, hb, hj⟩ := hr h0
    obtain ⟨sig, hsig, hp⟩ := pick_list (p := fun j (f : Fn) => ∃ aA cA, W.rangeAt b (off + j * 3) [.string f.name, .slice aA f.args.length cA, .int .i64 f.out] ∧ fits f.out ∧ Row W.heap.size aA f.args.length cA 1 (IR W f.args)) ⟨.empty, [], 0⟩ (len := len) fun j hjl => by
      obtain ⟨l, _, hra, f, aA, cA, rfl, h1, h2⟩ := hj j hjl
      exact ⟨f, aA, cA, hra, h1, h2⟩
    subst hsig
    exact ⟨_, cap, sig, rfl, hl, hz2, fun _ => ⟨b, off, rfl, hb, fun j _ f hf => hp j f hf⟩⟩
end
theorem snd_eq {p : Int × Int} (h : Snd p) : ((p.2 == 0) == (p.1 != 0)) = true := by
  obtain ⟨s, e⟩ := p
  rcases h with ⟨h1, h2⟩ | ⟨h1, h2⟩
  · have h1 : e = 0 := h1
    have h2 : s ≠ 0 := h2
    simp [h1, h2]
  · have h1 : s = 0 := h1
    have h2 : e ≠ 0 := h2
    simp [h1, h2]
set_option maxRecDepth 100000 in
set_option maxHeartbeats 16000000 in
theorem checks_walk {W : World} {aS : Option Addr} {nS cS d : Nat} {sig : List Fn} {v : Value} {t : Tm} (hS : Row W.heap.size aS nS cS 3 (SigR W W.heap.size sig)) (hn : nS = sig.length) (hT : IsT W W.heap.size d v t) (hN : NmOk d t) (hR : RL W) (h0 : 0 < W.heap.size) : Calls Tryd.prog 3 #[.slice aS nS cS, v] W (VPost (.bool true) W) := by
  obtain ⟨rt, hrt⟩ := rt_ex
  have hTw := hT
  obtain ⟨y0, y1, y2, y3, y4, y5, y6, rfl⟩ := hT.form
  obtain ⟨w0, e0, hb0, hs0, hc0, hh⟩ := box_new W #[y0, y1, y2, y3, y4, y5, y6] 26
  have HAll : Hid (∀ V, Below w0.heap.size w0 V → (V.cell? ⟨W.heap.size, 0, none⟩ = some y0 ∧ V.cell? ⟨W.heap.size, 1, none⟩ = some y1 ∧ V.cell? ⟨W.heap.size, 2, none⟩ = some y2 ∧ V.cell? ⟨W.heap.size, 3, none⟩ = some y3 ∧ V.cell? ⟨W.heap.size, 4, none⟩ = some y4 ∧ V.cell? ⟨W.heap.size, 5, none⟩ = some y5 ∧ V.cell? ⟨W.heap.size, 6, none⟩ = some y6) ∧ Below W.heap.size W V ∧ IsT V W.heap.size d (.agg #[y0, y1, y2, y3, y4, y5, y6]) t ∧ Row W.heap.size aS nS cS 3 (SigR V W.heap.size sig) ∧ RL V) := fun V h => by
    have hq : W.heap.size < w0.heap.size := by omega
    have hbW : Below W.heap.size W V := hb0.trans (h.mono (by omega))
    exact ⟨⟨(h.cell (p := ⟨W.heap.size, 0, none⟩) hq).trans (hc0 0 _ rfl), (h.cell (p := ⟨W.heap.size, 1, none⟩) hq).trans (hc0 1 _ rfl), (h.cell (p := ⟨W.heap.size, 2, none⟩) hq).trans (hc0 2 _ rfl), (h.cell (p := ⟨W.heap.size, 3, none⟩) hq).trans (hc0 3 _ rfl), (h.cell (p := ⟨W.heap.size, 4, none⟩) hq).trans (hc0 4 _ rfl), (h.cell (p := ⟨W.heap.size, 5, none⟩) hq).trans (hc0 5 _ rfl), (h.cell (p := ⟨W.heap.size, 6, none⟩) hq).trans (hc0 6 _ rfl)⟩, hbW, hTw.more hbW (Nat.le_refl _) (Nat.le_refl _), hS.belowS hbW, hR.below hbW h0⟩
  have HE := hide e0
  have HI := hide (And.intro hN (And.intro hrt hn))
  have HH0 := hide h0
  have HK := hide (known_any (w := w0) (unhide HAll w0 (Below.refl _ _)).2.2.2.2 (by omega))
  have hmS : nS ≤ 281474976710656 := hS.2.1
  clear hT hTw hS hn hN hR hrt e0 hb0 hs0 hc0 hh h0
  go_enter Tryd.func3, Tryd.ntmps3
  go_wp2_with fail
  rw [unhide HE]
  refine (unhide HK).mono ?_
  rintro e w1 ⟨rfl, hb1⟩
  obtain ⟨⟨k0, k1, k2, k3, k4, k5, k6⟩, hbw1, hI1, hS1, hR1⟩ := unhide HAll w1 hb1
  have HB1 := hide hb1
  have HBw1 := hide hbw1
  have hTl := hI1.boxed hbw1.size
  obtain ⟨A, eA, hbA, hsA, hcA, hhA⟩ := box_new w1 #[y0, y1, y2, y3, y4, y5, y6] 26
  rw [eA] at hTl
  have HL := hide (light_any 300 (by omega) (B := w1.heap.size + 1) (d := d + 1) (n := 1) (cap := 1) (a0 := some ⟨w1.heap.size, 0, none⟩) (l := [t]) (w := A) ⟨Nat.le_refl _, by omega, fun _ => ⟨w1.heap.size, 0, rfl, by omega, fun j hj u hu => by
    obtain rfl : j = 0 := by omega
    have : t = u := by simpa using hu
    rw [← this]
    exact hTl⟩⟩ rfl (by omega))
  have HEA := hide eA
  have HBA := hide hbA
  clear hb1 hbw1 hI1 hS1 hR1 hTl eA hbA hsA hcA hhA HK
  go_wp2_with fail
  rw [unhide HEA]
  refine (unhide HL).mono ?_
  rintro e w2 ⟨bl, rfl, hbl, hb2⟩
  have hb02 : Below w0.heap.size w0 w2 := (unhide HB1).trans (((unhide HBA).trans (hb2.mono (unhide HBA).size)).mono (unhide HB1).size)
  obtain ⟨⟨l0, l1, l2, l3, l4, l5, l6⟩, hbw2, hI2, hS2, hR2⟩ := unhide HAll w2 hb02
  have HBl := hide hbl
  have HB2 := hide hb02
  have HBw2 := hide hbw2
  have HI2 := hide (And.intro hI2 (And.intro hS2 hR2))
  clear hb2 hbl hb02 hbw2 hI2 hS2 hR2 HL k0 k1 k2 k3 k4 k5 k6
  cases bl with
  | false =>
    go_wp2
    go_ret
    exact ⟨rfl, unhide HBw2⟩
  | true =>
    by_cases h40 : 40 < nS
    · have g : decide ((40 : Int) < (nS : Int)) = true := by simp; omega
      clear h40
      go_wp2
      go_ret
      exact ⟨rfl, unhide HBw2⟩
    · have g : decide ((40 : Int) < (nS : Int)) = false := by simp; omega
      obtain ⟨hwl, hlt⟩ := unhide HBl rfl
      have hwt : t.wt ≤ 300 := by simpa using hwl
      have hLt : Lt 61 t := hlt t (by simp)
      obtain ⟨hN, hrt, hn⟩ := unhide HI
      have hO1 : OkT (PC rt) 301 t := okT_of (fun s hs => (hrt s (by omega)).1) (by omega) (by omega) hLt hN
      have hO2 : OkT (RtC rt) 301 t := okT_of (fun s hs => (hrt s (by omega)).2) (by omega) (by omega) hLt hN
      have HCk := hide (Check_any (rt := rt) (d := 300) ((unhide HI2).1.lower hwt) (unhide HI2).2.1 hn (unhide HBw2).size (unhide HH0) (unhide HI2).2.2 hO1 (by omega))
      have HO2 := hide (And.intro hO2 hwt)
      obtain ⟨p, hp⟩ : ∃ p, t.check rt sig = p := ⟨_, rfl⟩
      have hsnd := check_snd rt sig t
      rw [hp] at HCk hsnd
      have HSn := hide hsnd
      have HP := hide hp
      clear h40 hwl hlt hwt hLt hN hrt hn hO1 hO2 hp hsnd
      go_wp2_with fail
      refine (unhide HCk).mono ?_
      rintro e w3 ⟨rfl, hb3⟩
      have hb03 : Below w0.heap.size w0 w3 := (unhide HB2).trans (hb3.mono (unhide HB2).size)
      obtain ⟨⟨m0, m1, m2, m3, m4, m5, m6⟩, hbw3, hI3, hS3, hR3⟩ := unhide HAll w3 hb03
      have HCd := hide (CheckD_any (rt := rt) (d := 300) (hI3.lower (unhide HO2).2) hS3 (unhide HI).2.2 hbw3.size (unhide HO2).1 (by have := (unhide HO2).2; omega))
      rw [unhide HP] at HCd
      have HBw3 := hide hbw3
      clear hb3 hb03 hbw3 hI3 hS3 hR3 l0 l1 l2 l3 l4 l5 l6 HCk g
      unfold pairV
      go_wp2_with fail
      refine (unhide HCd).mono ?_
      rintro e w4 ⟨rfl, hb4⟩
      have HBw4 := hide ((unhide HBw3).trans (hb4.mono (unhide HBw3).size))
      have hq := snd_eq (unhide HSn)
      clear hb4 m0 m1 m2 m3 m4 m5 m6 HCd
      unfold pairV
      obtain ⟨ps, pe⟩ := p
      go_wp2
      go_ret
      exact ⟨rfl, unhide HBw4⟩
end Go.Proofs.YtdkenobgfgmepaaDoor

/- A term as an argument: its cells. -/
namespace Go.Proofs.YtdkenobgfgmepaaDoor
open Go Go.RowKit Go.ChangeShapes Go.WideShapes Go.ChangeAt
set_option maxRecDepth 100000 in
theorem agg_of {H : Type} {enc : TypeId × Value → H} {W : World} {r : Reach} {base b2 n : Nat} {sp : Nat → Bool} {held : Bool} {v : Value} {x : DataW H × List MemPlace} (h : Value.okWide Tryd.prog W r base 26 v) (hd : DataW.trod enc Tryd.prog W b2 sp held n 26 v.cells.toList = some x) : ∃ l : List Value, v = .agg l.toArray ∧ l.length = 7 ∧ DataW.trod enc Tryd.prog W b2 sp held n 26 l = some x := by
  unfold Value.okWide at h
  rw [Tryd.underlying26] at h
  obtain ⟨cs, rfl, hc, _⟩ := h
  rw [cells_term] at hc
  exact ⟨cs.toList, rfl, by simpa using hc, hd⟩
end Go.Proofs.YtdkenobgfgmepaaDoor

/- More functions say nothing, where there is no error; signatures put behind one another. -/
namespace Go.Proofs.YtdkenobgfgmepaaDoor
open Go Go.RowKit
theorem findF_more {k : ByteArray} {f : Fn} (more : List Fn) : ∀ {sig : List Fn}, findF k sig = some f → findF k (sig ++ more) = some f
  | [], h => by cases h
  | g :: sig, h => by
    have h : (if k = g.name then some g else findF k sig) = some f := h
    show (if k = g.name then some g else findF k (sig ++ more)) = some f
    by_cases e : k = g.name
    · rw [if_pos e] at h ⊢
      exact h
    · rw [if_neg e] at h ⊢
      exact findF_more more h
theorem chkL_more {env : ByteArray → List Int} {g h : Tm → (ByteArray → List Int) → Int × Int} : ∀ {l : List Tm}, (∀ u ∈ l, (g u env).2 = 0 → h u env = g u env) → (chkL (l.map g) env).2 = 0 → chkL (l.map h) env = chkL (l.map g) env
  | [], _, _ => rfl
  | u :: l, hu, h0 => by
    have e1 : chkL ((u :: l).map g) env = if (g u env).2 ≠ 0 then ([], (g u env).2) else ((g u env).1 :: (chkL (l.map g) env).1, (chkL (l.map g) env).2) := rfl
    have e2 : chkL ((u :: l).map h) env = if (h u env).2 ≠ 0 then ([], (h u env).2) else ((h u env).1 :: (chkL (l.map h) env).1, (chkL (l.map h) env).2) := rfl
    by_cases hg : (g u env).2 = 0
    · have hh := hu u (by simp) hg
      rw [e1, if_neg (fun k => k hg)] at h0
      have hl := chkL_more (l := l) (fun v hv => hu v (by simp [hv])) h0
      rw [e1, e2, hh, hl]
    · rw [e1, if_pos hg] at h0
      exact absurd h0 hg
theorem firstE_zero : ∀ {l : List Int}, firstE l = 0 → ∀ e ∈ l, e = 0
  | [], _, e, h => by cases h
  | a :: l, h, e, he => by
    have h : (if a ≠ 0 then a else firstE l) = 0 := h
    by_cases h0 : a = 0
    · rw [if_neg (fun k => k h0)] at h
      rcases List.mem_cons.1 he with rfl | he
      · exact h0
      · exact firstE_zero h e he
    · rw [if_pos h0] at h
      exact absurd h h0
theorem chk_more (rt : ByteArray → Bool) (sig more : List Fn) (t : Tm) : ∀ env : ByteArray → List Int, (t.chk rt sig env).2 = 0 → t.chk rt (sig ++ more) env = t.chk rt sig env := by
  refine Tm.ind (p := fun t => ∀ env : ByteArray → List Int, (t.chk rt sig env).2 = 0 → t.chk rt (sig ++ more) env = t.chk rt sig env) (fun t hl hp env h => ?_) t
  have hs : shapeE rt sig t.op t.name t.num t.l.length (headOp t.l) t.vars t.pat.length = 0 := by
    by_cases hs : shapeE rt sig t.op t.name t.num t.l.length (headOp t.l) t.vars t.pat.length = 0
    · exact hs
    · rw [Tm.chk_eq, if_pos hs] at h
      exact absurd h hs
  have hs2 : shapeE rt (sig ++ more) t.op t.name t.num t.l.length (headOp t.l) t.vars t.pat.length = 0 ∧ (t.op = 17 → findF t.name (sig ++ more) = findF t.name sig) := by
    unfold shapeE at hs ⊢
    by_cases h17 : t.op = 17
    · rw [if_pos h17] at hs ⊢
      unfold appE at hs ⊢
      by_cases hw : wordB t.name = true
      · rw [if_pos hw] at hs ⊢
        cases hf : findF t.name sig with
        | none => rw [hf] at hs; cases hs
        | some f =>
          rw [hf] at hs
          rw [findF_more more hf]
          exact ⟨hs, fun _ => rfl⟩
      · rw [if_neg hw] at hs
        cases hs
    · rw [if_neg h17] at hs ⊢
      exact ⟨hs, fun e => absurd e h17⟩
  have hR : t.chk rt sig env = if t.op = 18 then varE t.name t.sort env else if t.op = 19 then allP (t.under rt sig (bindV t.vars env)) else if (chkL (t.l.map (Tm.chk rt sig)) env).2 ≠ 0 then (0, (chkL (t.l.map (Tm.chk rt sig)) env).2) else match sortOfT sig t.op t.name (chkL (t.l.map (Tm.chk rt sig)) env).1 with
      | some s => (s, 0)
      | none => (0, 31) := by
    rw [Tm.chk_eq, if_neg (fun k => k hs)]
    all_goals rfl
  have hQ : t.chk rt (sig ++ more) env = if t.op = 18 then varE t.name t.sort env else if t.op = 19 then allP (t.under rt (sig ++ more) (bindV t.vars env)) else if (chkL (t.l.map (Tm.chk rt (sig ++ more))) env).2 ≠ 0 then (0, (chkL (t.l.map (Tm.chk rt (sig ++ more))) env).2) else match sortOfT (sig ++ more) t.op t.name (chkL (t.l.map (Tm.chk rt (sig ++ more))) env).1 with
      | some s => (s, 0)
      | none => (0, 31) := by
    rw [Tm.chk_eq, if_neg (fun k => k hs2.1)]
    all_goals rfl
  rw [hR] at h
  rw [hQ, hR]
  clear hQ hR
  by_cases h18 : t.op = 18
  · rw [if_pos h18, if_pos h18]
  · rw [if_neg h18] at h
    rw [if_neg h18, if_neg h18]
    by_cases h19 : t.op = 19
    · rw [if_pos h19] at h
      rw [if_pos h19, if_pos h19]
      congr 1
      have hu : t.under rt sig (bindV t.vars env) = 0 := by
        unfold allP at h
        by_cases hu : t.under rt sig (bindV t.vars env) = 0
        · exact hu
        · rw [if_pos hu] at h
          exact absurd h hu
      unfold Tm.under underE at hu
      unfold Tm.under
      have hb : (headF (t.l.map (Tm.chk rt sig)) (bindV t.vars env)).2 = 0 := by
        by_cases hb : (headF (t.l.map (Tm.chk rt sig)) (bindV t.vars env)).2 = 0
        · exact hb
        · rw [if_pos hb] at hu
          exact absurd hu hb
      rw [if_neg (fun k => k hb)] at hu
      have hb1 : (headF (t.l.map (Tm.chk rt sig)) (bindV t.vars env)).1 = 2 := by
        by_cases hb1 : (headF (t.l.map (Tm.chk rt sig)) (bindV t.vars env)).1 = 2
        · exact hb1
        · rw [if_pos hb1] at hu
          cases hu
      rw [if_neg (fun k => k hb1)] at hu
      have hf : firstE (t.pat.map (Tm.patE rt sig (bindV t.vars env))) = 0 := by
        by_cases hf : firstE (t.pat.map (Tm.patE rt sig (bindV t.vars env))) = 0
        · exact hf
        · rw [if_pos hf] at hu
          exact absurd hu hf
      have e1 : headF (t.l.map (Tm.chk rt (sig ++ more))) (bindV t.vars env) = headF (t.l.map (Tm.chk rt sig)) (bindV t.vars env) := by
        cases hl' : t.l with
        | nil => rfl
        | cons u l =>
          rw [hl'] at hb
          exact hl u (by rw [hl']; simp) _ hb
      have e2 : t.pat.map (Tm.patE rt (sig ++ more) (bindV t.vars env)) = t.pat.map (Tm.patE rt sig (bindV t.vars env)) := by
        refine List.map_congr_left fun p hpm => ?_
        have h0 := firstE_zero hf _ (List.mem_map_of_mem hpm)
        have h0 : patE (limE p) p.op p.bare (p.chk rt sig (bindV t.vars env)).2 = 0 := h0
        show patE (limE p) p.op p.bare (p.chk rt (sig ++ more) (bindV t.vars env)).2 = patE (limE p) p.op p.bare (p.chk rt sig (bindV t.vars env)).2
        by_cases hc : limE p = 0 ∧ (p.op = 17 ∧ p.bare = true)
        · have e : ∀ z, patE (limE p) p.op p.bare z = z := fun z => by
            unfold patE
            rw [if_neg (show ¬ (limE p ≠ 0) from fun k => k hc.1), if_pos hc.2]
          rw [e] at h0
          rw [e, e, hp p hpm _ h0]
        · have e : ∀ z, patE (limE p) p.op p.bare z = patE (limE p) p.op p.bare 0 := fun z => by
            unfold patE
            by_cases h1 : limE p = 0
            · have h2 : ¬ (p.op = 17 ∧ p.bare = true) := fun k => hc ⟨h1, k⟩
              simp only [h1, h2, if_false]
            · simp only [ne_eq, h1, not_false_eq_true, if_true]
          rw [e, e (p.chk rt sig (bindV t.vars env)).2]
      rw [e1, e2]
    · rw [if_neg h19] at h
      rw [if_neg h19, if_neg h19]
      have hc : (chkL (t.l.map (Tm.chk rt sig)) env).2 = 0 := by
        by_cases hc : (chkL (t.l.map (Tm.chk rt sig)) env).2 = 0
        · exact hc
        · rw [if_pos hc] at h
          exact absurd h hc
      have e1 := chkL_more (h := Tm.chk rt (sig ++ more)) (fun u hu => hl u hu env) hc
      have e2 : ∀ ss, sortOfT (sig ++ more) t.op t.name ss = sortOfT sig t.op t.name ss := fun ss => by
        unfold sortOfT
        by_cases h17 : t.op = 17
        · rw [if_pos h17, if_pos h17, hs2.2 h17]
        · rw [if_neg h17, if_neg h17]
      rw [e1, e2]
theorem check_more {rt : ByteArray → Bool} {sig : List Fn} (more : List Fn) {t : Tm} (h : (t.check rt sig).2 = 0) : t.check rt (sig ++ more) = t.check rt sig := by
  unfold Tm.check at h
  unfold Tm.check
  by_cases hl : limE t = 0
  · rw [if_neg (fun k => k hl)] at h
    rw [if_neg (fun k => k hl), if_neg (fun k => k hl)]
    exact chk_more rt sig more t _ h
  · rw [if_pos hl, if_pos hl]
theorem infFun : (Tryd.prog.info? 56).map (fun i => (i.zero, i.size, i.bytes)) = some (some (.agg #[.string ⟨#[]⟩, .slice none 0 0, .int .i64 0]), 3, 48) := by kernel_rfl
/-- The cells of signatures that lie there. -/
theorem rdF {w : World} {B n c : Nat} {a : Option Addr} {x : List Fn} (hx : Row B a n c 3 (SigR w B x)) (hn : n = x.length) : ∃ vs : List Value, vs.length = n * 3 ∧ (∀ u ∈ vs, u.oneCell' = true) ∧ RdK w (.slice a n c) n vs ∧ ∀ j f, x[j]? = some f → ∃ aA cA, vs[j * 3]? = some (.string f.name) ∧ vs[j * 3 + 1]? = some (.slice aA f.args.length cA) ∧ vs[j * 3 + 2]? = some (.int .i64 f.out) ∧ fits f.out ∧ Row B aA f.args.length cA 1 (IR w f.args) := by
  by_cases h0 : n = 0
  · subst h0
    have hx0 : x = [] := List.length_eq_zero_iff.1 hn.symm
    subst hx0
    refine ⟨[], by simp, fun u hu => (by cases hu), ?_, fun j f hf => (by simp at hf)⟩
    cases a with
    | none => exact .inl ⟨rfl, rfl, c, rfl⟩
    | some p => exact .inr ⟨p, c, rfl, fun j u hu => by simp at hu⟩
  · obtain ⟨b, off, rfl, hb, hj⟩ := hx.2.2 h0
    have hcell : ∀ k, k < n * 3 → ∃ v, w.cell? ⟨b, off + k, none⟩ = some v ∧ v.oneCell' = true := fun k hk => by
      obtain ⟨aA, cA, h1, _, _⟩ := hj (k / 3) (by omega) _ (List.getElem?_eq_getElem (show k / 3 < x.length by omega))
      rcases (by omega : k % 3 = 0 ∨ k % 3 = 1 ∨ k % 3 = 2) with h | h | h
      · exact ⟨_, by have := h1 0 _ rfl; rw [show off + k = off + k / 3 * 3 + 0 by omega]; exact this, rfl⟩
      · exact ⟨_, by have := h1 1 _ rfl; rw [show off + k = off + k / 3 * 3 + 1 by omega]; exact this, rfl⟩
      · exact ⟨_, by have := h1 2 _ rfl; rw [show off + k = off + k / 3 * 3 + 2 by omega]; exact this, rfl⟩
    obtain ⟨vs, hvs, hp⟩ := pick_list (p := fun k (v : Value) => w.cell? ⟨b, off + k, none⟩ = some v ∧ v.oneCell' = true) (.int .i64 0) (len := n * 3) hcell
    refine ⟨vs, hvs, fun u hu => ?_, .inr ⟨_, c, rfl, fun j u hu => by rw [Addr.add_lit]; exact (hp j u hu).1⟩, fun j f hf => ?_⟩
    · obtain ⟨k, hk⟩ := List.mem_iff_getElem?.1 hu
      exact (hp k u hk).2
    · have hjx := (List.getElem?_eq_some_iff.1 hf).1
      obtain ⟨aA, cA, h1, h2, h3⟩ := hj j (by omega) f hf
      have hg : ∀ k v, k < 3 → w.cell? ⟨b, off + j * 3 + k, none⟩ = some v → vs[j * 3 + k]? = some v := fun k v hk hc => by
        have hlt : j * 3 + k < vs.length := by omega
        have := (hp (j * 3 + k) _ (List.getElem?_eq_getElem hlt)).1
        rw [List.getElem?_eq_getElem hlt]
        rw [show off + (j * 3 + k) = off + j * 3 + k by omega, hc] at this
        exact this.symm
      exact ⟨aA, cA, hg 0 _ (by omega) (h1 0 _ rfl), hg 1 _ (by omega) (h1 1 _ rfl), hg 2 _ (by omega) (h1 2 _ rfl), h2, h3⟩
theorem join_funs {w : World} {B n c m c' : Nat} {a a' : Option Addr} {x y : List Fn} (hx : Row B a n c 3 (SigR w B x)) (hn : n = x.length) (hy : Row B a' m c' 3 (SigR w B y)) (hm : m = y.length) (hB : B ≤ w.heap.size) (hl : n + m ≤ 1000000) :
    ∃ v1 w1 a2 c2 w2, (Builtin.append_ #[22, 22] 22 #[.slice none 0 0, .slice a n c]).run Tryd.prog w = .ok v1 w1 ∧ (Builtin.append_ #[22, 22] 22 #[v1, .slice a' m c']).run Tryd.prog w1 = .ok (.slice a2 (n + m) c2) w2 ∧ Row w2.heap.size a2 (n + m) c2 3 (SigR w2 w2.heap.size (x ++ y)) ∧ Below w.heap.size w w2 := by
  obtain ⟨i0, hi0, hz0, hz1, hz2⟩ := inf_of infFun
  have tF : Tryd.prog.underlying 22 = some (.slice 56) := by kernel_rfl
  obtain ⟨vs, lv, ov, rv, gv⟩ := rdF hx hn
  obtain ⟨v1, w1, r1, o1, g1⟩ := app_gen 22 56 i0 _ 48 tF hi0 hz0 hz1 hz2 rfl (by omega) (by omega) (own_nilK w w.heap.size 3 56) rv lv ov (by omega) (Nat.le_refl _) 22
  have b1 : Below w.heap.size w w1 := below_appK (Below.refl _ w) g1 (own_nilK w w.heap.size 3 56) (Nat.le_refl _)
  obtain ⟨us, lu, ou, ru, gu⟩ := rdF (hy.belowS (b1.mono hB)) hm
  obtain ⟨v2, w2, r2, o2, g2⟩ := app_gen 22 56 i0 _ 48 tF hi0 hz0 hz1 hz2 rfl (by omega) (by omega) o1 ru lu ou (by omega) b1.size 22
  have b2 : Below w.heap.size w w2 := below_appK b1 g2 o1 b1.size
  have b12 : Below B w1 w2 := by
    have h := b2.mono hB
    have h' := b1.mono hB
    exact ⟨h.os.trans h'.os.symm, h.tape.trans h'.tape.symm, h.output.trans h'.output.symm, g2.size, fun k hk => (h.block k hk).trans (h'.block k hk).symm⟩
  rw [List.nil_append, Nat.zero_add] at o2
  obtain ⟨a2, c2, rfl, hc2, hr⟩ := own_cells o2
  refine ⟨v1, w1, a2, c2, w2, r1, r2, ⟨hc2, by omega, fun h0 => ?_⟩, b2⟩
  obtain ⟨g, rfl, _, hg, hj⟩ := hr h0
  have hB2 : B ≤ w2.heap.size := Nat.le_trans hB b2.size
  refine ⟨g, 0, rfl, hg, fun j hjn f hf => ?_⟩
  have key : ∃ aA cA, (vs ++ us)[j * 3]? = some (.string f.name) ∧ (vs ++ us)[j * 3 + 1]? = some (.slice aA f.args.length cA) ∧ (vs ++ us)[j * 3 + 2]? = some (.int .i64 f.out) ∧ fits f.out ∧ Row w2.heap.size aA f.args.length cA 1 (IR w2 f.args) := by
    by_cases hjx : j < x.length
    · rw [List.getElem?_append_left hjx] at hf
      obtain ⟨aA, cA, h1, h2, h3, h4, h5⟩ := gv j f hf
      refine ⟨aA, cA, by rw [List.getElem?_append_left (by omega)]; exact h1, by rw [List.getElem?_append_left (by omega)]; exact h2, by rw [List.getElem?_append_left (by omega)]; exact h3, h4, h5.mono hB2 fun b o k hb h z hz => ⟨((b2.mono hB).cell (p := ⟨b, o, none⟩) hb).trans (h z hz).1, (h z hz).2⟩⟩
    · rw [List.getElem?_append_right (by omega)] at hf
      obtain ⟨aA, cA, h1, h2, h3, h4, h5⟩ := gu _ f hf
      refine ⟨aA, cA, ?_, ?_, ?_, h4, h5.mono hB2 fun b o k hb h z hz => ⟨(b12.cell (p := ⟨b, o, none⟩) hb).trans (h z hz).1, (h z hz).2⟩⟩
      · rw [List.getElem?_append_right (by omega), show j * 3 - vs.length = (j - x.length) * 3 by omega]; exact h1
      · rw [List.getElem?_append_right (by omega), show j * 3 + 1 - vs.length = (j - x.length) * 3 + 1 by omega]; exact h2
      · rw [List.getElem?_append_right (by omega), show j * 3 + 2 - vs.length = (j - x.length) * 3 + 2 by omega]; exact h3
  obtain ⟨aA, cA, h1, h2, h3, h4, h5⟩ := key
  refine ⟨aA, cA, fun k v hv => ?_, h4, h5⟩
  have hk3 : k < 3 := by
    have := (List.getElem?_eq_some_iff.1 hv).1
    simpa using this
  rw [show 0 + j * 3 + k = j * 3 + k by omega]
  rcases (by omega : k = 0 ∨ k = 1 ∨ k = 2) with rfl | rfl | rfl
  · have : Value.string f.name = v := by simpa using hv
    rw [← this]
    exact hj _ _ h1
  · have : Value.slice aA f.args.length cA = v := by simpa using hv
    rw [← this]
    exact hj _ _ h2
  · have : Value.int .i64 f.out = v := by simpa using hv
    rw [← this]
    exact hj _ _ h3
end Go.Proofs.YtdkenobgfgmepaaDoor

namespace Go.Proofs.YtdkenobgfgmepaaDoor
open Go Go.RowKit
set_option maxRecDepth 100000 in
set_option maxHeartbeats 16000000 in
theorem sigs_walk {W : World} {aS aM : Option Addr} {nS cS nM cM d : Nat} {sig more : List Fn} {v : Value} {t : Tm} (hS : Row W.heap.size aS nS cS 3 (SigR W W.heap.size sig)) (hn : nS = sig.length) (hM : Row W.heap.size aM nM cM 3 (SigR W W.heap.size more)) (hnM : nM = more.length) (hT : IsT W W.heap.size d v t) (hN : NmOk d t) (hR : RL W) (h0 : 0 < W.heap.size) : Calls Tryd.prog 9 #[.slice aS nS cS, .slice aM nM cM, v] W (VPost (.bool true) W) := by
  obtain ⟨rt, hrt⟩ := rt_ex
  have hTw := hT
  obtain ⟨y0, y1, y2, y3, y4, y5, y6, rfl⟩ := hT.form
  obtain ⟨w0, e0, hb0, hs0, hc0, hh⟩ := box_new W #[y0, y1, y2, y3, y4, y5, y6] 26
  have HAll : Hid (∀ V, Below w0.heap.size w0 V → (V.cell? ⟨W.heap.size, 0, none⟩ = some y0 ∧ V.cell? ⟨W.heap.size, 1, none⟩ = some y1 ∧ V.cell? ⟨W.heap.size, 2, none⟩ = some y2 ∧ V.cell? ⟨W.heap.size, 3, none⟩ = some y3 ∧ V.cell? ⟨W.heap.size, 4, none⟩ = some y4 ∧ V.cell? ⟨W.heap.size, 5, none⟩ = some y5 ∧ V.cell? ⟨W.heap.size, 6, none⟩ = some y6) ∧ Below W.heap.size W V ∧ IsT V W.heap.size d (.agg #[y0, y1, y2, y3, y4, y5, y6]) t ∧ Row W.heap.size aS nS cS 3 (SigR V W.heap.size sig) ∧ RL V ∧ Row W.heap.size aM nM cM 3 (SigR V W.heap.size more)) := fun V h => by
    have hq : W.heap.size < w0.heap.size := by omega
    have hbW : Below W.heap.size W V := hb0.trans (h.mono (by omega))
    exact ⟨⟨(h.cell (p := ⟨W.heap.size, 0, none⟩) hq).trans (hc0 0 _ rfl), (h.cell (p := ⟨W.heap.size, 1, none⟩) hq).trans (hc0 1 _ rfl), (h.cell (p := ⟨W.heap.size, 2, none⟩) hq).trans (hc0 2 _ rfl), (h.cell (p := ⟨W.heap.size, 3, none⟩) hq).trans (hc0 3 _ rfl), (h.cell (p := ⟨W.heap.size, 4, none⟩) hq).trans (hc0 4 _ rfl), (h.cell (p := ⟨W.heap.size, 5, none⟩) hq).trans (hc0 5 _ rfl), (h.cell (p := ⟨W.heap.size, 6, none⟩) hq).trans (hc0 6 _ rfl)⟩, hbW, hTw.more hbW (Nat.le_refl _) (Nat.le_refl _), hS.belowS hbW, hR.below hbW h0, hM.belowS hbW⟩
  have HE := hide e0
  have HI := hide (And.intro hN (And.intro hrt (And.intro hn hnM)))
  have HH0 := hide h0
  have HK := hide (known_any (w := w0) (unhide HAll w0 (Below.refl _ _)).2.2.2.2.1 (by omega))
  have hmS : nS ≤ 281474976710656 := hS.2.1
  have hmM : nM ≤ 281474976710656 := hM.2.1
  clear hT hTw hS hn hM hnM hN hR hrt e0 hb0 hs0 hc0 hh h0
  go_enter Tryd.func9, Tryd.ntmps9
  go_wp2_with fail
  rw [unhide HE]
  refine (unhide HK).mono ?_
  rintro e w1 ⟨rfl, hb1⟩
  obtain ⟨⟨k0, k1, k2, k3, k4, k5, k6⟩, hbw1, hI1, hS1, hR1, _⟩ := unhide HAll w1 hb1
  have HB1 := hide hb1
  have HBw1 := hide hbw1
  have hTl := hI1.boxed hbw1.size
  obtain ⟨A, eA, hbA, hsA, hcA, hhA⟩ := box_new w1 #[y0, y1, y2, y3, y4, y5, y6] 26
  rw [eA] at hTl
  have HL := hide (light_any 200 (by omega) (B := w1.heap.size + 1) (d := d + 1) (n := 1) (cap := 1) (a0 := some ⟨w1.heap.size, 0, none⟩) (l := [t]) (w := A) ⟨Nat.le_refl _, by omega, fun _ => ⟨w1.heap.size, 0, rfl, by omega, fun j hj u hu => by
    obtain rfl : j = 0 := by omega
    have : t = u := by simpa using hu
    rw [← this]
    exact hTl⟩⟩ rfl (by omega))
  have HEA := hide eA
  have HBA := hide hbA
  clear hb1 hbw1 hI1 hS1 hR1 hTl eA hbA hsA hcA hhA HK
  go_wp2_with fail
  rw [unhide HEA]
  refine (unhide HL).mono ?_
  rintro e w2 ⟨bl, rfl, hbl, hb2⟩
  have hb02 : Below w0.heap.size w0 w2 := (unhide HB1).trans (((unhide HBA).trans (hb2.mono (unhide HBA).size)).mono (unhide HB1).size)
  obtain ⟨⟨l0, l1, l2, l3, l4, l5, l6⟩, hbw2, hI2, hS2, hR2, hM2⟩ := unhide HAll w2 hb02
  have HBl := hide hbl
  have HB2 := hide hb02
  have HBw2 := hide hbw2
  have HI2 := hide (And.intro hS2 hM2)
  clear hb2 hbl hb02 hbw2 hI2 hS2 hR2 hM2 HL k0 k1 k2 k3 k4 k5 k6 l0 l1 l2 l3 l4 l5 l6
  have hwr : IntKind.i64.wrap ((nS : Int) + (nM : Int)) = ((nS + nM : Nat) : Int) := by simp only [IntKind.wrap_i64]; omega
  cases bl with
  | false =>
    go_wp2
    go_ret
    exact ⟨rfl, unhide HBw2⟩
  | true =>
    by_cases h60 : 60 < nS + nM
    · have g : decide ((60 : Int) < ((nS + nM : Nat) : Int)) = true := by simp; omega
      have g2 : decide ((60 : Int) < (nS : Int) + (nM : Int)) = true := by simp; omega
      clear h60
      go_wp2
      go_ret
      exact ⟨rfl, unhide HBw2⟩
    · have g : decide ((60 : Int) < ((nS + nM : Nat) : Int)) = false := by simp; omega
      have g2 : decide ((60 : Int) < (nS : Int) + (nM : Int)) = false := by simp; omega
      obtain ⟨hwl, hlt⟩ := unhide HBl rfl
      have hwt : t.wt ≤ 200 := by simpa using hwl
      have hLt : Lt 61 t := hlt t (by simp)
      obtain ⟨hN, hrt, hn, hnM⟩ := unhide HI
      have hO1 : OkT (PC rt) 301 t := okT_of (fun s hs => (hrt s (by omega)).1) (by omega) (by omega) hLt hN
      have hO2 : OkT (RtC rt) 301 t := okT_of (fun s hs => (hrt s (by omega)).2) (by omega) (by omega) hLt hN
      obtain ⟨v1, w1', a2, c2, w3, r1, r2, hJ, hb23⟩ := join_funs (unhide HI2).1 hn (unhide HI2).2 hnM (unhide HBw2).size (by omega)
      have hb03 : Below w0.heap.size w0 w3 := (unhide HB2).trans (hb23.mono (unhide HB2).size)
      obtain ⟨p, hp⟩ : ∃ p, t.check rt (sig ++ more) = p := ⟨_, rfl⟩
      obtain ⟨q, hq⟩ : ∃ p, t.check rt sig = p := ⟨_, rfl⟩
      have hpq : q.2 = 0 → p = q := fun h => by rw [← hp, ← hq]; exact check_more more (by rw [hq]; exact h)
      have hall : ∀ V, Below w3.heap.size w3 V → Below w0.heap.size w0 V ∧ Calls Tryd.prog 14 #[.slice a2 (nS + nM) c2, .agg #[y0, y1, y2, y3, y4, y5, y6]] V (VPost (pairV p) V) ∧ Calls Tryd.prog 15 #[.slice a2 (nS + nM) c2, .agg #[y0, y1, y2, y3, y4, y5, y6]] V (VPost (pairV p) V) ∧ Calls Tryd.prog 14 #[.slice aS nS cS, .agg #[y0, y1, y2, y3, y4, y5, y6]] V (VPost (pairV q) V) := fun V hV => by
        have hb0V : Below w0.heap.size w0 V := hb03.trans (hV.mono hb03.size)
        obtain ⟨_, hbwV, hIV, hSV, hRV, _⟩ := unhide HAll V hb0V
        obtain ⟨_, hbw3, _⟩ := unhide HAll w3 hb03
        have hI' := (hIV.lower (m := 300) (by omega)).more (Below.refl _ _) hbw3.size (Nat.le_refl _)
        refine ⟨hb0V, ?_, ?_, ?_⟩
        · rw [← hp]
          exact Check_any (rt := rt) (B := w3.heap.size) (d := 300) hI' ((hJ.belowS hV)) (by simp; omega) hV.size (by have := unhide HH0; have := hbw3.size; omega) hRV hO1 (by omega)
        · rw [← hp]
          exact CheckD_any (rt := rt) (B := w3.heap.size) (d := 300) hI' ((hJ.belowS hV)) (by simp; omega) hV.size hO2 (by omega)
        · rw [← hq]
          exact Check_any (rt := rt) (d := 300) (hIV.lower (by omega)) hSV hn hbwV.size (unhide HH0) hRV hO1 (by omega)
      have HA := hide hall
      have R1 := hide r1
      have R2 := hide r2
      have HPQ := hide hpq
      have HB3 := hide hb03
      clear h60 hwl hlt hwt hLt hN hrt hn hnM hO1 hO2 hp hq hpq hall r1 r2 hJ hb23 hb03
      obtain ⟨⟨k0, k1, k2, k3, k4, k5, k6⟩, hbw3, _⟩ := unhide HAll w3 (unhide HB3)
      have HBw3 := hide hbw3
      have hc1 := (unhide HA w3 (Below.refl _ _)).2.1
      have HC1 := hide hc1
      clear hbw3 hc1
      go_wp2_with (first
        | (at_builtin; refine app_run _ _ _ rfl rfl rfl rfl (unhide R1) ?_; clear R1)
        | (at_builtin; refine app_run _ _ _ rfl rfl rfl rfl (unhide R2) ?_; clear R2))
      refine (unhide HC1).mono ?_
      rintro e w4 ⟨rfl, hb4⟩
      obtain ⟨hb04, _, hc2, _⟩ := unhide HA w4 hb4
      obtain ⟨⟨l0, l1, l2, l3, l4, l5, l6⟩, _⟩ := unhide HAll w4 hb04
      have HB4 := hide hb4
      have HC2 := hide hc2
      clear hb4 hb04 hc2 HC1 k0 k1 k2 k3 k4 k5 k6 g g2
      unfold pairV
      go_wp2_with fail
      refine (unhide HC2).mono ?_
      rintro e w5 ⟨rfl, hb5⟩
      have hb35 := (unhide HB4).trans (hb5.mono (unhide HB4).size)
      obtain ⟨hb05, _, _, hc3⟩ := unhide HA w5 hb35
      obtain ⟨⟨m0, m1, m2, m3, m4, m5, m6⟩, hbw5, _⟩ := unhide HAll w5 hb05
      have HC3 := hide hc3
      have HBw5 := hide hbw5
      clear hb5 hb35 hb05 hc3 HC2 hbw5 l0 l1 l2 l3 l4 l5 l6
      unfold pairV
      obtain ⟨ps, pe⟩ := p
      go_wp2_with fail
      refine (unhide HC3).mono ?_
      rintro e w6 ⟨rfl, hb6⟩
      have HBw6 := hide ((unhide HBw5).trans (hb6.mono (unhide HBw5).size))
      clear hb6 HC3 m0 m1 m2 m3 m4 m5 m6
      unfold pairV
      obtain ⟨qs, qe⟩ := q
      by_cases hqe : qe = 0
      · have hx := unhide HPQ hqe
        injection hx with hx1 hx2
        subst hqe hx1 hx2
        clear HPQ
        go_wp2
        go_ret
        exact ⟨rfl, unhide HBw6⟩
      · have g : (qe != 0) = true := by simp [hqe]
        clear hqe HPQ
        go_wp2
        go_ret
        exact ⟨rfl, unhide HBw6⟩
end Go.Proofs.YtdkenobgfgmepaaDoor
