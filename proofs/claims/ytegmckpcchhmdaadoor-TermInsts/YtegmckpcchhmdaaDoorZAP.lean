/- Ground applications in a term. -/
import Derived.Test.YtegmckpcchhmdaaDoorZAO
import Derived.Maps.AppendAt
set_option linter.unusedVariables false
set_option linter.unusedSimpArgs false

/- The collector: lists. -/
namespace Go.Proofs.YtegmckpcchhmdaaDoor
open Go Go.RowKit
def szs (l : List Tm) : Nat := (l.map Tm.size).sum
theorem szs_take {l : List Tm} {i : Nat} (h : i < l.length) : szs (l.take (i + 1)) = szs (l.take i) + l[i].size := by
  unfold szs
  rw [take_more h, List.map_append, List.sum_append]
  simp
theorem szs_le (l : List Tm) (i : Nat) : szs (l.take i) ≤ szs l := by
  unfold szs
  rw [List.map_take]
  exact sum_take_le _ i
def GTermC (D d : Nat) : Prop := ∀ (B rc : Nat) (w : World) (b o : Nat) (t : Tm) (u : Nat) (TT : List Tm) (LL : List (List Tm)), TmS w B d b o t → COx w B D rc TT LL → u + d ≤ 65536 → LL.length + t.size ≤ 1000000 → TT.length + t.size ≤ 1000000 → t.wt ≤ 400000 →
    Calls Tryd.prog 49 #[.pointer (some ⟨rc, 0, none⟩), .pointer (some ⟨b, o, none⟩), .int .i64 u] w fun e w' => ∃ LL' x, e = .returned (.int .i64 x) ∧ COx w' B D rc (insAll t.gs TT) LL' ∧ LL <+: LL' ∧ LL'.length + 1 ≤ LL.length + t.size ∧ NumT (insAll t.gs TT) t x ∧ Below B w w'
def GListC (D d : Nat) : Prop := ∀ (B rc : Nat) (w : World) (a : Option Addr) (n c : Nat) (l : List Tm) (u : Nat) (TT : List Tm) (LL : List (List Tm)), RowP (LT B) a n c 7 (fun b o j => ∀ t, l[j]? = some t → TmS w B d b o t) → n = l.length → COx w B D rc TT LL → u + d ≤ 65536 → LL.length + szs l ≤ 1000000 → TT.length + szs l ≤ 1000000 → lwt l ≤ 400000 →
    Calls Tryd.prog 67 #[.pointer (some ⟨rc, 0, none⟩), .slice a n c, .int .i64 u] w fun e w' => ∃ LL' x, e = .returned (.int .i64 x) ∧ COx w' B D rc (insAll (gsL l) TT) LL' ∧ LL <+: LL' ∧ LL'.length ≤ LL.length + szs l ∧ NumL LL' l x ∧ Below B w w'
theorem CO.set4 {w : World} {B D rc m1 m2 m3 : Nat} {av : Value} {e1 : List ((Int × ByteArray × ByteArray × Int × Int) × Value)} {e2 : List ((Int × Int) × Value)} {e3 : List ((Nat × Nat × Int) × Value)} {ps : List (Nat × Nat)} {AA TT : List Tm} {LL : List (List Tm)} (h : CO w B D rc m1 m2 m3 av e1 e2 e3 ps AA TT LL) : CO (w.setCell ⟨rc, 4, none⟩ (.bool false)) B D rc m1 m2 m3 av e1 e2 e3 ps AA TT LL := by
  have hb : Below B w (w.setCell ⟨rc, 4, none⟩ (.bool false)) := (Below.refl B w).setCell (p := ⟨rc, 4, none⟩) h.br _
  have hk : ∀ k, k ≠ rc → (w.setCell ⟨rc, 4, none⟩ (.bool false)).heap[k]? = w.heap[k]? := fun k hk => Below.heap_setCell w ⟨rc, 4, none⟩ _ k hk
  refine ⟨(set_block h.cc _).trans rfl, h.br, h.b1, h.b2, h.b3, h.n12, h.n13, h.n23, h.g1.same (hk m1 (Ne.symm (h.g1.noCells h.cc))), h.g2.same (hk m2 (Ne.symm (h.g2.noCells h.cc))), h.g3.same (hk m3 (Ne.symm (h.g3.noCells h.cc))), h.ci, h.kn.below hb, own_kept h.ow (fun g cs e => hk g (fun e' => ?_)), h.ar.below hb⟩
  rw [e', h.cc] at e
  injection e with e
  injection e with _ e
  revert e
  decide
/-- A list that lies here, and whose number is known. -/
theorem KN.found {w : World} {B D d : Nat} {TT : List Tm} {LL : List (List Tm)} {e3 : List ((Nat × Nat × Int) × Value)} {b o : Nat} {l : List Tm} {v : Value} (h : KN w B D TT LL e3) (hl : ∀ (j : Nat) u, l[j]? = some u → TmAt w B d b (o + j * 7) u) (hv : lookG (b, o, (l.length : Int)) e3 = some v) : ∃ x, v = .int .i64 x ∧ NumL LL l x ∧ ∀ y ∈ gsL l, y ∈ TT := by
  obtain ⟨m, h1, _, _, _, h5, ⟨x, h6, h7⟩, h8⟩ := h _ (lookG_mem hv)
  simp only at h1 h5 h6
  have hlm : l.length = m.length := by omega
  have e : l = m := List.ext_getElem hlm fun j g1 g2 => (hl j _ (List.getElem?_eq_getElem g1)).det (h5 j _ (List.getElem?_eq_getElem g2))
  subst e
  exact ⟨x, h6, h7, h8⟩
theorem NumL.snoc {LL LL' : List (List Tm)} {TT : List Tm} {l : List Tm} {i : Nat} {x y : Int} (hi : i < l.length) (h : NumL LL (l.take i) x) (k : NumT TT l[i] y) (hn : x = -1 ∨ y = -1) : NumL LL' (l.take (i + 1)) (-1) := by
  refine .inr ⟨?_, rfl⟩
  rw [take_more hi, List.all_append]
  rcases hn with rfl | rfl
  · rcases h with ⟨_, j, h, _⟩ | ⟨h, _⟩
    · omega
    · rw [h]; rfl
  · rcases k with ⟨_, j, h, _⟩ | ⟨h, _⟩
    · omega
    · simp [h]
theorem NumL.more {LL LL2 LL' : List (List Tm)} {TT : List Tm} {l : List Tm} {i : Nat} {x y : Int} (hi : i < l.length) (h : NumL LL (l.take i) x) (k : NumT TT l[i] y) (hx : x ≠ -1) (hy : y ≠ -1) (hp : LL <+: LL2) : ∃ j q : Nat, x = j ∧ y = q ∧ isL LL2 ((l.take i).map Tm.inst0) j ∧ TT[q]? = some l[i].inst0 ∧ ∀ j', isL LL' ((l.take i).map Tm.inst0 ++ [l[i].inst0]) j' → NumL LL' (l.take (i + 1)) (j' : Int) := by
  rcases h with ⟨h1, j, rfl, h2⟩ | ⟨_, h⟩
  · rcases k with ⟨k1, q, rfl, k2⟩ | ⟨_, k⟩
    · refine ⟨j, q, rfl, rfl, h2.mono hp, k2, fun j' hj' => .inl ⟨?_, j', rfl, ?_⟩⟩
      · rw [take_more hi, List.all_append, h1]
        simp [k1]
      · rw [take_more hi, List.map_append]
        exact hj'
    · exact absurd k hy
  · exact absurd h hx
set_option maxRecDepth 1000000 in
set_option maxHeartbeats 16000000 in
theorem glist_of {D d : Nat} (hdD : d ≤ D) (ih : GTermC D d) : GListC D d := by
  intro B rc w a n c l u TT LL hR hn hC hu hL1 hT1' hwt
  have hmax : n ≤ 281474976710656 := hR.2.1
  by_cases h0 : n = 0
  · subst h0
    have hl : l = [] := List.length_eq_zero_iff.1 hn.symm
    subst hl
    have HC := hide hC
    clear hR hn hC ih hL1 hT1'
    go_enter Tryd.func67, Tryd.ntmps67
    go_wp2
    go_ret
    exact ⟨LL, 0, rfl, unhide HC, List.prefix_refl _, by omega, .inl ⟨rfl, 0, rfl, .inl ⟨rfl, rfl⟩⟩, Below.refl _ _⟩
  have hpos : 0 < n := by omega
  have d0 : ((n : Int) == 0) = false := by simp; omega
  obtain ⟨b, off, rfl, hbB, hj⟩ := hR.2.2 h0
  have hbB : b < B := hbB
  have hjl : ∀ (j : Nat) t, l[j]? = some t → TmS w B d b (off + j * 7) t := fun j t ht => hj j (by have := (List.getElem?_eq_some_iff.1 ht).1; omega) t ht
  obtain ⟨m1, m2, m3, av, e1, e2, e3, ps, h⟩ := hC
  have hB := h.bw
  obtain ⟨ds, K⟩ := kok3
  have hpl : Clear w b := by
    have hl0 : 0 < l.length := by omega
    have := hjl 0 _ (List.getElem?_eq_getElem hl0)
    cases d with
    | zero => exact this.elim
    | succ d =>
      obtain ⟨_, _, _, _, _, _, _, _, _, _, _, _, _, hp⟩ := this
      exact hp
  have HSS : Hid (∀ w', Below w.heap.size w w' → (Below w.heap.size w w' ∧ w'.cell? ⟨rc, 2, none⟩ = some (.map (some m3)) ∧ (Instr.lookup 128 (.map (some m3)) (.agg #[.pointer (some ⟨b, off, none⟩), .int .i64 (n : Int)]) true).run Tryd.prog w' = .ok (.tuple #[(lookG (b, off, (n : Int)) e3).getD (.int .i64 0), .bool (lookG (b, off, (n : Int)) e3).isSome]) w')) := fun w' hb => by
    have h' := h.grow hb
    refine ⟨hb, (blk h'.cc).2.1 2 _ rfl, gm_lookup K (k := (b, off, (n : Int))) um3 (zI w') h'.g3 (fun p hp => ?_)⟩
    obtain ⟨_, _, _, _, hp4, _⟩ := h'.kn p hp
    exact keq3 (hpl.below (Nat.lt_of_lt_of_le hbB hB) hb) hp4
  obtain ⟨_, s1, s2⟩ := unhide HSS w (Below.refl _ w)
  have hmax2 : n ≤ 9223372036854775807 := by omega
  cases hlk : lookG (b, off, (n : Int)) e3 with
  | some v =>
    obtain ⟨x, rfl, hNx, hgs⟩ := h.kn.found (fun j t ht => (hjl j t ht).tm) (by rw [← hn]; exact hlk)
    rw [hlk] at HSS s2
    simp only [Option.getD_some, Option.isSome_some] at HSS s2
    have HF := hide (And.intro h (And.intro hNx (And.intro hgs hB)))
    clear hR hn ih hL1 hT1' hj hjl h K hpl hlk hNx hgs hbB hB
    go_enter Tryd.func67, Tryd.ntmps67
    go_wp2
    go_region_held3 (fun w' => Below w.heap.size w w' ∧ w'.cell? ⟨rc, 2, none⟩ = some (.map (some m3)) ∧ (Instr.lookup 128 (.map (some m3)) (.agg #[.pointer (some ⟨b, off, none⟩), .int .i64 (n : Int)]) true).run Tryd.prog w' = .ok (.tuple #[.int .i64 x, .bool true]) w') (first | assumption | exact unhide HSS _ hT1 | exact unhide HSS _ (keep0 _)) ((go_at_call 76; refine (keyOf_any b off n c _ hpos hmax2).mono ?_; rintro e v1 ⟨rfl, hv1⟩; have hT1 : Below w.heap.size w v1 := keepC (by assumption) hv1))
    all_goals
      have HT1 := hide hT1
      clear hT1
      go_wp2
      go_ret
      obtain ⟨h, hNx, hgs, hB⟩ := unhide HF
      refine ⟨LL, x, rfl, ?_, List.prefix_refl _, by omega, hNx, (unhide HT1).mono hB⟩
      rw [insAll_in hgs]
      exact ⟨m1, m2, m3, av, e1, e2, e3, ps, h.grow (unhide HT1)⟩
  | none =>
    rw [hlk] at HSS s2
    simp only [Option.getD_none, Option.isSome_none] at HSS s2
    have HF := hide (And.intro h (And.intro hB (And.intro hL1 (And.intro hT1' (And.intro hjl (And.intro hbB hpl))))))
    have HIH := hide ih
    have HN := hide hn
    have hd2 : decide ((65536 : Int) < (u : Int)) = false := by simp; omega
    clear hR hn ih hL1 hT1' hj hjl h K hpl hlk hB
    go_enter Tryd.func67, Tryd.ntmps67
    go_wp2
    go_region_held3 (fun w' => Below w.heap.size w w' ∧ w'.cell? ⟨rc, 2, none⟩ = some (.map (some m3)) ∧ (Instr.lookup 128 (.map (some m3)) (.agg #[.pointer (some ⟨b, off, none⟩), .int .i64 (n : Int)]) true).run Tryd.prog w' = .ok (.tuple #[.int .i64 0, .bool false]) w') (first | assumption | exact unhide HSS _ hT1 | exact unhide HSS _ (keep0 _)) ((go_at_call 76; refine (keyOf_any b off n c _ hpos hmax2).mono ?_; rintro e v1 ⟨rfl, hv1⟩; have hT1 : Below w.heap.size w v1 := keepC (by assumption) hv1))
    all_goals
      obtain ⟨h, hB, hL1, hT1', hjl, hbB', hpl⟩ := unhide HF
      have h1 := h.grow hT1
      have c4 : v1.cell? ⟨rc, 4, none⟩ = some (.bool false) := (blk h1.cc).2.1 4 _ rfl
      have cf4 := (blk h1.cc).2.2 4
      obtain ⟨W0, eW0⟩ : ∃ W, v1.setCell ⟨rc, 4, none⟩ (.bool false) = W := ⟨_, rfl⟩
      have H0 : Hid (COx W0 B D rc TT LL ∧ Below B w W0) := by
        rw [← eW0]
        exact ⟨⟨m1, m2, m3, av, e1, e2, e3, ps, h1.set4⟩, (hT1.mono hB).setCell (p := ⟨rc, 4, none⟩) h.br _⟩
      clear h hB hL1 hT1' hjl hbB' hpl h1 hT1 s1 s2 HSS
      go_wp2
      clear eW0 c4 cf4
      go_loopw [39, 9] (fun iv nv wr => ∃ (i : Nat) (LL' : List (List Tm)) (x : Int), i ≤ n ∧ iv = .int .i64 (i : Int) ∧ nv = .int .i64 x ∧ COx wr B D rc (insAll (gsL (l.take i)) TT) LL' ∧ LL <+: LL' ∧ LL'.length ≤ LL.length + szs (l.take i) ∧ NumL LL' (l.take i) x ∧ Below B w wr) (fun iv _ _ => (n - (intOf iv).toNat))
      case atStart => exact ⟨0, LL, 0, Nat.zero_le _, rfl, rfl, (unhide H0).1, List.prefix_refl _, by omega, .inl ⟨rfl, 0, rfl, .inl ⟨rfl, rfl⟩⟩, (unhide H0).2⟩
      case round =>
        obtain ⟨i, LL', x, hi, rfl, rfl, hCi, hpi, hli, hNi, hbi⟩ := hrel
        have c4 : wr.cell? ⟨rc, 4, none⟩ = some (.bool false) := by
          obtain ⟨_, _, _, _, _, _, _, _, hc⟩ := hCi
          exact (blk hc.cc).2.1 4 _ rfl
        by_cases hlt : i < n
        · have hil : i < l.length := by have := unhide HN; omega
          have hdi : decide ((i : Int) < (n : Int)) = true := by simp; omega
          have hIi : (i : Int) < (n : Int) := by omega
          have hcap : (i : Int) < 281474976710656 := by omega
          obtain ⟨h, hB, hL1, hT1', hjl, hbB', hpl⟩ := unhide HF
          have hsz := szs_take hil
          have hsl := szs_le l (i + 1)
          have hTl := insAll_len (gsL (l.take i)) TT
          have hgl := gsL_len (l.take i)
          have hTi := (hjl i _ (List.getElem?_eq_getElem hil)).more hbi (Nat.le_refl _) (Nat.le_refl _)
          have HCa := hide (unhide HIH B rc wr b (off + i * 7) l[i] u _ LL' hTi hCi hu (by omega) (by unfold szs at *; omega) (by have := lwt_more hil; have := lwt_take l (i + 1); omega))
          have HP := hide (And.intro hpi (And.intro hli (And.intro hNi (And.intro hbi hsz))))
          clear hCi hpi hli hNi hbi h hB hL1 hT1' hjl hbB' hpl hsz hsl hTl hgl hTi
          go_wp2_with fail
          refine (unhide HCa).mono ?_
          rintro e w7 ⟨LL2, y, rfl, hC7, hp7, hl7, hN7, hb7⟩
          obtain ⟨hpi, hli, hNi, hbi, hsz⟩ := unhide HP
          rw [← insAll_app, ← gsL_take hil] at hC7 hN7
          by_cases hno : x = -1 ∨ y = -1
          · have HF2 := hide (And.intro hC7 (And.intro (hpi.trans hp7) (And.intro (show LL2.length ≤ LL.length + szs (l.take (i + 1)) by omega) (And.intro (NumL.snoc (LL' := LL2) hil hNi hN7 hno) (hbi.trans hb7)))))
            have HJ := hide (join_no (rc := rc) (w := w7) hno)
            clear hC7 hp7 hl7 hN7 hb7 hpi hli hNi hbi hsz hno c4
            go_wp2_with fail
            refine (unhide HJ).mono ?_
            rintro e w8 ⟨rfl, rfl⟩
            go_wp2
            exact ⟨⟨i + 1, LL2, -1, by omega, rfl, rfl, unhide HF2⟩, by simp only [intOf]; omega⟩
          · obtain ⟨j, q, rfl, rfl, hj1, hq1, hnext⟩ := NumL.more (LL' := LL2) hil hNi hN7 (fun e => hno (.inl e)) (fun e => hno (.inr e)) hp7
            have HJ := hide (join_any hC7 hj1 hq1 (by
              obtain ⟨h, hB, hL1, _⟩ := unhide HF
              have := szs_le l (i + 1)
              omega))
            have HF2 := hide (And.intro (hpi.trans hp7) (And.intro (show LL2.length + 1 ≤ LL.length + szs (l.take (i + 1)) by omega) (And.intro hNi (And.intro hN7 (hbi.trans hb7)))))
            clear hC7 hp7 hl7 hN7 hb7 hpi hli hNi hbi hsz hno c4 hj1 hq1 hnext
            go_wp2_with fail
            refine (unhide HJ).mono ?_
            rintro e w8 ⟨LL3, j3, rfl, hC8, hp8, hl8, hj8, hb8⟩
            obtain ⟨hpi, hli, hNi, hN7, hbi⟩ := unhide HF2
            have HF3 := hide (And.intro hC8 (And.intro (hpi.trans hp8) (And.intro (show LL3.length ≤ LL.length + szs (l.take (i + 1)) by omega) (And.intro (show NumL LL3 (l.take (i + 1)) (j3 : Int) by
              obtain ⟨_, _, _, _, _, _, hx⟩ := NumL.more (LL' := LL3) (LL2 := LL') hil hNi hN7 (by omega) (by omega) (List.prefix_refl _)
              exact hx j3 hj8) (hbi.trans hb8)))))
            clear hC8 hp8 hl8 hj8 hb8 hpi hli hNi hN7 hbi
            go_wp2
            exact ⟨⟨i + 1, LL3, j3, by omega, rfl, rfl, unhide HF3⟩, by simp only [intOf]; omega⟩
        · have hin : i = n := by omega
          have hdi : decide ((i : Int) < (n : Int)) = false := by simp; omega
          have htk : l.take i = l := List.take_of_length_le (by have := unhide HN; omega)
          rw [htk] at hCi hli hNi
          obtain ⟨h, hB, hL1, hT1', hjl, hbB', hpl⟩ := unhide HF
          obtain ⟨k1, k2, k3, kv, f1, f2, f3, qs, hc⟩ := hCi
          have hbw : B ≤ wr.heap.size := hc.bw
          obtain ⟨ds, K⟩ := kok3
          have HAft : Hid (∀ M : World, Below wr.heap.size wr M → ∃ W9, (Instr.mapUpdate 128 (.map (some k3)) (.agg #[.pointer (some ⟨b, off, none⟩), .int .i64 (n : Int)]) (.int .i64 x)).run Tryd.prog M = .ok () W9 ∧ W9.cell? ⟨rc, 2, none⟩ = some (.map (some k3)) ∧ COx W9 B D rc (insAll (gsL l) TT) LL' ∧ Below B w W9) := fun M hM => by
            have hcM := hc.grow hM
            have hwM : Below B w M := hbi.trans (hM.mono hbw)
            have hplM : Clear M b := hpl.below hbB' hwM
            obtain ⟨W9, r1, r2, r3⟩ := gm_update (P := Tryd.prog) K (k := (b, off, (n : Int))) (v := .int .i64 x) um3 hcM.g3 (fun p hp => by
              obtain ⟨_, _, _, _, hp4, _⟩ := hcM.kn p hp
              exact keq3 hplM hp4)
            have h9 := hcM.put3 r2 r3 (fun p hp => by
              rcases putG_mem hp with rfl | hp
              · refine ⟨l, by simp only; rw [unhide HN], fun e => by rw [e] at htk; have := unhide HN; rw [e] at this; simp at this; omega, hbB', hplM, fun j t ht => ((hjl j t ht).more hwM (Nat.le_refl _) hdD).tm, ⟨x, rfl, hNi⟩, fun y hy => (insAll_mem h.ci.bg (gsL_bg l)).1 y hy⟩
              · exact hcM.kn p hp)
            exact ⟨W9, r1, (blk h9.cc).2.1 2 _ rfl, ⟨k1, k2, k3, kv, f1, f2, _, qs, h9⟩, hwM.trans (PutAt.bel r2 hcM.b3)⟩
          have HSC : Hid (∀ w', Below wr.heap.size wr w' → (Below wr.heap.size wr w' ∧ w'.cell? ⟨rc, 2, none⟩ = some (.map (some k3)))) := fun w' hb => ⟨hb, (blk (hc.grow hb).cc).2.1 2 _ rfl⟩
          obtain ⟨_, s1⟩ := unhide HSC wr (Below.refl _ wr)
          have HF2 := hide (And.intro hpi (And.intro hli hNi))
          clear hpi hli hNi hbi h hB hL1 hT1' hjl hbB' hpl hc hbw K htk hin c4
          go_wp2
          go_region_held3 (fun w' => w'.cell? ⟨rc, 2, none⟩ = some (.map (some k3))) (first | assumption | exact (unhide HS9) | exact (unhide HSC _ (keep0 _)).2 | exact (unhide HSC _ hT1).2) ((go_at_call 76; refine (keyOf_any b off n c _ hpos hmax2).mono ?_; rintro e v2 ⟨rfl, hv1⟩; have hT1 : Below wr.heap.size wr v2 := (keep0 wr).trans hv1; obtain ⟨W9, hrun, hS9, h10⟩ := unhide HAft v2 hT1; have HS9 := hide hS9; have H10 := hide h10; clear hv1 hS9 h10))
          all_goals
            clear hrun
            go_wp2
            go_ret
            obtain ⟨hpi, hli, hNi⟩ := unhide HF2
            exact ⟨LL', x, rfl, (unhide H10).1, hpi, hli, hNi, (unhide H10).2⟩
end Go.Proofs.YtegmckpcchhmdaaDoor

/- The collector: terms. -/
namespace Go.Proofs.YtegmckpcchhmdaaDoor
open Go Go.RowKit
section
variable {w w' : World} {B D rc m1 m2 m3 : Nat} {av : Value} {e1 : List ((Int × ByteArray × ByteArray × Int × Int) × Value)} {e2 : List ((Int × Int) × Value)} {e3 : List ((Nat × Nat × Int) × Value)} {ps : List (Nat × Nat)} {AA TT : List Tm} {LL : List (List Tm)}
/-- Another number for a term. -/
theorem CO.put1 (h : CO w B D rc m1 m2 m3 av e1 e2 e3 ps AA TT LL) (hp : PutAt m1 w w') {e1' : List ((Int × ByteArray × ByteArray × Int × Int) × Value)} {TT' : List Tm} (hg : GM kv1 w' m1 e1') (hc : CI TT' LL e1' e2) (hT : TT <+: TT') : CO w' B D rc m1 m2 m3 av e1' e2 e3 ps AA TT' LL := by
  have hb : Below B w w' := PutAt.bel hp h.b1
  exact ⟨(hp.block rc (h.g1.noCells h.cc)).trans h.cc, h.br, h.b1, h.b2, h.b3, h.n12, h.n13, h.n23, hg, h.g2.same (hp.block m2 (Ne.symm h.n12)), h.g3.same (hp.block m3 (Ne.symm h.n13)), hc, (h.kn.below hb).mono hT (List.prefix_refl _), own_kept h.ow (fun g cs e => hp.block g (h.g1.noCells e)), h.ar.below hb⟩
theorem own_ty {v : Value} {n g : Nat} {xs : List Value} {ty : TypeId} (h : w.ownsRow B ty 1 v n xs) (hg : v.ownBlock = some g) : B ≤ g ∧ ∃ cs, w.heap[g]? = some (.cells cs ty) := by
  rcases h.2 with ⟨rfl, _⟩ | ⟨g', cap, cur, rfl, h1, h2, _⟩
  · cases hg
  · simp only [Value.ownBlock, Option.some.injEq] at hg
    subst hg
    exact ⟨h1, cur, h2⟩
/-- One application more. -/
theorem CO.app (h : CO w B D rc m1 m2 m3 av e1 e2 e3 ps AA TT LL) {w3 : World} {v' : Value} {b o d : Nat} {t x : Tm} (hg : w.grownBy w3 av.ownBlock) (ho : w3.ownsRow B 50 1 v' (ps.length + 1) (ptrs ps ++ [.pointer (some ⟨b, o, none⟩)])) (hT : TmAt w B d b o t) (hd : d ≤ D) (hx : t.inst0 = x) (hw : t.wt ≤ 400000) :
    CO (w3.setCell ⟨rc, 3, none⟩ v') B D rc m1 m2 m3 v' e1 e2 e3 (ps ++ [(b, o)]) (AA ++ [x]) TT LL ∧ w3.heap[rc]? = some (.cells #[.map (some m1), .map (some m2), .map (some m3), av, .bool false] 130) ∧ Below B w (w3.setCell ⟨rc, 3, none⟩ v') := by
  have hne : ∀ k, k < w.heap.size → (∀ cs, w.heap[k]? ≠ some (.cells cs 50)) → w3.heap[k]? = w.heap[k]? := fun k hk hn => hg.block k hk (fun e => by
    obtain ⟨_, cs, hc⟩ := own_ty h.ow e.symm
    exact hn cs hc)
  have hcc : w3.heap[rc]? = some (.cells #[.map (some m1), .map (some m2), .map (some m3), av, .bool false] 130) := (hne rc h.lt (fun cs e => by
    rw [h.cc] at e
    injection e with e
    injection e with _ e
    revert e
    decide)).trans h.cc
  have hm : ∀ {κ : Type} [DecidableEq κ] {kv : κ → Value} {r : Nat} {es : List (κ × Value)}, GM kv w r es → GM kv (w3.setCell ⟨rc, 3, none⟩ v') r es := fun {κ _ kv r es} hr => by
    refine hr.same ?_
    rw [Below.heap_setCell w3 ⟨rc, 3, none⟩ _ r (Ne.symm (hr.noCells h.cc))]
    exact hne r hr.lt (fun cs e => absurd rfl (hr.noCells e))
  have hb3 : Below B w w3 := ⟨hg.os, hg.tape, hg.output, hg.size, fun k hk => hg.block k (by have := h.bw; omega) (fun e => by
    have := (own_ty h.ow e.symm).1
    omega)⟩
  have hb : Below B w (w3.setCell ⟨rc, 3, none⟩ v') := hb3.setCell (p := ⟨rc, 3, none⟩) h.br _
  refine ⟨⟨(set_block hcc _).trans rfl, h.br, h.b1, h.b2, h.b3, h.n12, h.n13, h.n23, hm h.g1, hm h.g2, hm h.g3, h.ci, h.kn.below hb, ?_, ?_⟩, hcc, hb⟩
  · have e : ptrs (ps ++ [(b, o)]) = ptrs ps ++ [.pointer (some ⟨b, o, none⟩)] := by simp [ptrs]
    rw [e, List.length_append]
    refine own_kept ho (fun g cs e => Below.heap_setCell w3 ⟨rc, 3, none⟩ _ g (fun e' => ?_))
    rw [e', hcc] at e
    injection e with e
    injection e with _ e
    revert e
    decide
  · refine ⟨by simp [h.ar.1], fun k p y hp hy => ?_⟩
    rcases get_snoc hp with g1 | ⟨g1, rfl⟩
    · rcases get_snoc hy with g2 | ⟨g2, _⟩
      · exact (h.ar.below hb).2 k p y g1 g2
      · have := (List.getElem?_eq_some_iff.1 g1).1
        have := h.ar.1
        omega
    · rcases get_snoc hy with g2 | ⟨_, rfl⟩
      · have := (List.getElem?_eq_some_iff.1 g2).1
        have := h.ar.1
        omega
      · exact ⟨t, hT.more hb (Nat.le_refl _) hd, hx, hw⟩
end
theorem kindOf_app {x : Int} (h : x ≠ 17) : kindOf x ≠ 134 := by
  unfold kindOf
  split
  · decide
  · split
    · decide
    · split
      · decide
      · split
        · decide
        · split <;> decide
theorem infPtr : (Tryd.prog.info? 50).map (fun i => (i.zero, i.size, i.bytes)) = some (some (.pointer none), 1, 8) := by kernel_rfl
theorem tPtrs : Tryd.prog.underlying 77 = some (.slice 50) := by kernel_rfl
theorem isApp_snoc (TT : List Tm) (x : Tm) : (TT ++ [x]).filter isApp = TT.filter isApp ++ if x.op = 17 then [x] else [] := by
  rw [List.filter_append]
  congr 1
  unfold isApp
  by_cases h : x.op = 17 <;> simp [h]
theorem gs_no {t : Tm} (h19 : t.op ≠ 19) (hg : t.ground = false) : t.gs = gsL t.l := by
  rw [Tm.gs_eq, if_neg h19, hg]
  simp
theorem gs_yes {t : Tm} (h19 : t.op ≠ 19) (hg : t.ground = true) : t.gs = gsL t.l ++ [t.inst0] := by
  rw [Tm.gs_eq, if_neg h19, hg]
  simp
set_option maxRecDepth 1000000 in
set_option maxHeartbeats 16000000 in
theorem gterm_of {D d : Nat} (hdD : d + 1 ≤ D) (hL : GListC D d) : GTermC D (d + 1) := by
  intro B rc w b o t u TT LL hT hC hu hL1 hT1 hwt
  have hT0 := hT
  obtain ⟨hb, _, _, aL, aV, aP, cL, cV, cP, hrg, hRL, _, _, _⟩ := hT
  have hb : b < B := hb
  have hBw : B ≤ w.heap.size := by
    obtain ⟨_, _, _, _, _, _, _, _, hc⟩ := hC
    exact hc.bw
  have hbw : b < w.heap.size := by omega
  have c0 : w.cell? ⟨b, o, none⟩ = some (.int .i64 t.op) := hrg 0 _ rfl
  have HV := hide (view_any b o t.op w c0 hbw)
  obtain ⟨n, hn⟩ : ∃ n, t.l.length = n := ⟨_, rfl⟩
  rw [hn] at hRL
  have HG := hide hrg
  have HN := hide hn
  have HI := hide (And.intro hT0 (And.intro hC (And.intro hL1 (And.intro hT1 (And.intro hRL hL)))))
  clear hT0 hC hL1 hT1 hRL hL hrg c0 hn
  by_cases h19 : t.op = 19
  · have hkk : kindOf t.op = 82 := by rw [h19]; rfl
    rw [hkk] at HV
    have ta0 := fun w => ta_yes (ty := 82) (v := .agg #[.pointer (some ⟨b, o, none⟩)]) (w := w) rfl rfl
    have HH := hide h19
    clear hkk h19
    go_enter Tryd.func49, Tryd.ntmps49
    go_wp2_with fail
    refine (unhide HV).mono ?_
    rintro e w1 ⟨rfl, hb1⟩
    have HB1 := hide hb1
    clear hb1
    go_wp2
    go_ret
    obtain ⟨hT0, hC, hL1, hT1, hRL, hL⟩ := unhide HI
    have h19 := unhide HH
    have hgs : t.gs = [] := by rw [Tm.gs_eq, if_pos h19]
    have hgr : t.ground = false := by rw [Tm.ground_eq, h19]; rfl
    have hbb : Below w.heap.size w (w1.alloc (.cells #[.pointer (some ⟨b, o, none⟩)] 82)) := (unhide HB1).alloc (unhide HB1).size _
    rw [hgs]
    obtain ⟨m1, m2, m3, av, e1, e2, e3, ps, hc⟩ := hC
    have hpos : 0 < t.size := by rw [t.size_eq]; omega
    exact ⟨LL, -1, rfl, ⟨m1, m2, m3, av, e1, e2, e3, ps, hc.grow hbb⟩, List.prefix_refl _, by omega, .inr ⟨hgr, rfl⟩, hbb.mono hBw⟩
  have hk19 : kindOf t.op ≠ 82 := kindOf_all h19
  have ta0 := fun w => ta_no (ty := 82) (v := .agg #[.pointer (some ⟨b, o, none⟩)]) (z := .agg #[.pointer none]) (w := w) hk19 rfl rfl (by go_simp)
  have HH := hide h19
  obtain ⟨kk, ekk⟩ : ∃ kk, kindOf t.op = kk := ⟨_, rfl⟩
  have HKK := hide ekk
  rw [ekk] at HV ta0
  clear hk19 h19 ekk
  go_enter Tryd.func49, Tryd.ntmps49
  go_wp2_with fail
  refine (unhide HV).mono ?_
  rintro e w1 ⟨rfl, hb1⟩
  obtain ⟨A, eA, hbA, hsA, hcA, hhA⟩ := box_new w1 #[.pointer none] 82
  have hbA0 : Below w.heap.size w A := hb1.trans (hbA.mono hb1.size)
  have a4 : ∀ x, (w1.alloc x).cell? ⟨b, o + 4, none⟩ = some (.slice aL n cL) := fun x => by
    rw [← unhide HN]
    exact ((hb1.alloc hb1.size x).cell (p := ⟨b, o + 4, none⟩) hbw).trans (unhide HG 4 _ rfl)
  have HLi : Hid (Calls Tryd.prog 67 #[.pointer (some ⟨rc, 0, none⟩), .slice aL n cL, .int .i64 ((u + 1 : Nat) : Int)] A fun e w' => ∃ LL' x, e = .returned (.int .i64 x) ∧ COx w' B D rc (insAll (gsL t.l) TT) LL' ∧ LL <+: LL' ∧ LL'.length ≤ LL.length + szs t.l ∧ NumL LL' t.l x ∧ Below B A w') := by
    obtain ⟨hT0, ⟨m1, m2, m3, av, e1, e2, e3, ps, hc⟩, hL1, hT1, hRL, hL⟩ := unhide HI
    have hsz : t.size = 1 + szs t.l := t.size_eq
    exact hL B rc A aL n cL t.l (u + 1) TT LL (hRL.imp (fun _ h => h) fun _ _ _ _ h x hx => TmS.more (h x hx) (hbA0.mono hBw) (Nat.le_refl _) (Nat.le_refl _)) (unhide HN).symm ⟨m1, m2, m3, av, e1, e2, e3, ps, hc.grow hbA0⟩ (by omega) (by omega) (by omega) (by rw [t.wt_eq] at hwt; unfold lwt; omega)
  have HA := hide hbA0
  have HEA := hide eA
  clear hb1 hbA hsA hcA hhA hbA0 HV eA
  go_wp2_with fail
  rw [unhide HEA]
  rw [show ((u : Int) + 1) = ((u + 1 : Nat) : Int) by omega]
  refine (unhide HLi).mono ?_
  rintro e w5 ⟨LL', x, rfl, hC5, hp5, hl5, hN5, hb5⟩
  have hb05 : Below B w w5 := ((unhide HA).mono hBw).trans hb5
  have H5 := hide (And.intro hC5 (And.intro hp5 (And.intro hl5 (And.intro hN5 hb05))))
  have hB5 : B ≤ w5.heap.size := by
    obtain ⟨_, _, _, _, _, _, _, _, hc⟩ := hC5
    exact hc.bw
  clear hC5 hp5 hl5 hN5 hb5 hb05 a4 HLi HA HEA ta0
  by_cases h18 : t.op = 18
  · have hkk : kk = 101 := by rw [← unhide HKK, h18]; rfl
    subst hkk
    have ta1 := fun w => ta_yes (ty := 101) (v := .agg #[.pointer (some ⟨b, o, none⟩)]) (w := w) rfl rfl
    have H18 := hide h18
    clear h18
    go_wp2
    go_ret
    obtain ⟨⟨m1, m2, m3, av, e1, e2, e3, ps, hc⟩, hp5, hl5, hN5, hb05⟩ := unhide H5
    have hgr : t.ground = false := by rw [Tm.ground_eq, unhide H18]; rfl
    have hbb := (Below.refl w5.heap.size w5).alloc (Nat.le_refl _) (.cells #[.pointer (some ⟨b, o, none⟩)] 101)
    have hsz : t.size = 1 + szs t.l := t.size_eq
    rw [gs_no (unhide HH) hgr]
    exact ⟨LL', -1, rfl, ⟨m1, m2, m3, av, e1, e2, e3, ps, hc.grow hbb⟩, hp5, by omega, .inr ⟨hgr, rfl⟩, hb05.trans (hbb.mono hB5)⟩
  have hk18 : kk ≠ 101 := by rw [← unhide HKK]; exact kindOf_var h18
  have ta1 := fun w => ta_no (ty := 101) (v := .agg #[.pointer (some ⟨b, o, none⟩)]) (z := .agg #[.pointer none]) (w := w) hk18 rfl rfl (by go_simp)
  have H18 := hide h18
  clear h18 hk18
  by_cases hx : x = -1
  · have hd1 : (x == -1) = true := by simp [hx]
    have HX := hide hx
    clear hx
    go_wp2
    go_ret
    obtain ⟨⟨m1, m2, m3, av, e1, e2, e3, ps, hc⟩, hp5, hl5, hN5, hb05⟩ := unhide H5
    have hgr : t.ground = false := by
      rw [Tm.ground_eq]
      rcases hN5 with ⟨_, j, h, _⟩ | ⟨h, _⟩
      · have := unhide HX
        omega
      · rw [h, Bool.and_false]
    have hbb := (Below.refl w5.heap.size w5).alloc (Nat.le_refl _) (.cells #[.pointer none] 101)
    have hsz : t.size = 1 + szs t.l := t.size_eq
    rw [gs_no (unhide HH) hgr]
    exact ⟨LL', -1, rfl, ⟨m1, m2, m3, av, e1, e2, e3, ps, hc.grow hbb⟩, hp5, by omega, .inr ⟨hgr, rfl⟩, hb05.trans (hbb.mono hB5)⟩
  have hd1 : (x == -1) = false := by simp [hx]
  obtain ⟨hC5, hp5, hl5, hN5, hb05⟩ := unhide H5
  obtain ⟨hall, j, rfl, hj⟩ : t.l.all Tm.ground = true ∧ ∃ j : Nat, x = j ∧ isL LL' (t.l.map Tm.inst0) j := by
    rcases hN5 with h | ⟨_, h⟩
    · exact h
    · exact absurd h hx
  have hgr : t.ground = true := by
    rw [Tm.ground_iff]
    exact ⟨unhide H18, unhide HH, fun v hv => List.all_eq_true.1 hall v hv⟩
  obtain ⟨C, eC, hbC, hsC, hcC, hhC⟩ := box_new w5 #[.pointer none] 101
  have hb0C : Below B w C := hb05.trans (hbC.mono hB5)
  have hbc := fun k v (hv : (tcells t aL aV aP cL cV cP)[k]? = some v) => (hb0C.cell (p := ⟨b, o + k, none⟩) hb).trans ((unhide HG) k v hv)
  have HLab := hide (labelOf_any (w := C) (b := b) (o := o) (t := t) (hbc 0 _ rfl) (hbc 1 _ rfl) (hbc 2 _ rfl) (hbc 3 _ rfl) (by have := hbC.size; omega))
  rw [unhide HKK] at HLab
  rw [show t.label = .agg #[.int .i64 t.op, .string t.nm, .string t.nu, .int .i64 t.so] from rfl] at HLab
  have hin : t.inst0 = ⟨t.op, t.nm, t.so, t.nu, t.l.map Tm.inst0, [], []⟩ := by rw [Tm.inst0_eq, if_neg (unhide HH), if_neg (unhide HH)]
  have hBG : BG t.inst0 := BG.of hgr
  have hgs := gs_yes (unhide HH) hgr
  rw [hin] at hBG hgs
  have hNT : ∀ (S : List Tm) (i : Nat), S[i]? = some ⟨t.op, t.nm, t.so, t.nu, t.l.map Tm.inst0, [], []⟩ → NumT S t (i : Int) := fun S i h => .inl ⟨hgr, i, rfl, by rw [hin]; exact h⟩
  obtain ⟨S1, eS1⟩ : ∃ S, insAll (gsL t.l) TT = S := ⟨_, rfl⟩
  rw [eS1] at hC5
  have hSl : S1.length ≤ 1000000 := by
    obtain ⟨_, _, _, hT1, _⟩ := unhide HI
    have h1 := insAll_len (gsL t.l) TT
    have h2 := gsL_len t.l
    have h3 : t.size = 1 + (t.l.map Tm.size).sum := t.size_eq
    rw [← eS1]
    omega
  generalize hnm : t.nm = nm at *
  generalize hnu : t.nu = nu at *
  generalize hso : t.so = so at *
  obtain ⟨X, eX⟩ : ∃ X : Tm, ⟨t.op, nm, so, nu, t.l.map Tm.inst0, [], []⟩ = X := ⟨_, rfl⟩
  have HXX := hide eX
  rw [eX] at hBG hNT hgs
  have HGS : Hid (insAll t.gs TT = insAll [X] S1) := by
    unfold Hid
    rw [hgs, insAll_app, eS1]
  have HX := hide (And.intro hBG (And.intro hNT (And.intro hj (And.intro hp5 (And.intro hl5 (And.intro hC5 (And.intro hbC (And.intro hb0C (And.intro hSl hin)))))))))
  have HEC := hide eC
  clear hBG hNT hj hp5 hl5 hC5 hbC hb0C hSl hin hgs hgr hall hN5 hb05 hsC hcC hhC hbc hx eS1 hnm hnu hso eX H5 eC
  go_wp2_with fail
  rw [unhide HEC]
  refine (unhide HLab).mono ?_
  rintro e w6 ⟨rfl, hb6⟩
  obtain ⟨hBG, hNT, hj, hp5, hl5, ⟨m1, m2, m3, av, e1, e2, e3, ps, hc⟩, hbC, hb0C, hSl, hin⟩ := unhide HX
  obtain ⟨V, eV, hbV, hsV, hcV, hhV⟩ := box_new w6 #[.int .i64 t.op, .string nm, .string nu, .int .i64 so, .int .i64 (j : Int)] 165
  have hb5V : Below w5.heap.size w5 V := (hbC.trans (hb6.mono hbC.size)).trans (hbV.mono (Nat.le_trans hbC.size hb6.size))
  have hV := hc.grow hb5V
  have hqlt : w6.heap.size < V.heap.size := by omega
  have hb0V : Below B w V := (hb0C.trans (hb6.mono (by have := hbC.size; omega))).trans (hbV.mono (by have := hbC.size; have := hb6.size; omega))
  obtain ⟨ds, K⟩ := kok1
  have hXl : X.l = t.l.map Tm.inst0 ∧ X.op = t.op ∧ X.name = nm ∧ X.num = nu ∧ X.sort = so := by rw [← unhide HXX]; exact ⟨rfl, rfl, rfl, rfl, rfl⟩
  have hlook := hV.ci.look1 hBG (j := j) (by rw [hXl.1]; exact hj)
  rw [hXl.2.1, hXl.2.2.1, hXl.2.2.2.1, hXl.2.2.2.2] at hlook
  have HSS : Hid (∀ w', Below V.heap.size V w' → (w'.cell? ⟨rc, 0, none⟩ = some (.map (some m1)) ∧ w'.cell? ⟨w6.heap.size, 0, none⟩ = some (.int .i64 t.op) ∧ w'.cell? ⟨w6.heap.size, 1, none⟩ = some (.string nm) ∧ w'.cell? ⟨w6.heap.size, 2, none⟩ = some (.string nu) ∧ w'.cell? ⟨w6.heap.size, 3, none⟩ = some (.int .i64 so) ∧ w'.cell? ⟨w6.heap.size, 4, none⟩ = some (.int .i64 (j : Int)) ∧ (Instr.lookup 126 (.map (some m1)) (.agg #[.int .i64 t.op, .string nm, .string nu, .int .i64 so, .int .i64 (j : Int)]) true).run Tryd.prog w' = .ok (.tuple #[(lookG (t.op, nm, nu, so, (j : Int)) e1).getD (.int .i64 0), .bool (lookG (t.op, nm, nu, so, (j : Int)) e1).isSome]) w')) := fun w' hb' => by
    have h' := hV.grow hb'
    have hq' := (hb'.block _ hqlt).trans hhV
    exact ⟨(blk h'.cc).2.1 0 _ rfl, (blk hq').2.1 0 _ rfl, (blk hq').2.1 1 _ rfl, (blk hq').2.1 2 _ rfl, (blk hq').2.1 3 _ rfl, (blk hq').2.1 4 _ rfl, gm_lookup K (k := (t.op, nm, nu, so, (j : Int))) um1 (zI w') h'.g1 (fun p _ => keq1 w' _ _)⟩
  obtain ⟨s0, s1, s2, s3, s4, s5, s6⟩ := unhide HSS V (Below.refl _ V)
  have hsz : t.size = 1 + szs t.l := t.size_eq
  rcases hlook with ⟨i, hi, hlk⟩ | ⟨hno, hlk⟩
  · rw [hlk] at HSS s6
    simp only [Option.getD_some, Option.isSome_some] at HSS s6
    have HF := hide (And.intro hV (And.intro hi (And.intro hb0V (And.intro hp5 (And.intro hl5 (And.intro (hNT S1 i hi) hsz))))))
    clear hBG hNT hj hp5 hl5 hc hbC hb0C hSl hin hb6 hbV hsV hcV hhV hb5V hV hqlt hb0V K hXl hlk hi hsz HLab
    go_wp2
    clear eV
    go_region_held3 (fun w' => w'.cell? ⟨rc, 0, none⟩ = some (.map (some m1)) ∧ w'.cell? ⟨w6.heap.size, 0, none⟩ = some (.int .i64 t.op) ∧ w'.cell? ⟨w6.heap.size, 1, none⟩ = some (.string nm) ∧ w'.cell? ⟨w6.heap.size, 2, none⟩ = some (.string nu) ∧ w'.cell? ⟨w6.heap.size, 3, none⟩ = some (.int .i64 so) ∧ w'.cell? ⟨w6.heap.size, 4, none⟩ = some (.int .i64 (j : Int)) ∧ (Instr.lookup 126 (.map (some m1)) (.agg #[.int .i64 t.op, .string nm, .string nu, .int .i64 so, .int .i64 (j : Int)]) true).run Tryd.prog w' = .ok (.tuple #[.int .i64 (i : Int), .bool true]) w') (first | assumption | exact unhide HSS _ (keep0 _)) (fail)
    go_wp2
    go_ret
    obtain ⟨hV, hi, hb0V, hp5, hl5, hnt, hsz⟩ := unhide HF
    have hins : insAll [X] S1 = S1 := insAll_in fun y hy => by
      rw [List.mem_singleton.1 hy]
      exact List.mem_of_getElem? hi
    rw [unhide HGS, hins]
    exact ⟨LL', i, rfl, ⟨m1, m2, m3, av, e1, e2, e3, ps, hV.grow (keep0 V)⟩, hp5, by omega, hnt, hb0V.trans ((keep0 V).mono hV.bw)⟩
  · rw [hlk] at HSS s6
    simp only [Option.getD_none, Option.isSome_none] at HSS s6
    have hlen : e1.length = S1.length := hV.ci.t1
    have hVd := hV.grow (keep0 V)
    have hVdd := hVd.grow (keep0 V.drew)
    have hqd : V.drew.heap[w6.heap.size]? = _ := hhV
    have hqdd : V.drew.drew.heap[w6.heap.size]? = _ := hhV
    obtain ⟨W9, hrun, hput, hg9⟩ := gm_update (P := Tryd.prog) K (k := (t.op, nm, nu, so, (j : Int))) (v := .int .i64 (S1.length : Int)) um1 hVdd.g1 (fun p _ => keq1 V.drew.drew _ _)
    rw [putG_new _ _ _ hlk] at hg9
    have hadd := hVdd.ci.add1 hBG (j := j) (by rw [hXl.1]; exact hj) hno
    rw [hXl.2.1, hXl.2.2.1, hXl.2.2.2.1, hXl.2.2.2.2] at hadd
    have h9 := hVdd.put1 hput hg9 hadd (List.prefix_append _ _)
    have hx9 := (hput.block w6.heap.size (hVdd.g1.noCells hqdd)).trans hqdd
    have hln : (Builtin.len_ #[126] 3 #[.map (some m1)]).run Tryd.prog V.drew = .ok (.int .i64 (S1.length : Int)) V.drew := by rw [← hlen]; exact gm_len um1 hVd.g1
    have HS9 : Hid (W9.cell? ⟨rc, 0, none⟩ = some (.map (some m1)) ∧ W9.cell? ⟨w6.heap.size, 0, none⟩ = some (.int .i64 t.op) ∧ W9.cell? ⟨w6.heap.size, 1, none⟩ = some (.string nm) ∧ W9.cell? ⟨w6.heap.size, 2, none⟩ = some (.string nu) ∧ W9.cell? ⟨w6.heap.size, 3, none⟩ = some (.int .i64 so) ∧ W9.cell? ⟨w6.heap.size, 4, none⟩ = some (.int .i64 (j : Int))) := ⟨(blk h9.cc).2.1 0 _ rfl, (blk hx9).2.1 0 _ rfl, (blk hx9).2.1 1 _ rfl, (blk hx9).2.1 2 _ rfl, (blk hx9).2.1 3 _ rfl, (blk hx9).2.1 4 _ rfl⟩
    have HSC : Hid (V.drew.drew.cell? ⟨rc, 0, none⟩ = some (.map (some m1)) ∧ V.drew.drew.cell? ⟨w6.heap.size, 0, none⟩ = some (.int .i64 t.op) ∧ V.drew.drew.cell? ⟨w6.heap.size, 1, none⟩ = some (.string nm) ∧ V.drew.drew.cell? ⟨w6.heap.size, 2, none⟩ = some (.string nu) ∧ V.drew.drew.cell? ⟨w6.heap.size, 3, none⟩ = some (.int .i64 so) ∧ V.drew.drew.cell? ⟨w6.heap.size, 4, none⟩ = some (.int .i64 (j : Int))) := ⟨(blk hVdd.cc).2.1 0 _ rfl, (blk hqdd).2.1 0 _ rfl, (blk hqdd).2.1 1 _ rfl, (blk hqdd).2.1 2 _ rfl, (blk hqdd).2.1 3 _ rfl, (blk hqdd).2.1 4 _ rfl⟩
    obtain ⟨g0, g1, g2, g3, g4, g5⟩ : V.drew.cell? ⟨rc, 0, none⟩ = some (.map (some m1)) ∧ V.drew.cell? ⟨w6.heap.size, 0, none⟩ = some (.int .i64 t.op) ∧ V.drew.cell? ⟨w6.heap.size, 1, none⟩ = some (.string nm) ∧ V.drew.cell? ⟨w6.heap.size, 2, none⟩ = some (.string nu) ∧ V.drew.cell? ⟨w6.heap.size, 3, none⟩ = some (.int .i64 so) ∧ V.drew.cell? ⟨w6.heap.size, 4, none⟩ = some (.int .i64 (j : Int)) := ⟨(blk hVd.cc).2.1 0 _ rfl, (blk hqd).2.1 0 _ rfl, (blk hqd).2.1 1 _ rfl, (blk hqd).2.1 2 _ rfl, (blk hqd).2.1 3 _ rfl, (blk hqd).2.1 4 _ rfl⟩
    have hins : insAll [X] S1 = S1 ++ [X] := insT_out hV.ci.bg hBG hno
    have hb09 : Below B w W9 := ((hb0V.trans ((keep0 V).mono hV.bw)).trans ((keep0 V.drew).mono hVd.bw)).trans (PutAt.bel hput hV.b1)
    have hnt : NumT (S1 ++ [X]) t (S1.length : Int) := hNT _ _ (get_last _ _)
    have hfil := isApp_snoc S1 X
    rw [hXl.2.1] at hfil
    have HGI : Hid (insAll t.gs TT = S1 ++ [X]) := (unhide HGS).trans hins
    obtain ⟨N, hN⟩ : ∃ N, S1.length = N := ⟨_, rfl⟩
    rw [hN] at hln hrun hnt
    simp only [kv1] at hrun
    have hT9 : TmAt W9 B (d + 1) b o t := ((unhide HI).1.more hb09 (Nat.le_refl _) (Nat.le_refl _)).tm
    have HF := hide (And.intro h9 (And.intro hb09 (And.intro hp5 (And.intro hl5 (And.intro hnt (And.intro hsz (And.intro hfil (And.intro hT9 hin))))))))
    have hNN : (N : Int) ≤ 1000000 := by omega
    clear hBG hNT hj hp5 hl5 hc hbC hb0C hSl hin hb6 hbV hsV hcV hhV hb5V hV hqlt hb0V K hXl hlk hsz HLab hlen hVd hVdd hqd hqdd hput hg9 hadd h9 hx9 hins hb09 hnt hfil hT9 hno hN
    go_wp2
    clear eV
    go_region_held3 (fun w' => w'.cell? ⟨rc, 0, none⟩ = some (.map (some m1)) ∧ w'.cell? ⟨w6.heap.size, 0, none⟩ = some (.int .i64 t.op) ∧ w'.cell? ⟨w6.heap.size, 1, none⟩ = some (.string nm) ∧ w'.cell? ⟨w6.heap.size, 2, none⟩ = some (.string nu) ∧ w'.cell? ⟨w6.heap.size, 3, none⟩ = some (.int .i64 so) ∧ w'.cell? ⟨w6.heap.size, 4, none⟩ = some (.int .i64 (j : Int)) ∧ (Instr.lookup 126 (.map (some m1)) (.agg #[.int .i64 t.op, .string nm, .string nu, .int .i64 so, .int .i64 (j : Int)]) true).run Tryd.prog w' = .ok (.tuple #[.int .i64 0, .bool false]) w') (first | assumption | exact unhide HSS _ (keep0 _)) (fail)
    clear s0 s1 s2 s3 s4 s5 s6
    go_wp2
    go_region_held3 (fun w' => w'.cell? ⟨rc, 0, none⟩ = some (.map (some m1)) ∧ w'.cell? ⟨w6.heap.size, 0, none⟩ = some (.int .i64 t.op) ∧ w'.cell? ⟨w6.heap.size, 1, none⟩ = some (.string nm) ∧ w'.cell? ⟨w6.heap.size, 2, none⟩ = some (.string nu) ∧ w'.cell? ⟨w6.heap.size, 3, none⟩ = some (.int .i64 so) ∧ w'.cell? ⟨w6.heap.size, 4, none⟩ = some (.int .i64 (j : Int))) (first | assumption | exact (unhide HS9) | exact (unhide HSC)) (fail)
    clear hrun hln g0 g1 g2 g3 g4 g5 HS9 HSC HSS
    by_cases h17 : t.op = 17
    · have hkk : kk = 134 := by rw [← unhide HKK, h17]; rfl
      subst hkk
      have ta2 := fun w => ta_yes (ty := 134) (v := .agg #[.pointer (some ⟨b, o, none⟩)]) (w := w) rfl rfl
      obtain ⟨A3, eA3, hbA3, hsA3, hcA3, hhA3⟩ := box_new W9 #[.pointer (some ⟨b, o, none⟩)] 134
      obtain ⟨A4, eA4, hbA4, hsA4, hcA4, hhA4⟩ := box_new A3 #[.pointer (some ⟨b, o, none⟩)] 50
      obtain ⟨h9, hb09, hp5, hl5, hnt, hsz, hfil, hT9, hin⟩ := unhide HF
      have hA3 := h9.grow hbA3
      have hA4 := hA3.grow hbA4
      have a3 : A3.cell? ⟨rc, 3, none⟩ = some av := (blk hA3.cc).2.1 3 _ rfl
      have hps : ps.length ≤ 1000000 := by
        have h1 := h9.ar.1
        have h2 : (List.filter isApp S1).length ≤ S1.length := List.length_filter_le _ _
        obtain ⟨_, _, _, _, _, _, _, _, hSl, _⟩ := unhide HX
        omega
      have hnews := cell_one_new A3 (.pointer (some ⟨b, o, none⟩)) 50
      rw [eA4] at hnews
      obtain ⟨i0, hi0, hz0, hz1, hz2⟩ := inf_of infPtr
      have HOW := hide hA4.ow
      have hBA4 : B ≤ A4.heap.size := hA4.bw
      have hsl : ∃ ga na ca, av = .slice ga na ca := by
        rcases h9.ow.2 with ⟨h, _⟩ | ⟨_, _, _, h, _⟩
        · exact ⟨_, _, _, h⟩
        · exact ⟨_, _, _, h⟩
      obtain ⟨ga, na, ca, rfl⟩ := hsl
      have HNW := hide hnews
      have H17 := hide h17
      clear h9 hb09 hp5 hl5 hnt hsz hfil hT9 hin hbA3 hsA3 hcA3 hhA3 hbA4 hsA4 hcA4 hhA4 hA3 hA4 hnews h17
      go_wp2_with (at_builtin; refine wpList_append_own _ rfl _ _ 77 rfl B 50 i0 (.pointer none) 1 8 tPtrs hi0 hz0 hz1 hz2 rfl (by decide) _ _ _ rfl (unhide HOW) ⟨A3.heap.size, 0, none⟩ 1 1 [.pointer (some ⟨b, o, none⟩)] rfl rfl (unhide HNW) ?qc3 ?qc4 ?qc5 hBA4 ?_)
      case qc3 => intro u hu; rw [List.mem_singleton.1 hu]; rfl
      case qc4 => unfold maxLen; omega
      case qc5 => omega
      intro v' w11 hown hgrow hnil
      obtain ⟨h9, hb09, hp5, hl5, hnt, hsz, hfil, hT9, hin⟩ := unhide HF
      have hbA3 : Below W9.heap.size W9 A3 := by rw [← eA3]; exact (Below.refl _ W9).alloc (Nat.le_refl _) _
      have hbA4 : Below A3.heap.size A3 A4 := by rw [← eA4]; exact (Below.refl _ A3).alloc (Nat.le_refl _) _
      have hA4 := (h9.grow hbA3).grow hbA4
      have hb9A : Below B W9 A4 := (hbA3.mono h9.bw).trans (hbA4.mono (h9.grow hbA3).bw)
      obtain ⟨hfin, hcc, hbf⟩ := hA4.app hgrow hown (hT9.more hb9A (Nat.le_refl _) (Nat.le_refl _)) hdD (show t.inst0 = X by rw [hin]; exact unhide HXX) hwt
      obtain ⟨gb, gc, rfl⟩ : ∃ gb gc, v' = .slice gb (ps.length + 1) gc := by
        rcases hown.2 with ⟨_, h⟩ | ⟨g, cap, _, h, _⟩
        · omega
        · exact ⟨_, _, h⟩
      have z3 : w11.cell? ⟨rc, 3, none⟩ = some (.slice ga na ca) := (blk hcc).2.1 3 _ rfl
      have zf3 := (blk hcc).2.2 3
      have HQ := hide (And.intro hfin (hb09.trans (hb9A.trans hbf)))
      clear h9 hb09 hp5 hl5 hnt hsz hfil hT9 hin hbA3 hbA4 hA4 hb9A hfin hcc hbf hown hgrow hnil a3
      go_wp2
      go_ret
      obtain ⟨h9, hb09, hp5, hl5, hnt, hsz, hfil, hT9, hin⟩ := unhide HF
      obtain ⟨hfin, hbf⟩ := unhide HQ
      rw [if_pos (unhide H17)] at hfil
      rw [← hfil] at hfin
      rw [unhide HGI]
      exact ⟨LL', N, rfl, ⟨m1, m2, m3, _, _, e2, e3, _, hfin⟩, hp5, by omega, hnt, hbf⟩
    · have hk17 : kk ≠ 134 := by rw [← unhide HKK]; exact kindOf_app h17
      have ta2 := fun w => ta_no (ty := 134) (v := .agg #[.pointer (some ⟨b, o, none⟩)]) (z := .agg #[.pointer none]) (w := w) hk17 rfl rfl (by go_simp)
      have H17 := hide h17
      clear h17 hk17
      go_wp2
      go_ret
      obtain ⟨h9, hb09, hp5, hl5, hnt, hsz, hfil, hT9, hin⟩ := unhide HF
      have hbb := (Below.refl W9.heap.size W9).alloc (Nat.le_refl _) (.cells #[.pointer none] 134)
      rw [if_neg (unhide H17), List.append_nil] at hfil
      rw [← hfil] at h9
      rw [unhide HGI]
      exact ⟨LL', N, rfl, ⟨m1, m2, m3, av, _, e2, e3, ps, h9.grow hbb⟩, hp5, by omega, hnt, hb09.trans (hbb.mono h9.bw)⟩
theorem gterm_any (D : Nat) : ∀ d, d ≤ D → GTermC D d
  | 0, _ => fun _ _ _ _ _ _ _ _ _ h => h.elim
  | d + 1, h => gterm_of h (glist_of (by omega) (gterm_any D d (by omega)))
end Go.Proofs.YtegmckpcchhmdaaDoor

namespace Go.Proofs.YtegmckpcchhmdaaDoor
open Go Go.RowKit
theorem GM.keepAlloc {κ : Type} [DecidableEq κ] {kv : κ → Value} {w : World} {r : Nat} {es : List (κ × Value)} (h : GM kv w r es) (o : Obj) : GM kv (w.alloc o) r es := h.same (Below.heap_alloc w o r h.lt)
set_option maxRecDepth 1000000 in
set_option maxHeartbeats 16000000 in
theorem groundApps_any {w : World} {B d b o : Nat} {t : Tm} (hT : TmS w B d b o t) (hB : B ≤ w.heap.size) (hd : d ≤ 65536) (hs : t.size ≤ 1000000) (hwt : t.wt ≤ 400000) :
    Calls Tryd.prog 33 #[.pointer (some ⟨b, o, none⟩)] w fun e w' => ∃ av ps, e = .returned av ∧ w'.ownsRow w.heap.size 50 1 av ps.length (ptrs ps) ∧ AR w' w.heap.size d ps ((insAll t.gs []).filter isApp) ∧ Below w.heap.size w w' := by
  have k1 : ∀ w : World, (Instr.makeMap 126 none).run Tryd.prog w = .ok (.map (some w.heap.size)) (w.alloc (.map #[] 0)) := fun _ => rfl
  have k2 : ∀ w : World, (Instr.makeMap 127 none).run Tryd.prog w = .ok (.map (some w.heap.size)) (w.alloc (.map #[] 0)) := fun _ => rfl
  have k3 : ∀ w : World, (Instr.makeMap 128 none).run Tryd.prog w = .ok (.map (some w.heap.size)) (w.alloc (.map #[] 0)) := fun _ => rfl
  obtain ⟨M, eM⟩ : ∃ M, ((w.alloc (.map #[] 0)).alloc (.map #[] 0)).alloc (.map #[] 0) = M := ⟨_, rfl⟩
  obtain ⟨C, eC, hbC, hsC, hcC, hhC⟩ := box_new M #[.map (some w.heap.size), .map (some (w.heap.size + 1)), .map (some (w.heap.size + 1 + 1)), .slice none 0 0, .bool false] 130
  have hbM : Below w.heap.size w M := by
    rw [← eM]
    exact three (Below.refl _ w) (Nat.le_refl _) _ _ _
  have hsM : M.heap.size = w.heap.size + 1 + 1 + 1 := by rw [← eM]; simp
  have hb0 : Below w.heap.size w C := hbM.trans (hbC.mono hbM.size)
  have n1 : GM kv1 C w.heap.size [] := by rw [← eC, ← eM]; exact (((GM.new w).keepAlloc _).keepAlloc _).keepAlloc _
  have n2 : GM kv2 C (w.heap.size + 1) [] := by
    rw [← eC, ← eM]
    have := ((GM.new (kv := kv2) (w.alloc (.map #[] 0))).keepAlloc (.map #[] 0)).keepAlloc (.cells #[.map (some w.heap.size), .map (some (w.heap.size + 1)), .map (some (w.heap.size + 1 + 1)), .slice none 0 0, .bool false] 130)
    simpa using this
  have n3 : GM kv3 C (w.heap.size + 1 + 1) [] := by
    rw [← eC, ← eM]
    have := (GM.new (kv := kv3) ((w.alloc (.map #[] 0)).alloc (.map #[] 0))).keepAlloc (.cells #[.map (some w.heap.size), .map (some (w.heap.size + 1)), .map (some (w.heap.size + 1 + 1)), .slice none 0 0, .bool false] 130)
    simpa using this
  have hcc : C.heap[w.heap.size + 1 + 1 + 1]? = some (.cells #[.map (some w.heap.size), .map (some (w.heap.size + 1)), .map (some (w.heap.size + 1 + 1)), .slice none 0 0, .bool false] 130) := by rw [← hsM]; exact hhC
  have hCO : COx C w.heap.size d (w.heap.size + 1 + 1 + 1) [] [] := ⟨w.heap.size, w.heap.size + 1, w.heap.size + 1 + 1, .slice none 0 0, [], [], [], [], hcc, by omega, by omega, by omega, by omega, by omega, by omega, by omega, n1, n2, n3, CI.new, fun p hp => absurd hp List.not_mem_nil, ⟨rfl, .inl ⟨rfl, rfl⟩⟩, ⟨rfl, fun k p t hp => by simp at hp⟩⟩
  have HG := hide (gterm_any d d (Nat.le_refl _) w.heap.size (w.heap.size + 1 + 1 + 1) C b o t 0 [] [] (hT.more (hb0.mono hB) hB (Nat.le_refl _)) hCO (by omega) (by simpa using hs) (by simpa using hs) hwt)
  have HE := hide (And.intro eM eC)
  have HB := hide hb0
  clear hbM hsM hb0 n1 n2 n3 hcc hCO hbC hsC hcC hhC eM eC hT hs hd
  go_enter Tryd.func33, Tryd.ntmps33
  go_wp2_with fail
  obtain ⟨eM, eC⟩ := unhide HE
  rw [eM, eC]
  clear eM eC
  refine (unhide HG).mono ?_
  rintro e w1 ⟨LL', x, rfl, ⟨m1, m2, m3, av, e1, e2, e3, ps, hc⟩, _, _, _, hb1⟩
  have c4 : w1.cell? ⟨w.heap.size + 1 + 1 + 1, 4, none⟩ = some (.bool false) := (blk hc.cc).2.1 4 _ rfl
  have c3 : w1.cell? ⟨w.heap.size + 1 + 1 + 1, 3, none⟩ = some av := (blk hc.cc).2.1 3 _ rfl
  have HF := hide (And.intro hc.ow (And.intro hc.ar ((unhide HB).trans hb1)))
  obtain ⟨ga, na, ca, rfl⟩ : ∃ ga na ca, av = .slice ga na ca := by
    rcases hc.ow.2 with ⟨h, _⟩ | ⟨_, _, _, h, _⟩
    · exact ⟨_, _, _, h⟩
    · exact ⟨_, _, _, h⟩
  clear hc hb1 k1 k2 k3
  go_wp2
  go_ret
  exact ⟨_, ps, rfl, unhide HF⟩
end Go.Proofs.YtegmckpcchhmdaaDoor
