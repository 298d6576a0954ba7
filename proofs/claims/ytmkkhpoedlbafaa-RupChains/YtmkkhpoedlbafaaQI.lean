/- Package rup: a round of visit, whole. -/
import Derived.Test.YtmkkhpoedlbafaaQH
import Derived.Test.YtmkkhpoedlbafaaQG
set_option linter.unusedVariables false
set_option linter.unusedSimpArgs false

/- Package rup: visit's look for another literal: the loop. -/
namespace Go.Proofs.Ytmkkhpoedlbafaa
open Go Go.RowKit
/-- In the midst of the look. -/
def SI (w0 : World) (B r : Nat) (k : KS) (L M : List (List Int)) (S0 : Int → Prop) (n h x : Nat) (l0 : List Nat) (gX n0 capX kept i : Nat) (iv : Int) (k1 : KS) (ρ' : Nat → Nat × Nat) (q' : Mv) (K P : List Nat) (a0 a1 s gC : Nat) (tvv : Int) (t : List Nat) (a : Act) (w : World) : Prop :=
  ∃ j m, SE a r x gX n0 capX kept iv a0 gC tvv ((j : Nat) : Int) ∧ j ≤ t.length ∧ Sc t k1.trail s j m ∧ VR w0 w B r k L M S0 n h x l0 (.slice (some ⟨gX, 0, none⟩) l0.length capX) kept i { k1 with cs := k1.cs.set a0 (a1 :: x :: t, m) } ρ' q' K P
/-- The look's round behind the mark's turn: one literal. -/
theorem look_one {Q : Exit → Act → World → Prop} {a : Act} {w0 w : World} {B r : Nat} {k : KS} {x : Nat} {L M : List (List Int)} {S0 : Int → Prop} {n h gX capX n0 kept i : Nat} {l0 K P t : List Nat} {k1 : KS} {ρ' : Nat → Nat × Nat} {q' : Mv} {a0 a1 m2 j gC nC capC gl nl capl gT NT capT s : Nat} {iv tvv : Int}
    (hs : SE a r x gX n0 capX kept iv a0 gC tvv ((j : Nat) : Int)) (hsc : Sc t k1.trail s j m2) (hv : VR w0 w B r k L M S0 n h x l0 (.slice (some ⟨gX, 0, none⟩) l0.length capX) kept i { k1 with cs := k1.cs.set a0 (a1 :: x :: t, m2) } ρ' q' K P) (hd : l0.drop i = a0 :: l0.drop (i + 1)) (hi : i < l0.length) (hac : a0 < k1.cs.length) (hat : At q' ρ' a0 gC nC capC gl nl capl gT NT capT) (hNT : 2 * k1.pl.length = NT) (hnl : nl = t.length + 2) (hb3 : nl ≤ 2000000000) (hcs : k1.cs.length ≤ 1000000000) (hm : m2 < nl)
    (hno : ∀ a' w', SE a' r x gX n0 capX kept iv a0 gC tvv ((j : Nat) : Int) → Sc t k1.trail s (j + 1) (m2 + 1) → VR w0 w' B r k L M S0 n h x l0 (.slice (some ⟨gX, 0, none⟩) l0.length capX) kept i { k1 with cs := k1.cs.set a0 (a1 :: x :: t, m2 + 1) } ρ' q' K P → Q .normal a' w')
    (hfound : ∀ a' w', SC a' r x gX n0 capX kept iv → (∃ k2 ρ2 q2 K2 P2, VR w0 w' B r k L M S0 n h x l0 (.slice (some ⟨gX, 0, none⟩) l0.length capX) kept (i + 1) k2 ρ2 q2 K2 P2) → Q (.exit 1) a' w') : Code.wp Try.prog (vRest Try.f31) Q a w := by
  have hlo := hsc.lo
  obtain ⟨y, hy⟩ : ∃ y, t[m2 - 2]? = some y := ⟨t[m2 - 2]'(by omega), List.getElem?_eq_getElem _⟩
  have hc : ({ k1 with cs := k1.cs.set a0 (a1 :: x :: t, m2) } : KS).cs[a0]? = some (a1 :: x :: t, m2) := by simp [hac]
  by_cases hyT : op y ∈ k1.trail
  · refine rest_no hs hv hd hc hat hNT hnl hb3 hlo hm hy hyT fun a' w' h1 h2 => ?_
    simp only [List.set_set] at h2
    exact hno a' w' h1 (hsc.step (by omega) hy hyT) h2
  · exact rest_yes hs hv hd hc hat hNT hnl hb3 hlo hm hy hyT hi (by simpa using hcs) hfound
set_option maxRecDepth 100000 in
set_option maxHeartbeats 64000000 in
theorem scan_round {Q : Exit → Act → World → Prop} {a : Act} {w0 w : World} {B r : Nat} {k : KS} {x : Nat} {L M : List (List Int)} {S0 : Int → Prop} {n h gX capX n0 kept i : Nat} {l0 K P t : List Nat} {k1 : KS} {ρ' : Nat → Nat × Nat} {q' : Mv} {a0 a1 gC nC capC gl nl capl gT NT capT s : Nat} {iv tvv : Int} (htv : tvv = (nl : Int) - 2)
    (hs : SI w0 B r k L M S0 n h x l0 gX n0 capX kept i iv k1 ρ' q' K P a0 a1 s gC tvv t a w) (hi : i < l0.length) (hd : l0.drop i = a0 :: l0.drop (i + 1)) (hac : a0 < k1.cs.length) (hat : At q' ρ' a0 gC nC capC gl nl capl gT NT capT) (hNT : 2 * k1.pl.length = NT) (hnl : nl = t.length + 2) (hb3 : nl ≤ 2000000000) (hcs : k1.cs.length ≤ 1000000000)
    (hnone : ∀ a' w' m', SD a' r x gX n0 capX kept iv a0 gC → VR w0 w' B r k L M S0 n h x l0 (.slice (some ⟨gX, 0, none⟩) l0.length capX) kept i { k1 with cs := k1.cs.set a0 (a1 :: x :: t, m') } ρ' q' K P → (∀ y ∈ t, op y ∈ k1.trail) → Q (.exit 2) a' w')
    (hfound : ∀ a' w', SC a' r x gX n0 capX kept iv → (∃ k2 ρ2 q2 K2 P2, VR w0 w' B r k L M S0 n h x l0 (.slice (some ⟨gX, 0, none⟩) l0.length capX) kept (i + 1) k2 ρ2 q2 K2 P2) → Q (.exit 1) a' w') :
    Code.wp Try.prog (vScanB Try.f31) (Exit.then (fun a' w' => SI w0 B r k L M S0 n h x l0 gX n0 capX kept i iv k1 ρ' q' K P a0 a1 s gC tvv t a' w' ∧ t.length - (intOf (a'.tmps.getD 75 undef)).toNat < t.length - (intOf (a.tmps.getD 75 undef)).toNat) Q) a w := by
  obtain ⟨j, m, hse, hj, hsc, hv⟩ := hs
  obtain ⟨u, rfl⟩ := hse.lit
  clear hse
  by_cases hlt : j < t.length
  · have hc : ({ k1 with cs := k1.cs.set a0 (a1 :: x :: t, m) } : KS).cs[a0]? = some (a1 :: x :: t, m) := by simp [hac]
    obtain ⟨e1, e2, e3, e4⟩ := hv.ck.clauseAt hat.vC hat.vl hc
    have hf : decide ((j : Int) < tvv) = true := by simp; omega
    have HEND : Hid (∀ (a' : Act) (w' : World) (m2 : Nat), SE a' r x gX n0 capX kept iv a0 gC tvv (((j + 1 : Nat)) : Int) → Sc t k1.trail s (j + 1) m2 → VR w0 w' B r k L M S0 n h x l0 (.slice (some ⟨gX, 0, none⟩) l0.length capX) kept i { k1 with cs := k1.cs.set a0 (a1 :: x :: t, m2) } ρ' q' K P → SI w0 B r k L M S0 n h x l0 gX n0 capX kept i iv k1 ρ' q' K P a0 a1 s gC tvv t a' w') := fun a' w' m2 h1 h2 h3 => ⟨j + 1, m2, h1, by omega, h2, h3⟩
    have HL : Hid (∀ (Q : Exit → Act → World → Prop) (a : Act) (w : World) (m2 : Nat), SE a r x gX n0 capX kept iv a0 gC tvv ((j : Nat) : Int) → Sc t k1.trail s j m2 → VR w0 w B r k L M S0 n h x l0 (.slice (some ⟨gX, 0, none⟩) l0.length capX) kept i { k1 with cs := k1.cs.set a0 (a1 :: x :: t, m2) } ρ' q' K P → m2 < nl → (∀ a' w', SE a' r x gX n0 capX kept iv a0 gC tvv ((j : Nat) : Int) → Sc t k1.trail s (j + 1) (m2 + 1) → VR w0 w' B r k L M S0 n h x l0 (.slice (some ⟨gX, 0, none⟩) l0.length capX) kept i { k1 with cs := k1.cs.set a0 (a1 :: x :: t, m2 + 1) } ρ' q' K P → Q .normal a' w') → (∀ a' w', SC a' r x gX n0 capX kept iv → (∃ k2 ρ2 q2 K2 P2, VR w0 w' B r k L M S0 n h x l0 (.slice (some ⟨gX, 0, none⟩) l0.length capX) kept (i + 1) k2 ρ2 q2 K2 P2) → Q (.exit 1) a' w') → Code.wp Try.prog (vRest Try.f31) Q a w) := fun Q a w m2 h1 h2 h3 h4 h5 h6 => look_one h1 h2 h3 hd hi hac hat hNT hnl hb3 hcs h4 h5 h6
    have q8 : (0 : Int) < (nl : Int) := by omega
    have HF := hide hfound
    have HS := hide hsc
    have HJL : Hid (j < t.length) := hlt
    have HNL := hide hnl
    have HJB : Hid (j ≤ 2000000000) := by show _ ≤ _; omega
    by_cases hm : m = nl
    · subst hm
      have HW := hide (hv.next hd hc hat.vC 2 (by omega) (by simp)).drew
      have HS2 := hide (hsc.wrap hnl (by omega))
      have hm2 : Hid (2 < m) := by show _ < _; omega
      clear hv hsc hnone hfound hd hat hc e4 hnl htv hlt HS hb3 hcs hNT hac hi hj
      change Code.wp Try.prog (.seq (cL (vScanB Try.f31)) (.seq (cL (cR (vScanB Try.f31))) (.seq (.block 3 (.seq (cL (cB (cL (cR (cR (vScanB Try.f31)))))) (vRest Try.f31))) (cR (cR (cR (vScanB Try.f31))))))) _ _ _
      conv => arg 2; arg 1; whnf
      conv => arg 2; arg 2; arg 1; whnf
      conv => arg 2; arg 2; arg 2; arg 1; arg 2; arg 1; whnf
      conv => arg 2; arg 2; arg 2; arg 2; whnf
      go_wp2
      go_region
      go_wp2
      refine unhide HL _ _ _ 2 ⟨rfl, rfl, rfl, rfl, rfl, rfl, rfl, rfl, rfl, rfl, rfl, rfl, rfl, rfl⟩ (unhide HS2) (by have hw := unhide HW; first | exact hw | (simp only [List.set_set] at hw; exact hw)) (unhide hm2) ?_ ?_
      · intro a' w' h1 h2 h3
        obtain ⟨u', rfl⟩ := h1.lit
        have H2 := hide h2
        have H3 := hide h3
        have hjw : IntKind.i64.wrap ((j : Int) + 1) = (j : Int) + 1 := by have := unhide HJB; simp only [IntKind.wrap_i64]; omega
        clear h1 h2 h3 e1 e2 e3 HW HS2 HL
        go_wp2
        refine ⟨unhide HEND _ _ (2 + 1) ⟨rfl, rfl, rfl, rfl, rfl, rfl, rfl, rfl, rfl, rfl, rfl, rfl, rfl, by simp⟩ (unhide H2) (unhide H3), ?_⟩
        have := unhide HJL
        simp [intOf]
        omega
      · intro a' w' h1 h2
        exact unhide HF a' w' h1 h2
    · have hmf : ((m : Int) == (nl : Int)) = false := by simp; omega
      have HW := hide hv.drew
      have HS2 := HS
      have hm2 : Hid (m < nl) := by show _ < _; have := hsc.hi; omega
      clear hv hsc hnone hfound hd hat hc e4 hnl htv hlt HS hb3 hcs hNT hac hi hj hm
      change Code.wp Try.prog (.seq (cL (vScanB Try.f31)) (.seq (cL (cR (vScanB Try.f31))) (.seq (.block 3 (.seq (cL (cB (cL (cR (cR (vScanB Try.f31)))))) (vRest Try.f31))) (cR (cR (cR (vScanB Try.f31))))))) _ _ _
      conv => arg 2; arg 1; whnf
      conv => arg 2; arg 2; arg 1; whnf
      conv => arg 2; arg 2; arg 2; arg 1; arg 2; arg 1; whnf
      conv => arg 2; arg 2; arg 2; arg 2; whnf
      go_wp2
      go_region
      go_wp2
      refine unhide HL _ _ _ m ⟨rfl, rfl, rfl, rfl, rfl, rfl, rfl, rfl, rfl, rfl, rfl, rfl, rfl, rfl⟩ (unhide HS2) (by have hw := unhide HW; first | exact hw | (simp only [List.set_set] at hw; exact hw)) (unhide hm2) ?_ ?_
      · intro a' w' h1 h2 h3
        obtain ⟨u', rfl⟩ := h1.lit
        have H2 := hide h2
        have H3 := hide h3
        have hjw : IntKind.i64.wrap ((j : Int) + 1) = (j : Int) + 1 := by have := unhide HJB; simp only [IntKind.wrap_i64]; omega
        clear h1 h2 h3 e1 e2 e3 HW HS2 HL
        go_wp2
        refine ⟨unhide HEND _ _ (m + 1) ⟨rfl, rfl, rfl, rfl, rfl, rfl, rfl, rfl, rfl, rfl, rfl, rfl, rfl, by simp⟩ (unhide H2) (unhide H3), ?_⟩
        have := unhide HJL
        simp [intOf]
        omega
      · intro a' w' h1 h2
        exact unhide HF a' w' h1 h2
  · have hf : decide ((j : Int) < tvv) = false := by simp; omega
    have HV := hide hv
    have HS := hide hsc
    have HJ : Hid (j = t.length) := by show _ = _; omega
    have HQ := hide hnone
    clear hv hsc hnone hfound hat hd htv
    conv => arg 2; whnf
    go_wp2
    have hsc := unhide HS
    rw [unhide HJ] at hsc
    exact unhide HQ _ _ m ⟨rfl, rfl, rfl, rfl, rfl, rfl, rfl, rfl, rfl, rfl, rfl, rfl⟩ (unhide HV) hsc.all
end Go.Proofs.Ytmkkhpoedlbafaa

/- Package rup: a round of visit. -/
namespace Go.Proofs.Ytmkkhpoedlbafaa
open Go Go.RowKit
/-- The look, whole. -/
theorem scan_any {Q : Exit → Act → World → Prop} {a : Act} {w0 w : World} {B r : Nat} {k : KS} {x : Nat} {L M : List (List Int)} {S0 : Int → Prop} {n h gX capX n0 kept i : Nat} {l0 K P t : List Nat} {k1 : KS} {ρ' : Nat → Nat × Nat} {q' : Mv} {a0 a1 m gC nC capC gl nl capl gT NT capT : Nat} {iv tvv : Int} (htv : tvv = (nl : Int) - 2)
    (hs : SE a r x gX n0 capX kept iv a0 gC tvv 0) (hv : VR w0 w B r k L M S0 n h x l0 (.slice (some ⟨gX, 0, none⟩) l0.length capX) kept i k1 ρ' q' K P) (hc : k1.cs[a0]? = some (a1 :: x :: t, m)) (hi : i < l0.length) (hd : l0.drop i = a0 :: l0.drop (i + 1)) (hat : At q' ρ' a0 gC nC capC gl nl capl gT NT capT) (hNT : 2 * k1.pl.length = NT) (hnl : nl = t.length + 2) (hb3 : nl ≤ 2000000000) (hcs : k1.cs.length ≤ 1000000000)
    (hnone : ∀ a' w' m', SD a' r x gX n0 capX kept iv a0 gC → VR w0 w' B r k L M S0 n h x l0 (.slice (some ⟨gX, 0, none⟩) l0.length capX) kept i { k1 with cs := k1.cs.set a0 (a1 :: x :: t, m') } ρ' q' K P → (∀ y ∈ t, op y ∈ k1.trail) → Q .normal a' w')
    (hfound : ∀ a' w', SC a' r x gX n0 capX kept iv → (∃ k2 ρ2 q2 K2 P2, VR w0 w' B r k L M S0 n h x l0 (.slice (some ⟨gX, 0, none⟩) l0.length capX) kept (i + 1) k2 ρ2 q2 K2 P2) → Q (.exit 1) a' w') : Code.wp Try.prog (vScan Try.f31) Q a w := by
  have hcl := hv.vs.str.cl a0 _ hc
  have hac := (List.getElem?_eq_some_iff.1 hc).1
  have hse : k1.cs.set a0 (a1 :: x :: t, m) = k1.cs := by
    apply List.ext_getElem?
    intro j
    rw [get_set k1.cs hac]
    split
    · rename_i e; rw [← e]; exact hc.symm
    · rfl
  have hk : ({ k1 with cs := k1.cs.set a0 (a1 :: x :: t, m) } : KS) = k1 := by rw [hse]
  change Code.wp Try.prog (.block 2 (.loop (vScanB Try.f31))) Q a w
  refine wp_block ?_
  refine wp_loop (SI w0 B r k L M S0 n h x l0 gX n0 capX kept i iv k1 ρ' q' K P a0 a1 (m - 2) gC tvv t) (fun a w => t.length - (intOf (a.tmps.getD 75 undef)).toNat) ?_ (fun a' w' hI => scan_round htv hI hi hd hac hat hNT hnl hb3 hcs ?_ ?_)
  · exact ⟨0, m, hs, Nat.zero_le _, Sc.zero hcl.lo (by have := hcl.hi; simpa using this), by rw [hk]; exact hv⟩
  · intro a'' w'' m' h1 h2 h3
    exact hnone a'' w'' m' h1 h2 h3
  · intro a'' w'' h1 h2
    exact hfound a'' w'' h1 h2
end Go.Proofs.Ytmkkhpoedlbafaa

/- Package rup: a round of visit: one clause. -/
namespace Go.Proofs.Ytmkkhpoedlbafaa
open Go Go.RowKit
def vM (f : Func) : Code := cL (cR (cR (cR (vIn f))))
/-- Between two rounds of the visit. -/
def VI (w0 : World) (B r : Nat) (k : KS) (L M : List (List Int)) (S0 : Int → Prop) (n h x : Nat) (l0 : List Nat) (gX n0 capX : Nat) (a : Act) (w : World) : Prop :=
  ∃ (kept i : Nat) (k' : KS) (ρ' : Nat → Nat × Nat) (q' : Mv) (K P : List Nat), SC a r x gX n0 capX kept i ∧ i ≤ n0 ∧ VR w0 w B r k L M S0 n h x l0 (.slice (some ⟨gX, 0, none⟩) l0.length capX) kept i k' ρ' q' K P
/-- The tail, whatever the first literal is. -/
theorem tail_any {Q : Exit → Act → World → Prop} {a : Act} {w0 w1 : World} {B r : Nat} {k : KS} {x : Nat} {L M : List (List Int)} {S0 : Int → Prop} {n h gX capX n0 kept i : Nat} {l0 K P t : List Nat} {k1 : KS} {ρ' : Nat → Nat × Nat} {q' : Mv} {a0 a1 m gC nC capC gl nl capl gT NT capT : Nat}
    (hs : SD a r x gX n0 capX kept (i : Int) a0 gC) (hv : VR w0 w1 B r k L M S0 n h x l0 (.slice (some ⟨gX, 0, none⟩) l0.length capX) kept i k1 ρ' q' K P) (hN : l0.length = n0) (hi : i < n0) (hd : l0.drop i = a0 :: l0.drop (i + 1)) (hc : k1.cs[a0]? = some (a1 :: x :: t, m)) (hat : At q' ρ' a0 gC nC capC gl nl capl gT NT capT) (hNT : 2 * k1.pl.length = NT) (hnl : 2 ≤ nl) (hb : n0 ≤ 1000000000) (hb2 : NT ≤ 2000000000)
    (hT : a1 ∈ k1.trail ∨ ∀ y ∈ t, op y ∈ k1.trail)
    (hq : ∀ a' w', SC a' r x gX n0 capX (kept + 1) (i : Int) → (∃ k2 ρ2 q2 K2 P2, VR w0 w' B r k L M S0 n h x l0 (.slice (some ⟨gX, 0, none⟩) l0.length capX) (kept + 1) (i + 1) k2 ρ2 q2 K2 P2) → Q .normal a' w')
    (hr : ∀ a' w', a'.defers = [] → a'.tmps[4]? = some (.bool false) → (∃ k2 ρ2 q2, Ck w0 w' B r ρ2 q2 k2 (trs (2 * k2.pl.length) k2.trail) ∧ Lk k k2 ∧ Str L M S0 n k2.pl k2.cs k2.ws k2.trail) → Clash L S0 → Q .ret a' w') : Code.wp Try.prog (vTail Try.f31) Q a w1 := by
  have hvs := hv.vs
  rw [hd] at hvs
  rcases hT with h1 | h1
  · exact tail_keep (i : Int) hs hv hN hi hd hc hat hNT hnl hb hb2 (.inl h1) hq
  · by_cases h2 : a1 ∈ k1.trail
    · exact tail_keep (i : Int) hs hv hN hi hd hc hat hNT hnl hb hb2 (.inl h2) hq
    · by_cases h3 : op a1 ∈ k1.trail
      · exact tail_conf (i : Int) rfl hs hv hN hi hd hc hat hNT hnl hb hb2 h3 h1 fun a' w' d1 d2 d3 => hr a' w' d1 d2 d3 (hvs.clash hc h1 h3)
      · exact tail_keep (i : Int) hs hv hN hi hd hc hat hNT hnl hb hb2 (.inr ⟨h2, h3, h1⟩) hq
end Go.Proofs.Ytmkkhpoedlbafaa

/- Package rup: a round of visit from its look at the first literal on. -/
namespace Go.Proofs.Ytmkkhpoedlbafaa
open Go Go.RowKit
set_option maxRecDepth 100000 in
set_option maxHeartbeats 64000000 in
theorem mid_any {Q : Exit → Act → World → Prop} {a : Act} {w0 w1 : World} {B r : Nat} {k : KS} {x : Nat} {L M : List (List Int)} {S0 : Int → Prop} {n h gX capX n0 kept i : Nat} {l0 K P t : List Nat} {k1 : KS} {ρ' : Nat → Nat × Nat} {q' : Mv} {a0 a1 m gC nC capC gl nl capl gT NT capT : Nat}
    (hs : SD a r x gX n0 capX kept (i : Int) a0 gC) (hv : VR w0 w1 B r k L M S0 n h x l0 (.slice (some ⟨gX, 0, none⟩) l0.length capX) kept i k1 ρ' q' K P) (hN : l0.length = n0) (hi : i < n0) (hd : l0.drop i = a0 :: l0.drop (i + 1)) (hc : k1.cs[a0]? = some (a1 :: x :: t, m)) (hat : At q' ρ' a0 gC nC capC gl nl capl gT NT capT) (hNT : 2 * k1.pl.length = NT) (hnl : nl = t.length + 2) (hb : n0 ≤ 1000000000) (hb2 : NT ≤ 2000000000) (hb3 : nl ≤ 2000000000) (hcs : k1.cs.length ≤ 1000000000)
    (hq : ∀ a' w', SC a' r x gX n0 capX (kept + 1) (i : Int) → (∃ k2 ρ2 q2 K2 P2, VR w0 w' B r k L M S0 n h x l0 (.slice (some ⟨gX, 0, none⟩) l0.length capX) (kept + 1) (i + 1) k2 ρ2 q2 K2 P2) → Q .normal a' w')
    (hfound : ∀ a' w', SC a' r x gX n0 capX kept (i : Int) → (∃ k2 ρ2 q2 K2 P2, VR w0 w' B r k L M S0 n h x l0 (.slice (some ⟨gX, 0, none⟩) l0.length capX) kept (i + 1) k2 ρ2 q2 K2 P2) → Q (.exit 1) a' w')
    (hr : ∀ a' w', a'.defers = [] → a'.tmps[4]? = some (.bool false) → (∃ k2 ρ2 q2, Ck w0 w' B r ρ2 q2 k2 (trs (2 * k2.pl.length) k2.trail) ∧ Lk k k2 ∧ Str L M S0 n k2.pl k2.cs k2.ws k2.trail) → Clash L S0 → Q .ret a' w') : Code.wp Try.prog (.seq (vM Try.f31) (vTail Try.f31)) Q a w1 := by
  obtain ⟨u, rfl⟩ := hs.lit
  clear hs
  obtain ⟨e1, e2, e3, e4⟩ := hv.ck.clauseAt hat.vC hat.vl hc
  have e40 := (e4 0 a1 rfl).1
  have hal : a1 < 2 * k1.pl.length := (hv.vs.str.cl a0 _ hc).lt a1 (.head _)
  have tA := (hv.ck.truthAt hat.vT hal).1
  have d3 := hv.ck.cells.2.2.2.1
  rw [hat.vT] at d3
  have s1 : (0 : Int) ≤ (a1 : Int) := by omega
  have s2 : (a1 : Int) < (NT : Int) := by omega
  have q8 : (0 : Int) < (nl : Int) := by omega
  have hac := (List.getElem?_eq_some_iff.1 hc).1
  have HT : Hid (∀ (a : Act) (w : World) (m' : Nat) (Q : Exit → Act → World → Prop), SD a r x gX n0 capX kept (i : Int) a0 gC → VR w0 w B r k L M S0 n h x l0 (.slice (some ⟨gX, 0, none⟩) l0.length capX) kept i { k1 with cs := k1.cs.set a0 (a1 :: x :: t, m') } ρ' q' K P → (∀ y ∈ t, op y ∈ k1.trail) → (∀ a' w', SC a' r x gX n0 capX (kept + 1) (i : Int) → (∃ k2 ρ2 q2 K2 P2, VR w0 w' B r k L M S0 n h x l0 (.slice (some ⟨gX, 0, none⟩) l0.length capX) (kept + 1) (i + 1) k2 ρ2 q2 K2 P2) → Q .normal a' w') → (∀ a' w', a'.defers = [] → a'.tmps[4]? = some (.bool false) → (∃ k2 ρ2 q2, Ck w0 w' B r ρ2 q2 k2 (trs (2 * k2.pl.length) k2.trail) ∧ Lk k k2 ∧ Str L M S0 n k2.pl k2.cs k2.ws k2.trail) → Clash L S0 → Q .ret a' w') → Code.wp Try.prog (vTail Try.f31) Q a w) :=
    fun a w m' Q h1 h2 h3 h4 h5 => tail_any (a1 := a1) (t := t) (m := m') h1 h2 hN hi hd (by simp [hac]) hat hNT (by omega) hb hb2 (.inr h3) h4 h5
  change Code.wp Try.prog (.seq (.seq (cL (vM Try.f31)) (.cond (.tmp 68) (.seq (cL (cT (cR (vM Try.f31)))) (vScan Try.f31)) .skip)) (vTail Try.f31)) _ _ _
  conv => arg 2; arg 1; arg 1; whnf
  conv => arg 2; arg 1; arg 2; arg 2; arg 1; whnf
  by_cases hin : a1 ∈ k1.trail
  · rw [tv_one.2 hin] at tA
    have HK : Hid (∀ (a : Act) (w : World) (Q : Exit → Act → World → Prop), SD a r x gX n0 capX kept (i : Int) a0 gC → VR w0 w B r k L M S0 n h x l0 (.slice (some ⟨gX, 0, none⟩) l0.length capX) kept i k1 ρ' q' K P → (∀ a' w', SC a' r x gX n0 capX (kept + 1) (i : Int) → (∃ k2 ρ2 q2 K2 P2, VR w0 w' B r k L M S0 n h x l0 (.slice (some ⟨gX, 0, none⟩) l0.length capX) (kept + 1) (i + 1) k2 ρ2 q2 K2 P2) → Q .normal a' w') → (∀ a' w', a'.defers = [] → a'.tmps[4]? = some (.bool false) → (∃ k2 ρ2 q2, Ck w0 w' B r ρ2 q2 k2 (trs (2 * k2.pl.length) k2.trail) ∧ Lk k k2 ∧ Str L M S0 n k2.pl k2.cs k2.ws k2.trail) → Clash L S0 → Q .ret a' w') → Code.wp Try.prog (vTail Try.f31) Q a w) :=
      fun a w Q h1 h2 h4 h5 => tail_any h1 h2 hN hi hd hc hat hNT (by omega) hb hb2 (.inl hin) h4 h5
    have HV := hide hv.drew
    have HQ := hide hq
    have HR := hide hr
    clear hv hq hr hfound hd hc hat hin HT e2 e3 e4 hnl hb2 hb3 hcs hN hNT hac hal
    go_wp2
    go_region
    go_wp2
    exact unhide HK _ _ _ ⟨rfl, rfl, rfl, rfl, rfl, rfl, rfl, rfl, rfl, rfl, rfl, rfl⟩ (unhide HV) (unhide HQ) (unhide HR)
  · have htf : (tv k1.trail a1 != 1) = true := by
      have : ¬ tv k1.trail a1 = 1 := fun e => hin (tv_one.1 e)
      simpa using this
    have HS : Hid (∀ (a : Act) (w : World) (tvv : Int) (Q : Exit → Act → World → Prop), tvv = (nl : Int) - 2 → SE a r x gX n0 capX kept (i : Int) a0 gC tvv 0 → VR w0 w B r k L M S0 n h x l0 (.slice (some ⟨gX, 0, none⟩) l0.length capX) kept i k1 ρ' q' K P → (∀ a' w' m', SD a' r x gX n0 capX kept (i : Int) a0 gC → VR w0 w' B r k L M S0 n h x l0 (.slice (some ⟨gX, 0, none⟩) l0.length capX) kept i { k1 with cs := k1.cs.set a0 (a1 :: x :: t, m') } ρ' q' K P → (∀ y ∈ t, op y ∈ k1.trail) → Q .normal a' w') → (∀ a' w', SC a' r x gX n0 capX kept (i : Int) → (∃ k2 ρ2 q2 K2 P2, VR w0 w' B r k L M S0 n h x l0 (.slice (some ⟨gX, 0, none⟩) l0.length capX) kept (i + 1) k2 ρ2 q2 K2 P2) → Q (.exit 1) a' w') → Code.wp Try.prog (vScan Try.f31) Q a w) :=
      fun a w tvv Q h0 h1 h2 h3 h4 => scan_any h0 h1 h2 hc (by omega) hd hat hNT hnl hb3 hcs h3 h4
    have HV := hide hv.drew
    have HQ := hide hq
    have HR := hide hr
    have HF := hide hfound
    have hwn : IntKind.i64.wrap ((nl : Int) - 2) = (nl : Int) - 2 := by simp only [IntKind.wrap_i64]; omega
    clear hv hq hr hfound hd hc hat hin e2 e3 e4 hnl hb2 hb3 hcs hN hNT hac hal
    go_wp2
    go_region
    go_wp2
    refine unhide HS _ _ ((nl : Int) - 2) _ rfl ⟨rfl, rfl, rfl, rfl, rfl, rfl, rfl, rfl, rfl, rfl, rfl, rfl, rfl, rfl⟩ (unhide HV) ?_ ?_
    · intro a' w' m' h1 h2 h3
      rename_i K1 hK1
      exact hK1 a' w' (unhide HT a' w' m' _ h1 h2 h3 (unhide HQ) (unhide HR))
    · intro a' w' h1 h2
      exact unhide HF a' w' h1 h2
end Go.Proofs.Ytmkkhpoedlbafaa

namespace Go.Proofs.Ytmkkhpoedlbafaa
open Go Go.RowKit
def vMid (f : Func) : Code := .seq (vM f) (vTail f)
set_option maxRecDepth 100000 in
set_option maxHeartbeats 64000000 in
theorem round_any {Q : Exit → Act → World → Prop} {a : Act} {w0 w : World} {B r : Nat} {k : KS} {x : Nat} {L M : List (List Int)} {S0 : Int → Prop} {n h gX capX n0 : Nat} {l0 : List Nat} (hI : VI w0 B r k L M S0 n h x l0 gX n0 capX a w) (hN : l0.length = n0) (hb : n0 ≤ 1000000000) (hP : k.pl.length ≤ 1000000000) (hcs : k.cs.length ≤ 1000000000)
    (hx : ∀ a' w' kept k' ρ' q' K P, SC a' r x gX n0 capX ((kept : Nat) : Int) (n0 : Int) → VR w0 w' B r k L M S0 n h x l0 (.slice (some ⟨gX, 0, none⟩) l0.length capX) kept n0 k' ρ' q' K P → Q (.exit 0) a' w')
    (hr : ∀ a' w', a'.defers = [] → a'.tmps[4]? = some (.bool false) → (∃ k2 ρ2 q2, Ck w0 w' B r ρ2 q2 k2 (trs (2 * k2.pl.length) k2.trail) ∧ Lk k k2 ∧ Str L M S0 n k2.pl k2.cs k2.ws k2.trail) → Clash L S0 → Q .ret a' w') :
    Code.wp Try.prog (vBody Try.f31) (Exit.then (fun a' w' => VI w0 B r k L M S0 n h x l0 gX n0 capX a' w' ∧ n0 - (intOf (a'.tmps.getD 20 undef)).toNat < n0 - (intOf (a.tmps.getD 20 undef)).toNat) Q) a w := by
  obtain ⟨kept, i, k', ρ', q', K, P, hs, hi0, hv⟩ := hI
  obtain ⟨u, rfl⟩ := hs.lit
  clear hs
  by_cases hlt : i < n0
  · have hil : i < l0.length := by rw [hN]; exact hlt
    obtain ⟨a0, ha0⟩ : ∃ a0, l0[i]'hil = a0 := ⟨_, rfl⟩
    have hd : l0.drop i = a0 :: l0.drop (i + 1) := by rw [List.drop_eq_getElem_cons hil, ha0]
    have hvs := hv.vs
    rw [hd] at hvs
    obtain ⟨a, b, t, m, hc, hab, hne⟩ := hvs.two
    have d1 := hv.ck.cells.2.1
    obtain ⟨gC, capC, gl, capl, vC, vl, rC, rl, ac⟩ := hv.ck.clause hc (by simp)
    obtain ⟨e1, e2, e3, e4⟩ := hv.ck.clauseAt vC vl hc
    rw [vC] at d1
    have hcl := hv.vs.str.cl a0 _ hc
    have hNpos : 0 < 2 * k'.pl.length := by have := hcl.lt a (.head _); omega
    obtain ⟨gT, capT, vT, rT⟩ := hv.ck.truth hNpos
    have eX := (hv.ck.rx x _ _ hv.hv hv.hP)
    rw [hv.pl] at eX
    have ePi : P[i]? = some a0 := by
      have : (P.drop i)[0]? = some a0 := by rw [hv.pd, hd]; rfl
      simpa using this
    obtain ⟨eL, fL⟩ := eX.cell (j := i) (u := .int .i64 a0) (by rw [List.getElem?_map, ePi]; rfl)
    have e40 := (e4 0 a rfl).1
    have e41 := (e4 1 b rfl).1
    have f40 := (e4 0 a rfl).2
    have f41 := (e4 1 b rfl).2
    have nCl : gC ≠ gl := fun e => by rw [e, rl] at rC; cases rC
    have nlC := Ne.symm nCl
    obtain ⟨nC, hnC⟩ : ∃ nC, k'.cs.length = nC := ⟨_, rfl⟩
    obtain ⟨nl, hnl⟩ : ∃ nl, (a :: b :: t).length = nl := ⟨_, rfl⟩
    have hnt : nl = t.length + 2 := by rw [← hnl]; simp
    obtain ⟨NT, hNT⟩ : ∃ NT, 2 * k'.pl.length = NT := ⟨_, rfl⟩
    have hnb : nl ≤ NT := by rw [← hnl, ← hNT]; exact nodup_le _ _ hcl.nd hcl.lt
    have hNTb : NT ≤ 2000000000 := by have := hv.lk.pl; rw [← hNT, this]; omega
    have hcsb : k'.cs.length ≤ 1000000000 := by have := hv.lk.cs; omega
    have hat : At q' ρ' a0 gC nC capC gl nl capl gT NT capT := ⟨by rw [← hnC]; exact vC, by rw [← hnl]; exact vl, by rw [← hNT]; exact vT, rC, rl, rT⟩
    rw [hnC] at d1
    rw [hnl] at e1
    have q1 : (0 : Int) ≤ (i : Int) := by omega
    have q2 : (i : Int) < (n0 : Int) := by omega
    have q3 : (0 : Int) ≤ (a0 : Int) := by omega
    have q4 : (a0 : Int) < (nC : Int) := by omega
    have q7 : (1 : Int) < (nl : Int) := by omega
    have q8 : (0 : Int) < (nl : Int) := by omega
    have q9 : (n0 : Int) ≤ 1000000000 := by omega
    have HE : Hid (∀ (a' : Act) (w' : World) (kept2 : Nat), SC a' r x gX n0 capX (kept2 : Int) ((i + 1 : Nat) : Int) → (∃ k2 ρ2 q2 K2 P2, VR w0 w' B r k L M S0 n h x l0 (.slice (some ⟨gX, 0, none⟩) l0.length capX) kept2 (i + 1) k2 ρ2 q2 K2 P2) → VI w0 B r k L M S0 n h x l0 gX n0 capX a' w') := fun a' w' kept2 h1 ⟨k2, ρ2, q2, K2, P2, h2⟩ => ⟨kept2, i + 1, k2, ρ2, q2, K2, P2, h1, by omega, h2⟩
    have HR := hide hr
    have HLT : Hid (i < n0) := hlt
    have HMid : Hid (∀ (a : Act) (w1 : World) (k1 : KS) (a1 : Nat) (Q : Exit → Act → World → Prop), k1.pl = k'.pl → k1.cs.length = k'.cs.length → SD a r x gX n0 capX kept (i : Int) a0 gC → VR w0 w1 B r k L M S0 n h x l0 (.slice (some ⟨gX, 0, none⟩) l0.length capX) kept i k1 ρ' q' K P → k1.cs[a0]? = some (a1 :: x :: t, m) → (∀ a' w', SC a' r x gX n0 capX (kept + 1) (i : Int) → (∃ k2 ρ2 q2 K2 P2, VR w0 w' B r k L M S0 n h x l0 (.slice (some ⟨gX, 0, none⟩) l0.length capX) (kept + 1) (i + 1) k2 ρ2 q2 K2 P2) → Q .normal a' w') → (∀ a' w', SC a' r x gX n0 capX kept (i : Int) → (∃ k2 ρ2 q2 K2 P2, VR w0 w' B r k L M S0 n h x l0 (.slice (some ⟨gX, 0, none⟩) l0.length capX) kept (i + 1) k2 ρ2 q2 K2 P2) → Q (.exit 1) a' w') → (∀ a' w', a'.defers = [] → a'.tmps[4]? = some (.bool false) → (∃ k2 ρ2 q2, Ck w0 w' B r ρ2 q2 k2 (trs (2 * k2.pl.length) k2.trail) ∧ Lk k k2 ∧ Str L M S0 n k2.pl k2.cs k2.ws k2.trail) → Clash L S0 → Q .ret a' w') → Code.wp Try.prog (vMid Try.f31) Q a w1) :=
      fun a w1 k1 a1 Q h1 h2 h3 h4 h5 h6 h7 h8 => mid_any h3 h4 hN hlt hd h5 hat (by rw [h1]; exact hNT) hnt hb hNTb (by omega) (by omega) h6 h7 h8
    change Code.wp Try.prog (.seq (cL (vBody Try.f31)) (.seq (cL (cR (vBody Try.f31))) (.seq (.block 1 (.seq (cL (vIn Try.f31)) (.seq (cL (cR (vIn Try.f31))) (.seq (cL (cR (cR (vIn Try.f31)))) (vMid Try.f31))))) (cR (cR (cR (vBody Try.f31))))))) _ _ _
    conv => arg 2; arg 1; whnf
    conv => arg 2; arg 2; arg 1; whnf
    conv => arg 2; arg 2; arg 2; arg 1; arg 2; arg 1; whnf
    conv => arg 2; arg 2; arg 2; arg 1; arg 2; arg 2; arg 1; whnf
    conv => arg 2; arg 2; arg 2; arg 1; arg 2; arg 2; arg 2; arg 1; whnf
    conv => arg 2; arg 2; arg 2; arg 2; whnf
    rcases hab with rfl | rfl
    · have HW := hide (hv.swap hd hc vl)
      have HAC : Hid (a0 < k'.cs.length) := ac
      clear hv hvs hd hc vl vC eX ePi e2 e3 e4 rC rl rT hnC hnl ha0 fL hnt hNT hnb hNTb hcsb hat hNpos hcl vT hr hx hlt hil hne ac hP hcs hN hb hi0
      go_wp2
      refine wp_region_noPanic ?_
      go_region
      refine NoPanic.normal ?_
      go_wp2
      refine unhide HMid _ _ { k' with cs := k'.cs.set a0 (b :: x :: t, m) } b _ rfl (by simp) ⟨rfl, rfl, rfl, rfl, rfl, rfl, rfl, rfl, rfl, rfl, rfl, rfl⟩ (unhide HW) (by have := unhide HAC; simp [this]) ?_ ?_ ?_
      · intro a' w' h1 h2
        obtain ⟨u', rfl⟩ := h1.lit
        have H2 := hide h2
        clear h1 h2 HMid HW d1 e1 e40 e41 f40 f41 eL
        go_wp2
        refine ⟨unhide HE _ _ (kept + 1) ⟨rfl, rfl, rfl, rfl, rfl, by simp, rfl, rfl, by simp⟩ (unhide H2), ?_⟩
        have := unhide HLT
        simp [intOf]
        omega
      · intro a' w' h1 h2
        obtain ⟨u', rfl⟩ := h1.lit
        have H2 := hide h2
        clear h1 h2 HMid HW d1 e1 e40 e41 f40 f41 eL
        go_wp2
        refine ⟨unhide HE _ _ kept ⟨rfl, rfl, rfl, rfl, rfl, rfl, rfl, rfl, by simp⟩ (unhide H2), ?_⟩
        have := unhide HLT
        simp [intOf]
        omega
      · intro a' w' h1 h2 h3 h4
        exact unhide HR a' w' h1 h2 h3 h4
    · have hf : ((a : Int) == (x : Int)) = false := by simp; omega
      have HW := hide hv
      have HC := hide hc
      clear hv hvs hd hc vl vC eX ePi e2 e3 e4 rC rl rT hnC hnl ha0 fL hnt hNT hnb hNTb hcsb hat hNpos hcl vT hr hx hlt hil hne ac hP hcs hN hb hi0
      go_wp2
      refine unhide HMid _ _ k' a _ rfl rfl ⟨rfl, rfl, rfl, rfl, rfl, rfl, rfl, rfl, rfl, rfl, rfl, rfl⟩ (unhide HW) (unhide HC) ?_ ?_ ?_
      · intro a' w' h1 h2
        obtain ⟨u', rfl⟩ := h1.lit
        have H2 := hide h2
        clear h1 h2 HMid HW d1 e1 e40 e41 f40 f41 eL
        go_wp2
        refine ⟨unhide HE _ _ (kept + 1) ⟨rfl, rfl, rfl, rfl, rfl, by simp, rfl, rfl, by simp⟩ (unhide H2), ?_⟩
        have := unhide HLT
        simp [intOf]
        omega
      · intro a' w' h1 h2
        obtain ⟨u', rfl⟩ := h1.lit
        have H2 := hide h2
        clear h1 h2 HMid HW d1 e1 e40 e41 f40 f41 eL
        go_wp2
        refine ⟨unhide HE _ _ kept ⟨rfl, rfl, rfl, rfl, rfl, rfl, rfl, rfl, by simp⟩ (unhide H2), ?_⟩
        have := unhide HLT
        simp [intOf]
        omega
      · intro a' w' h1 h2 h3 h4
        exact unhide HR a' w' h1 h2 h3 h4
  · have hf : decide ((i : Int) < (n0 : Int)) = false := by simp; omega
    have HI : Hid (i = n0) := by show _ = _; omega
    have HV := hide hv
    have HX := hide hx
    clear hv hx hr
    conv => arg 2; whnf
    go_wp2
    have e := unhide HI
    subst e
    exact unhide HX _ _ kept k' ρ' q' K P ⟨rfl, rfl, rfl, rfl, rfl, rfl, rfl, rfl, rfl⟩ (unhide HV)
end Go.Proofs.Ytmkkhpoedlbafaa
