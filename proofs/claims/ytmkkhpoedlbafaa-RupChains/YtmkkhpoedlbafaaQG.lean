/- Package rup: visit's look for another literal: one literal is looked at. -/
import Derived.Test.YtmkkhpoedlbafaaQF
set_option linter.unusedVariables false
set_option linter.unusedSimpArgs false

/- Package rup: the tail of a round of visit: a clause is false. -/
namespace Go.Proofs.Ytmkkhpoedlbafaa
open Go Go.RowKit
set_option maxRecDepth 100000 in
set_option maxHeartbeats 64000000 in
theorem tail_conf {Q : Exit → Act → World → Prop} {a : Act} {w0 w1 : World} {B r : Nat} {k : KS} {x : Nat} {L M : List (List Int)} {S0 : Int → Prop} {n h gX capX n0 kept i : Nat} {l0 K P t : List Nat} {k1 : KS} {ρ' : Nat → Nat × Nat} {q' : Mv} {a0 a1 m gC nC capC gl nl capl gT NT capT : Nat} (iv : Int)
    (hiv : iv = (i : Int)) (hs : SD a r x gX n0 capX kept iv a0 gC) (hv : VR w0 w1 B r k L M S0 n h x l0 (.slice (some ⟨gX, 0, none⟩) l0.length capX) kept i k1 ρ' q' K P) (hN : l0.length = n0) (hi : i < n0) (hd : l0.drop i = a0 :: l0.drop (i + 1)) (hc : k1.cs[a0]? = some (a1 :: x :: t, m)) (hat : At q' ρ' a0 gC nC capC gl nl capl gT NT capT) (hNT : 2 * k1.pl.length = NT) (hnl : 2 ≤ nl) (hb : n0 ≤ 1000000000) (hb2 : NT ≤ 2000000000)
    (hT : op a1 ∈ k1.trail) (ht : ∀ y ∈ t, op y ∈ k1.trail)
    (hq : ∀ a' w', a'.defers = [] → a'.tmps[4]? = some (.bool false) → (∃ k2 ρ2 q2, Ck w0 w' B r ρ2 q2 k2 (trs (2 * k2.pl.length) k2.trail) ∧ Lk k k2 ∧ Str L M S0 n k2.pl k2.cs k2.ws k2.trail) → Q .ret a' w') : Code.wp Try.prog (vTail Try.f31) Q a w1 := by
  obtain ⟨u, rfl⟩ := hs.lit
  clear hs
  have hal : a1 < 2 * k1.pl.length := (hv.vs.str.cl a0 _ hc).lt a1 (.head _)
  have htf : tv k1.trail a1 = -1 := (tv_mns hv.vs.str.tcon).2 hT
  have hkn : kept < n0 := by have := hv.ki; omega
  have eX := hv.ck.rx x _ _ hv.hv hv.hP
  rw [hv.pl] at eX
  have hkP : kept < P.length := by rw [hv.pl, hN]; exact hkn
  obtain ⟨pk, hpk⟩ : ∃ pk, P[kept]? = some pk := ⟨_, List.getElem?_eq_getElem hkP⟩
  obtain ⟨pK, fK⟩ := eX.cell (j := kept) (u := .int .i64 (pk : Nat)) (by rw [List.getElem?_map, hpk]; rfl)
  have Hst := hide (hv.ck.setWatch hv.hP hv.hv (by rw [hv.pl]) kept a0)
  have u1 : (0 : Int) ≤ (kept : Int) := by omega
  have u2 : (kept : Int) < (n0 : Int) := by omega
  have u3 : (kept : Int) ≤ 1000000000 := by omega
  have HV := hide hv
  have HT := hide hT
  have HT2 := hide ht
  have HC := hide hc
  have HD := hide hd
  have HN := hide hN
  have HA := hide hat
  have HQ := hide hq
  have HNT := hide hNT
  have HI := hide hi
  have hal2 : a1 < NT := by omega
  have hcap : n0 ≤ capX := by
    obtain ⟨_, _, hf, h1, _⟩ := (hv.ck.rx x _ _ hv.hv hv.hP).form
    simp only [Value.slice.injEq] at hf
    rw [← hN, ← hv.pl]
    omega
  have s1 : (0 : Int) ≤ (a1 : Int) := by omega
  have s2 : (a1 : Int) < (NT : Int) := by omega
  have q7 : (1 : Int) < (nl : Int) := by omega
  have q8 : (0 : Int) < (nl : Int) := by omega
  have HB2 := hide hb2
  have HTF := hide htf
  have iv0 : iv = (i : Int) := hiv
  have x1 : (0 : Int) ≤ (kept : Int) + 1 := by omega
  have x2 : (kept : Int) + 1 ≤ (n0 : Int) := by omega
  have x3 : (n0 : Int) ≤ (capX : Int) := by omega
  have x4 : (0 : Int) ≤ (i : Int) + 1 := by omega
  have x5 : (i : Int) + 1 ≤ (n0 : Int) := by omega
  clear htf hv hT ht hc hd hat hq eX hkP hpk hN hNT hi hb2
  conv => arg 2; whnf
  go_wp2
  clear pK fK
  revert Hst
  generalize w1.setCell ⟨gX, kept, none⟩ (.int .i64 a0) = w2
  intro Hst
  obtain ⟨z0, z1, z2, d3, z4, z5, z6, z7, df⟩ := (unhide Hst).cells
  clear z0 z1 z2 z4 z5 z6 z7 df
  rw [(unhide HA).vT] at d3
  obtain ⟨e1, e2, e3, e4⟩ := (unhide Hst).clauseAt (unhide HA).vC (unhide HA).vl (unhide HC)
  have tA := ((unhide Hst).truthAt (unhide HA).vT (y := a1) hal).1
  rw [unhide HTF] at tA
  have e40 := (e4 0 a1 rfl).1
  clear e2 e3 e4
  go_region
  clear d3 tA
  clear e1 e40
  go_wp2
  have hck := (unhide Hst).drew.drew
  have hix : x < k1.ws.length := (List.getElem?_eq_some_iff.1 (unhide HV).hP).1
  have hP2 : (k1.ws.set x (P.set kept a0))[x]? = some (P.set kept a0) := by simp [hix]
  have hPl : n0 = (P.set kept a0).length := by rw [List.length_set, (unhide HV).pl, unhide HN]
  have hvx := (unhide HV).hv
  rw [unhide HN] at hvx
  obtain ⟨w4, P4, hcopy, hck4, hPl4, hP4⟩ := hck.copyTail (ty := 3) (i := i) (kp := kept + 1) hP2 hPl hvx (by have := (unhide HV).ki; omega) (by have := unhide HI; omega) hcap
  have HP2 := hide hP2
  have HPl := hide hPl
  have Hvx := hide hvx
  have hck5 : Ck w0 w4 B r ρ' q' { k1 with ws := k1.ws.set x P4 } (trs (2 * k1.pl.length) k1.trail) := by have h5 := hck4; simp only [List.set_set] at h5; exact h5
  have Hck4 := hide hck5
  have HPl4 := hide hPl4
  have HP4 := hide hP4
  have hin : i < n0 := unhide HI
  obtain ⟨c, hc⟩ : ∃ c, n0 - (i + 1) = c := ⟨_, rfl⟩
  have y1 : (0 : Int) ≤ (c : Int) := by omega
  have y2 : (kept : Int) + 1 + (c : Int) ≤ (n0 : Int) := by have := (unhide HV).ki; omega
  have HCc := hide hc
  clear hck5 hck hP2 hPl hvx hck4 hPl4 hP4 hix u1 u2 s1 s2 q7 q8 hkn hal hal2
  have hwi : IntKind.i64.wrap ((i : Int) + 1) = (i : Int) + 1 := by simp only [IntKind.wrap_i64]; omega
  have y3 : (c : Int) ≤ 1000000000 := by omega
  have hwk : IntKind.i64.wrap ((kept : Int) + 1 + (c : Int)) = (kept : Int) + 1 + (c : Int) := by simp only [IntKind.wrap_i64]; omega
  have HCopy : Hid ((Builtin.copy_ #[23, 23] 3 #[.slice (if capX = kept + 1 then some ⟨gX, 0, none⟩ else some ⟨gX, kept + 1, none⟩) (n0 - (kept + 1)) (capX - (kept + 1)), .slice (if capX = i + 1 then some ⟨gX, 0, none⟩ else some ⟨gX, i + 1, none⟩) (n0 - (i + 1)) (capX - (i + 1))]).run Try.prog w2.drew.drew = .ok (.int .i64 (c : Int)) w4) := by show _ = _; rw [← hc]; exact hcopy
  clear hcopy hc hin hiv
  subst iv0
  go_region_held3 (fun _ => True) (trivial) (refine step_copy rfl _ _ _ _ (by rfl) (by rfl) (by rfl) (unhide HCopy) ?_)
  clear HCopy hwi x1 x2 x4 x5
  rename_i hHeld
  clear hHeld
  generalize (if capX = kept + 1 then some (⟨gX, 0, none⟩ : Addr) else some ⟨gX, kept + 1, none⟩) = pa
  generalize (if capX = i + 1 then some (⟨gX, 0, none⟩ : Addr) else some ⟨gX, i + 1, none⟩) = pb
  obtain ⟨z0, z1, d2, z3, z4, z5, z6, z7, df⟩ := (unhide Hck4).cells
  clear z0 z1 z3 z4 z5 z6 z7 df
  have hrw := (unhide Hck4).rw_
  have hxl : x < k1.ws.length := (List.getElem?_eq_some_iff.1 (unhide HV).hP).1
  obtain ⟨gV, capV, hvV, y5, y6, hBV, hltV, hrV⟩ := hrw.open (by simp; omega)
  rw [hvV] at d2 hrw
  obtain ⟨eX, fX⟩ := hrw.cell (unhide Hvx)
  have hne' : r ≠ gV := ((unhide Hck4).ne hrV (by simp) (by simp)).1
  have hne := Ne.symm hne'
  obtain ⟨nW, hnW⟩ : ∃ nW, (k1.ws.set x P4).length = nW := ⟨_, rfl⟩
  have hnW2 : k1.ws.length = nW := by rw [← hnW]; simp
  rw [show ({ k1 with ws := k1.ws.set x P4 } : KS).ws.length = nW from hnW] at d2 hvV
  have j0 : (0 : Int) ≤ (x : Int) := by omega
  have j3 : (x : Int) < (nW : Int) := by omega
  have j4 : (0 : Int) ≤ (kept : Int) + 1 + (c : Int) := by omega
  have j5 : (kept : Int) + 1 + (c : Int) ≤ (capX : Int) := by omega
  have HVV := hide hvV
  have HnW := hide hnW
  clear hrw hBV hltV hrV y5 y6 hvV hnW hnW2 hxl
  go_wp2
  go_region_held3 (fun w' => w'.cell? ⟨r, 2, none⟩ = some (.slice (some ⟨gV, 0, none⟩) nW capV)) (go_keep) (fail)
  go_wp2
  refine unhide HQ _ _ rfl rfl ⟨_, _, _, ((unhide Hck4).cutWatch (m := kept + 1 + c) (l := P4) (by simp [(List.getElem?_eq_some_iff.1 (unhide HV).hP).1]) (unhide Hvx) (by rw [unhide HPl4, ← unhide HPl]) (unhide HVV) (unhide HnW).symm (by omega)).drew, (unhide HV).lk.upd_ws _, ?_⟩
  have hst := (unhide HV).vs.str
  rw [unhide HD] at hst
  have e4 := unhide HP4
  rw [unhide HCc] at e4
  have e5 : P4.take (kept + 1 + c) = K ++ a0 :: l0.drop (i + 1) := by
    have hki := (unhide HV).ki
    have hkl : kept < P.length := by rw [(unhide HV).pl, unhide HN]; omega
    rw [e4, List.take_set, List.take_succ_eq_append_getElem hkl, List.set_append, if_neg (by simp; omega), List.drop_set_of_lt (by omega)]
    have h1 : kept - (List.take kept P).length = 0 := by simp; omega
    have h2 : P.drop (i + 1) = l0.drop (i + 1) := by
      have := congrArg (List.drop 1) (unhide HV).pd
      simpa using this
    rw [h1, h2, (unhide HV).pk]
    simp
  simp only [List.set_set]
  rw [e5]
  exact hst
end Go.Proofs.Ytmkkhpoedlbafaa

/- Package rup: visit's look for another literal to be watched. -/
namespace Go.Proofs.Ytmkkhpoedlbafaa
open Go Go.RowKit
/-- The look: j literals behind the first two were looked at, from s on, round: all false; the next one is at m. -/
structure Sc (t T : List Nat) (s j m : Nat) : Prop where
  at_ : t.length = 0 ∨ (m - 2) % t.length = (s + j) % t.length
  no : ∀ p, p < j → ∀ y, t[(s + p) % t.length]? = some y → op y ∈ T
  lo : 2 ≤ m
  hi : m ≤ t.length + 2
theorem Sc.zero {t T : List Nat} {m : Nat} (h1 : 2 ≤ m) (h2 : m ≤ t.length + 2) : Sc t T (m - 2) 0 m := ⟨.inr rfl, fun p hp => absurd hp (Nat.not_lt_zero _), h1, h2⟩
theorem Sc.wrap {t T : List Nat} {s j m : Nat} (h : Sc t T s j m) (hm : m = t.length + 2) (hl : 0 < t.length) : Sc t T s j 2 := by
  refine ⟨.inr ?_, h.no, Nat.le_refl _, by omega⟩
  rcases h.at_ with e | e
  · omega
  · rw [← e, hm]; simp
theorem Sc.look {t T : List Nat} {s j m : Nat} (h : Sc t T s j m) (hm : m < t.length + 2) : (s + j) % t.length = m - 2 := by
  have := h.lo
  rcases h.at_ with e | e
  · omega
  · rw [← e, Nat.mod_eq_of_lt (by omega)]
theorem Sc.step {t T : List Nat} {s j m y : Nat} (h : Sc t T s j m) (hm : m < t.length + 2) (hy : t[m - 2]? = some y) (hf : op y ∈ T) : Sc t T s (j + 1) (m + 1) := by
  have hl := h.look hm
  have hlo := h.lo
  refine ⟨.inr ?_, fun p hp z hz => ?_, by omega, by omega⟩
  · rw [show s + (j + 1) = (s + j) + 1 by omega, Nat.add_mod (s + j) 1, hl, show m + 1 - 2 = (m - 2) + 1 by omega, Nat.add_mod (m - 2) 1, Nat.mod_eq_of_lt (show m - 2 < t.length by omega)]
  · by_cases e : p = j
    · subst e
      rw [hl, hy] at hz
      cases hz
      exact hf
    · exact h.no p (by omega) z hz
theorem Sc.all {t T : List Nat} {s m : Nat} (h : Sc t T s t.length m) : ∀ y ∈ t, op y ∈ T := by
  intro y hy
  obtain ⟨i, hi, e⟩ := List.mem_iff_getElem.1 hy
  have hs : s % t.length < t.length := Nat.mod_lt _ (by omega)
  refine h.no ((i + t.length - s % t.length) % t.length) (Nat.mod_lt _ (by omega)) y ?_
  have : (s + (i + t.length - s % t.length) % t.length) % t.length = i := by
    rw [Nat.add_mod, Nat.mod_mod, ← Nat.add_mod, ← Nat.mod_add_mod, show s % t.length + (i + t.length - s % t.length) = i + t.length by omega, Nat.add_mod_right, Nat.mod_eq_of_lt hi]
  rw [this, List.getElem?_eq_getElem hi, e]
/-- One int is appended, as one step of a region that draws. -/
theorem step_app {ops : Array Oper} {o : Oper} {a : Act} {wa : World} {K : Act → World → Prop} {Q : Exit → Act → World → Prop} {E : Prop} (hgd : o.guard = none) (s x : Operand) (ho : o.op = .call { callee := .builtin .append, args := #[s, x], argTypes := #[23, 23] })
    (B : Nat) (v : Value) (n : Nat) (xs : List Value) (hs : a.eval s = v) (hown : wa.ownsRow B 3 1 v n xs) (g0 : Nat) (y : Int) (hx : a.eval x = .slice (some ⟨g0, 0, none⟩) 1 1) (hblk : wa.heap[g0]? = some (.cells #[.int .i64 y] 3)) (hn : n ≤ 10000000000) (hbase : B ≤ wa.heap.size)
    (h : ∀ g cap w', w'.ownsRow B 3 1 (.slice (some ⟨g, 0, none⟩) (n + 1) cap) (n + 1) (xs ++ [.int .i64 y]) → wa.grownBy w' v.ownBlock → (v.ownBlock = some g ∨ g = wa.heap.size) → g < w'.heap.size → K (a.put o.dst (.slice (some ⟨g, 0, none⟩) (n + 1) cap)) w') : if Region.wanted o (yielded ops a.tmps) = true then Oper.wp Try.prog o a wa K Q else E := by
  obtain ⟨i, hi, hz, h1, h2⟩ := inf_int
  exact step_append_lies wa hgd s x 23 ho B 3 i (.int .i64 0) 1 8 us_int hi hz h1 h2 rfl (by omega) v n xs hs hown ⟨g0, 0, none⟩ 1 1 [.int .i64 y] hx rfl (World.news_of_block hblk) (fun u hu => by simp only [List.mem_singleton] at hu; subst hu; rfl) (by omega) (by unfold maxLen; omega) (by omega) hbase _ rfl h
theorem VR.next {w0 w : World} {B r : Nat} {k : KS} {L M : List (List Int)} {S0 : Int → Prop} {n h x : Nat} {l0 : List Nat} {vX : Value} {kept i : Nat} {k' : KS} {ρ' : Nat → Nat × Nat} {q' : Mv} {K P c : List Nat} {a0 m gC nC capC : Nat} {rest : List Nat} (v : VR w0 w B r k L M S0 n h x l0 vX kept i k' ρ' q' K P) (hd : l0.drop i = a0 :: rest) (hc : k'.cs[a0]? = some (c, m)) (vC : q'.vC = .slice (some ⟨gC, 0, none⟩) nC capC) (m' : Nat) (h1 : 2 ≤ m') (h2 : m' ≤ c.length) :
    VR w0 (w.setCell ⟨gC, a0 * 2 + 1, none⟩ (.int .i64 m')) B r k L M S0 n h x l0 vX kept i { k' with cs := k'.cs.set a0 (c, m') } ρ' q' K P := by
  have hn : nC = k'.cs.length := by
    obtain ⟨_, _, hf, _, _⟩ := v.ck.rc.form
    rw [vC] at hf
    simp only [Value.slice.injEq] at hf
    exact hf.2.1
  have hvs := v.vs
  rw [hd] at hvs
  exact ⟨v.ck.setNext hc vC hn m', ⟨v.lk.pl, v.lk.hd, v.lk.em, v.lk.re, by simp [v.lk.cs], v.lk.tr⟩, v.hP, v.hv, v.pl, v.pk, v.kl, v.ki, v.pd, by rw [hd]; exact hvs.next hc h1 h2⟩
theorem VR.drew {w0 w : World} {B r : Nat} {k : KS} {L M : List (List Int)} {S0 : Int → Prop} {n h x : Nat} {l0 : List Nat} {vX : Value} {kept i : Nat} {k' : KS} {ρ' : Nat → Nat × Nat} {q' : Mv} {K P : List Nat} (v : VR w0 w B r k L M S0 n h x l0 vX kept i k' ρ' q' K P) : VR w0 w.drew B r k L M S0 n h x l0 vX kept i k' ρ' q' K P :=
  ⟨v.ck.drew, v.lk, v.hP, v.hv, v.pl, v.pk, v.kl, v.ki, v.pd, v.vs⟩
/-- Another literal is watched: the clause's literals, then the list of watches. -/
theorem VR.move {w0 w w3 : World} {B r : Nat} {k : KS} {L M : List (List Int)} {S0 : Int → Prop} {n h x : Nat} {l0 : List Nat} {vX : Value} {kept i : Nat} {k' : KS} {ρ' ρ3 : Nat → Nat × Nat} {q' : Mv} {K P t ly : List Nat} {a0 a1 y m j : Nat} {v3 : Value} (v : VR w0 w B r k L M S0 n h x l0 vX kept i k' ρ' q' K P) (hd : l0.drop i = a0 :: l0.drop (i + 1)) (hi : i < l0.length) (hc : k'.cs[a0]? = some (a1 :: x :: t, m)) (hj : t[j]? = some y) (hly : k'.ws[y]? = some ly) (hy : op y ∉ k'.trail)
    (ck : Ck w0 w3 B r ρ3 { q' with wv := q'.wv.set y v3 } { k' with cs := k'.cs.set a0 (a1 :: y :: t.set j x, m), ws := k'.ws.set y (ly ++ [a0]) } (trs (2 * k'.pl.length) k'.trail)) :
    VR w0 w3 B r k L M S0 n h x l0 vX kept (i + 1) { k' with cs := k'.cs.set a0 (a1 :: y :: t.set j x, m), ws := k'.ws.set y (ly ++ [a0]) } ρ3 { q' with wv := q'.wv.set y v3 } K P := by
  have hvs := v.vs
  rw [hd] at hvs
  have hyx : y ≠ x := by
    have hnd := (hvs.str.cl a0 _ hc).nd
    simp only [List.nodup_cons, List.mem_cons, not_or] at hnd
    exact fun e => hnd.2.1 (e ▸ List.mem_of_getElem? hj)
  refine ⟨ck, ⟨v.lk.pl, v.lk.hd, v.lk.em, v.lk.re, by simp [v.lk.cs], v.lk.tr⟩, by rw [List.getElem?_set_ne hyx]; exact v.hP, by show (q'.wv.set y v3)[x]? = _; rw [List.getElem?_set_ne hyx]; exact v.hv, v.pl, v.pk, v.kl, by have := v.ki; omega, ?_, hvs.move hc hj hly hy⟩
  have := congrArg (List.drop 1) v.pd
  simpa using this
end Go.Proofs.Ytmkkhpoedlbafaa

namespace Go.Proofs.Ytmkkhpoedlbafaa
open Go Go.RowKit
def vScanB (f : Func) : Code := cB (cB (vScan f))
def vRest (f : Func) : Code := cR (cB (cL (cR (cR (vScanB f)))))
set_option maxRecDepth 100000 in
set_option maxHeartbeats 64000000 in
theorem rest_no {Q : Exit → Act → World → Prop} {a : Act} {w0 w : World} {B r : Nat} {k : KS} {x : Nat} {L M : List (List Int)} {S0 : Int → Prop} {n h gX capX n0 kept i : Nat} {l0 K P t : List Nat} {k2 : KS} {ρ' : Nat → Nat × Nat} {q' : Mv} {a0 a1 m2 y gC nC capC gl nl capl gT NT capT : Nat} {iv tvv jv : Int}
    (hs : SE a r x gX n0 capX kept iv a0 gC tvv jv) (hv : VR w0 w B r k L M S0 n h x l0 (.slice (some ⟨gX, 0, none⟩) l0.length capX) kept i k2 ρ' q' K P) (hd : l0.drop i = a0 :: l0.drop (i + 1)) (hc : k2.cs[a0]? = some (a1 :: x :: t, m2)) (hat : At q' ρ' a0 gC nC capC gl nl capl gT NT capT) (hNT : 2 * k2.pl.length = NT) (hnl : nl = t.length + 2) (hb3 : nl ≤ 2000000000) (hm0 : 2 ≤ m2) (hm : m2 < nl) (hy : t[m2 - 2]? = some y) (hyT : op y ∈ k2.trail)
    (hq : ∀ a' w', SE a' r x gX n0 capX kept iv a0 gC tvv jv → VR w0 w' B r k L M S0 n h x l0 (.slice (some ⟨gX, 0, none⟩) l0.length capX) kept i { k2 with cs := k2.cs.set a0 (a1 :: x :: t, m2 + 1) } ρ' q' K P → Q .normal a' w') : Code.wp Try.prog (vRest Try.f31) Q a w := by
  obtain ⟨u, rfl⟩ := hs.lit
  clear hs
  obtain ⟨e1, e2, e3, e4⟩ := hv.ck.clauseAt hat.vC hat.vl hc
  have hyc : (a1 :: x :: t)[m2]? = some y := by
    obtain ⟨m3, rfl⟩ : ∃ m3, m2 = m3 + 2 := ⟨m2 - 2, by omega⟩
    simpa using hy
  have e4y := (e4 m2 y hyc).1
  have hyl : y < 2 * k2.pl.length := (hv.vs.str.cl a0 _ hc).lt y (List.mem_of_getElem? hyc)
  have tY := (hv.ck.truthAt hat.vT (y := y) hyl).1
  rw [(tv_mns hv.vs.str.tcon).2 hyT] at tY
  have d3 := hv.ck.cells.2.2.2.1
  rw [hat.vT] at d3
  have v1 : (0 : Int) ≤ (m2 : Int) := by omega
  have v2 : (m2 : Int) < (nl : Int) := by omega
  have v3 : (0 : Int) ≤ (y : Int) := by omega
  have v4 : (y : Int) < (NT : Int) := by omega
  have v5 : (m2 : Int) ≤ 2000000000 := by omega
  have HX := hide (hv.next hd hc hat.vC (m2 + 1) (by omega) (by simp only [List.length_cons]; omega)).drew
  have HQ := hide hq
  clear e4 hyc hyl hv hd hc hat hNT hnl hb3 hm0 hm hy hyT hq
  conv => arg 2; whnf
  go_wp2
  go_region
  go_wp2
  refine unhide HQ _ _ ⟨rfl, rfl, rfl, rfl, rfl, rfl, rfl, rfl, rfl, rfl, rfl, rfl, rfl, rfl⟩ ?_
  have hx := unhide HX
  rw [Int.natCast_add, Int.natCast_one] at hx
  exact hx
end Go.Proofs.Ytmkkhpoedlbafaa
