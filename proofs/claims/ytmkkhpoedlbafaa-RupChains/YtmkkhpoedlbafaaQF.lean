/- Package rup: what a copy makes of a list of watches. -/
import Derived.Test.YtmkkhpoedlbafaaQE
import Derived.Deep.QuietTactic
import Derived.BigQuiet
import Derived.Deep.DrawnRows
import Derived.WalkMore
set_option linter.unusedVariables false
set_option linter.unusedSimpArgs false

/- Package rup: a visit's state. -/
namespace Go.Proofs.Ytmkkhpoedlbafaa
open Go Go.RowKit
/-- The checker between two looks: the same but for clauses, watches, and more on the trail. -/
structure Lk (k k' : KS) : Prop where
  pl : k'.pl = k.pl
  hd : k'.head = k.head
  em : k'.empty = k.empty
  re : k'.refuted = k.refuted
  cs : k'.cs.length = k.cs.length
  tr : ∃ t, k'.trail = k.trail ++ t
theorem Lk.refl (k : KS) : Lk k k := ⟨rfl, rfl, rfl, rfl, rfl, [], by simp⟩
theorem Lk.upd_ws {k k' : KS} (h : Lk k k') (ws : List (List Nat)) : Lk k { k' with ws := ws } := ⟨h.pl, h.hd, h.em, h.re, h.cs, h.tr⟩
def VPost (w0 : World) (B r : Nat) (k : KS) (L M : List (List Int)) (S0 : Int → Prop) (n h : Nat) (e : Ending) (w' : World) : Prop := ∃ b k' ρ' q', e = .returned (.bool b) ∧ Ck w0 w' B r ρ' q' k' (trs (2 * k'.pl.length) k'.trail) ∧ Lk k k' ∧ Str L M S0 n k'.pl k'.cs k'.ws k'.trail ∧ (b = true → AllW k' (h + 1)) ∧ (b = false → Clash L S0)
structure VR (w0 w : World) (B r : Nat) (k : KS) (L M : List (List Int)) (S0 : Int → Prop) (n h x : Nat) (l0 : List Nat) (vX : Value) (kept i : Nat) (k' : KS) (ρ' : Nat → Nat × Nat) (q' : Mv) (K P : List Nat) : Prop where
  ck : Ck w0 w B r ρ' q' k' (trs (2 * k'.pl.length) k'.trail)
  lk : Lk k k'
  hP : k'.ws[x]? = some P
  hv : q'.wv[x]? = some vX
  pl : P.length = l0.length
  pk : P.take kept = K
  kl : K.length = kept
  ki : kept ≤ i
  pd : P.drop i = l0.drop i
  vs : Vs L M S0 n h x k'.pl k'.cs k'.ws k'.trail K (l0.drop i)
/-- A clause in memory. -/
theorem Ck.clause {w0 w : World} {B r : Nat} {ρ : Nat → Nat × Nat} {q : Mv} {k : KS} {tr : List Int} (h : Ck w0 w B r ρ q k tr) {i m : Nat} {c : List Nat} (hc : k.cs[i]? = some (c, m)) (hl : 0 < c.length) :
    ∃ gC capC gl capl, q.vC = .slice (some ⟨gC, 0, none⟩) k.cs.length capC ∧ q.lv[i]? = some (.slice (some ⟨gl, 0, none⟩) c.length capl) ∧ ρ gC = (2, 0) ∧ ρ gl = (6, i) ∧ i < k.cs.length := by
  have hi := (List.getElem?_eq_some_iff.1 hc).1
  have hrc := h.rc
  obtain ⟨gC, capC, hvC, _, _, _, _, hrC⟩ := hrc.open (by omega)
  obtain ⟨v, hv⟩ : ∃ v, q.lv[i]? = some v := ⟨q.lv[i]'(by rw [h.ll]; exact hi), List.getElem?_eq_getElem _⟩
  have hrl := h.rl i v _ hv hc
  obtain ⟨gl, capl, rfl, _, _, _, _, hrL⟩ := hrl.open hl
  exact ⟨gC, capC, gl, capl, hvC, hv, hrC, hrL, hi⟩
theorem Ck.clauseAt {w0 w : World} {B r : Nat} {ρ : Nat → Nat × Nat} {q : Mv} {k : KS} {tr : List Int} (h : Ck w0 w B r ρ q k tr) {i m gC nC capC gl nl capl : Nat} {c : List Nat} (vC : q.vC = .slice (some ⟨gC, 0, none⟩) nC capC) (vl : q.lv[i]? = some (.slice (some ⟨gl, 0, none⟩) nl capl)) (hc : k.cs[i]? = some (c, m)) :
    w.cell? ⟨gC, i * 2, none⟩ = some (.slice (some ⟨gl, 0, none⟩) nl capl) ∧ w.cell? ⟨gC, i * 2 + 1, none⟩ = some (.int .i64 m) ∧ w.frozen? ⟨gC, i * 2 + 1, none⟩ = false ∧ (∀ (j y : Nat), c[j]? = some y → w.cell? ⟨gl, j, none⟩ = some (.int .i64 y) ∧ w.frozen? ⟨gl, j, none⟩ = false) := by
  have hrc := h.rc
  obtain ⟨_, _, hf, _, _⟩ := hrc.form
  rw [vC] at hrc hf
  simp only [Value.slice.injEq] at hf
  rw [hf.2.1] at hrc
  have hrl := h.rl i _ _ vl hc
  obtain ⟨_, _, hf2, _, _⟩ := hrl.form
  simp only [Value.slice.injEq] at hf2
  rw [hf2.2.1] at hrl
  obtain ⟨g1, g2⟩ := ccells_get q.lv k.cs h.ll i _ _ vl hc
  exact ⟨(hrc.cell g1).1, (hrc.cell g2).1, (hrc.cell g2).2, fun j y hj => hrl.cell (by rw [List.getElem?_map, hj]; rfl)⟩
theorem Ck.truth {w0 w : World} {B r : Nat} {ρ : Nat → Nat × Nat} {q : Mv} {k : KS} {T : List Nat} {N : Nat} (h : Ck w0 w B r ρ q k (trs N T)) (hN : 0 < N) : ∃ gT capT, q.vT = .slice (some ⟨gT, 0, none⟩) N capT ∧ ρ gT = (4, 0) := by
  have hrt := h.rt
  obtain ⟨gT, capT, hvT, _, _, _, _, hrT⟩ := hrt.open (by rw [trs_length]; exact hN)
  rw [trs_length] at hvT
  exact ⟨gT, capT, hvT, hrT⟩
theorem Ck.truthAt {w0 w : World} {B r : Nat} {ρ : Nat → Nat × Nat} {q : Mv} {k : KS} {T : List Nat} {N gT nT capT : Nat} (h : Ck w0 w B r ρ q k (trs N T)) (vT : q.vT = .slice (some ⟨gT, 0, none⟩) nT capT) {y : Nat} (hy : y < N) : w.cell? ⟨gT, y, none⟩ = some (.int .i8 (tv T y)) ∧ w.frozen? ⟨gT, y, none⟩ = false := by
  have hrt := h.rt
  obtain ⟨_, _, hf, _, _⟩ := hrt.form
  rw [vT] at hrt hf
  simp only [Value.slice.injEq] at hf
  rw [hf.2.1] at hrt
  exact hrt.cell (by rw [List.getElem?_map, trs_get hy]; rfl)
/-- The clause's watched literals change places. -/
theorem VR.swap {w0 w : World} {B r : Nat} {k : KS} {L M : List (List Int)} {S0 : Int → Prop} {n h x : Nat} {l0 : List Nat} {vX : Value} {kept i : Nat} {k' : KS} {ρ' : Nat → Nat × Nat} {q' : Mv} {K P : List Nat} {a0 b m gl capl : Nat} {t rest : List Nat} (v : VR w0 w B r k L M S0 n h x l0 vX kept i k' ρ' q' K P) (hd : l0.drop i = a0 :: rest) (hc : k'.cs[a0]? = some (x :: b :: t, m)) (hl : q'.lv[a0]? = some (.slice (some ⟨gl, 0, none⟩) (x :: b :: t).length capl)) :
    VR w0 ((w.setCell ⟨gl, 0, none⟩ (.int .i64 b)).setCell ⟨gl, 1, none⟩ (.int .i64 x)).drew B r k L M S0 n h x l0 vX kept i { k' with cs := k'.cs.set a0 (b :: x :: t, m) } ρ' q' K P := by
  have hi := (List.getElem?_eq_some_iff.1 hc).1
  have c1 := v.ck.setLit hc hl rfl 0 b
  have c2 := (c1.setLit (i := a0) (c := b :: b :: t) (m := m) (by simp [hi]) hl (by simp) 1 x).drew
  simp only [List.set_set, List.set_cons_succ, List.set_cons_zero] at c2
  have hvs := v.vs
  rw [hd] at hvs
  exact ⟨c2, ⟨v.lk.pl, v.lk.hd, v.lk.em, v.lk.re, by simp [v.lk.cs], v.lk.tr⟩, v.hP, v.hv, v.pl, v.pk, v.kl, v.ki, v.pd, by rw [hd]; exact hvs.swap hc⟩
theorem Vs.rows {L M : List (List Int)} {S0 : Int → Prop} {n h x : Nat} {pl : List Int} {cs : List (List Nat × Nat)} {ws : List (List Nat)} {T K rest : List Nat} (v : Vs L M S0 n h x pl cs ws T K rest) (P : List Nat) : Vs L M S0 n h x pl cs (ws.set x P) T K rest :=
  ⟨by rw [List.set_set]; exact v.str, v.w, v.v, v.hx, v.nh, by simpa using v.xl⟩
/-- The clause is kept in the list. -/
theorem VR.kept {w0 w w3 : World} {B r : Nat} {k : KS} {L M : List (List Int)} {S0 : Int → Prop} {n h x : Nat} {l0 : List Nat} {vX vL : Value} {kept i : Nat} {k' : KS} {ρ' ρ3 : Nat → Nat × Nat} {q' : Mv} {K P t T3 : List Nat} {a0 a1 m : Nat} (v : VR w0 w B r k L M S0 n h x l0 vX kept i k' ρ' q' K P) (hi : i < l0.length) (hd : l0.drop i = a0 :: l0.drop (i + 1)) (hc : k'.cs[a0]? = some (a1 :: x :: t, m))
    (ck : Ck w0 w3 B r ρ3 { q' with vL := vL } { k' with ws := k'.ws.set x (P.set kept a0), trail := T3 } (trs (2 * k'.pl.length) T3)) (hT : (T3 = k'.trail ∧ a1 ∈ k'.trail) ∨ (T3 = k'.trail ++ [a1] ∧ a1 ∉ k'.trail ∧ op a1 ∉ k'.trail ∧ ∀ y ∈ t, op y ∈ k'.trail)) :
    VR w0 w3 B r k L M S0 n h x l0 vX (kept + 1) (i + 1) { k' with ws := k'.ws.set x (P.set kept a0), trail := T3 } ρ3 { q' with vL := vL } (K ++ [a0]) (P.set kept a0) := by
  have hvs := v.vs
  rw [hd] at hvs
  have hkP : kept < P.length := by have := v.ki; rw [v.pl]; omega
  have hxl : x < k'.ws.length := (List.getElem?_eq_some_iff.1 v.hP).1
  have hvs2 : Vs L M S0 n h x k'.pl k'.cs (k'.ws.set x (P.set kept a0)) T3 (K ++ [a0]) (l0.drop (i + 1)) := by
    rcases hT with ⟨rfl, ha⟩ | ⟨rfl, h1, h2, h3⟩
    · exact (hvs.keep hc ha).rows _
    · obtain ⟨h4, h5⟩ := hvs.says hc h3
      exact ((hvs.set h4 h1 h2 h5).keep hc (by simp)).rows _
  refine ⟨ck, ⟨v.lk.pl, v.lk.hd, v.lk.em, v.lk.re, v.lk.cs, ?_⟩, by simp [hxl], v.hv, by simp [v.pl], ?_, by simp [v.kl], by have := v.ki; omega, ?_, hvs2⟩
  · obtain ⟨t0, ht0⟩ := v.lk.tr
    rcases hT with ⟨rfl, _⟩ | ⟨rfl, _⟩
    · exact ⟨t0, ht0⟩
    · exact ⟨t0 ++ [a1], by rw [← List.append_assoc, ← ht0]⟩
  · rw [List.take_set, List.take_succ_eq_append_getElem hkP, List.set_append, if_neg (by simp; omega)]
    rw [v.pk]
    have : kept - K.length = 0 := by rw [v.kl]; omega
    rw [this]
    rfl
  · have hki := v.ki
    rw [List.drop_set_of_lt (by omega)]
    have := congrArg (List.drop 1) v.pd
    simpa using this
end Go.Proofs.Ytmkkhpoedlbafaa

/- Package rup: the frames and the pieces of visit. -/
namespace Go.Proofs.Ytmkkhpoedlbafaa
open Go Go.RowKit
def cL : Code → Code
  | .seq a _ => a
  | c => c
def cR : Code → Code
  | .seq _ b => b
  | c => c
def cB : Code → Code
  | .block _ c => c
  | .scope c => c
  | .loop c => c
  | c => c
def cT : Code → Code
  | .cond _ a _ => a
  | c => c
def vAll (f : Func) : Code := (f.body).getD .skip
def vLoop (f : Func) : Code := cB (cR (cL (cR (cR (cR (cB (cR (vAll f))))))))
def vBody (f : Func) : Code := cB (vLoop f)
def vIn (f : Func) : Code := cB (cL (cR (cR (vBody f))))
def vTail (f : Func) : Code := cR (cR (cR (cR (vIn f))))
def vScan (f : Func) : Code := cR (cT (cR (cL (cR (cR (cR (vIn f)))))))
theorem arr_lit {a : Array Value} {n : Nat} (h : a.size = n) : a = ((List.range n).map fun i => a.getD i undef).toArray := by
  apply Array.ext
  · simp [h]
  · intro i h1 h2
    simp [Array.getD_eq_getD_getElem?, h1]
theorem getD_some {a : Array Value} {i : Nat} {v : Value} (h : a[i]? = some v) : a.getD i undef = v := by simp [Array.getD_eq_getD_getElem?, h]
/-- Where a round of the visit begins. -/
structure SC (a : Act) (r x gX n0 capX : Nat) (kv iv : Int) : Prop where
  dfr : a.defers = []
  sz : a.tmps.size = 204
  s0 : a.tmps[0]? = some (.pointer (some ⟨r, 0, none⟩))
  s1 : a.tmps[1]? = some (.int .i64 x)
  s5 : a.tmps[5]? = some (.slice (some ⟨gX, 0, none⟩) n0 capX)
  s6 : a.tmps[6]? = some (.int .i64 kv)
  s18 : a.tmps[18]? = some (.slice (some ⟨gX, 0, none⟩) n0 capX)
  s19 : a.tmps[19]? = some (.int .i64 n0)
  s20 : a.tmps[20]? = some (.int .i64 iv)
set_option maxRecDepth 100000 in
theorem SC.lit {a : Act} {r x gX n0 capX : Nat} {kv iv : Int} (h : SC a r x gX n0 capX kv iv) : ∃ u : Nat → Value, a = ⟨#[.pointer (some ⟨r, 0, none⟩), .int .i64 x, u 2, u 3, u 4, .slice (some ⟨gX, 0, none⟩) n0 capX, .int .i64 kv, u 7, u 8, u 9, u 10, u 11, u 12, u 13, u 14, u 15, u 16, u 17, .slice (some ⟨gX, 0, none⟩) n0 capX, .int .i64 n0, .int .i64 iv, u 21, u 22, u 23, u 24, u 25, u 26, u 27, u 28, u 29, u 30, u 31, u 32, u 33, u 34, u 35, u 36, u 37, u 38, u 39, u 40, u 41, u 42, u 43, u 44, u 45, u 46, u 47, u 48, u 49, u 50, u 51, u 52, u 53, u 54, u 55, u 56, u 57, u 58, u 59, u 60, u 61, u 62, u 63, u 64, u 65, u 66, u 67, u 68, u 69, u 70, u 71, u 72, u 73, u 74, u 75, u 76, u 77, u 78, u 79, u 80, u 81, u 82, u 83, u 84, u 85, u 86, u 87, u 88, u 89, u 90, u 91, u 92, u 93, u 94, u 95, u 96, u 97, u 98, u 99, u 100, u 101, u 102, u 103, u 104, u 105, u 106, u 107, u 108, u 109, u 110, u 111, u 112, u 113, u 114, u 115, u 116, u 117, u 118, u 119, u 120, u 121, u 122, u 123, u 124, u 125, u 126, u 127, u 128, u 129, u 130, u 131, u 132, u 133, u 134, u 135, u 136, u 137, u 138, u 139, u 140, u 141, u 142, u 143, u 144, u 145, u 146, u 147, u 148, u 149, u 150, u 151, u 152, u 153, u 154, u 155, u 156, u 157, u 158, u 159, u 160, u 161, u 162, u 163, u 164, u 165, u 166, u 167, u 168, u 169, u 170, u 171, u 172, u 173, u 174, u 175, u 176, u 177, u 178, u 179, u 180, u 181, u 182, u 183, u 184, u 185, u 186, u 187, u 188, u 189, u 190, u 191, u 192, u 193, u 194, u 195, u 196, u 197, u 198, u 199, u 200, u 201, u 202, u 203], []⟩ := by
  obtain ⟨tmps, dfr⟩ := a
  refine ⟨fun i => tmps.getD i undef, ?_⟩
  have hd : dfr = [] := h.dfr
  have hl := arr_lit (show tmps.size = 204 from h.sz)
  have g0 : tmps.getD 0 undef = .pointer (some ⟨r, 0, none⟩) := getD_some h.s0
  have g1 : tmps.getD 1 undef = .int .i64 x := getD_some h.s1
  have g5 : tmps.getD 5 undef = .slice (some ⟨gX, 0, none⟩) n0 capX := getD_some h.s5
  have g6 : tmps.getD 6 undef = .int .i64 kv := getD_some h.s6
  have g18 : tmps.getD 18 undef = .slice (some ⟨gX, 0, none⟩) n0 capX := getD_some h.s18
  have g19 : tmps.getD 19 undef = .int .i64 n0 := getD_some h.s19
  have g20 : tmps.getD 20 undef = .int .i64 iv := getD_some h.s20
  subst hd
  congr 1
  have e : ((List.range 204).map fun i => tmps.getD i undef).toArray = #[tmps.getD 0 undef, tmps.getD 1 undef, tmps.getD 2 undef, tmps.getD 3 undef, tmps.getD 4 undef, tmps.getD 5 undef, tmps.getD 6 undef, tmps.getD 7 undef, tmps.getD 8 undef, tmps.getD 9 undef, tmps.getD 10 undef, tmps.getD 11 undef, tmps.getD 12 undef, tmps.getD 13 undef, tmps.getD 14 undef, tmps.getD 15 undef, tmps.getD 16 undef, tmps.getD 17 undef, tmps.getD 18 undef, tmps.getD 19 undef, tmps.getD 20 undef, tmps.getD 21 undef, tmps.getD 22 undef, tmps.getD 23 undef, tmps.getD 24 undef, tmps.getD 25 undef, tmps.getD 26 undef, tmps.getD 27 undef, tmps.getD 28 undef, tmps.getD 29 undef, tmps.getD 30 undef, tmps.getD 31 undef, tmps.getD 32 undef, tmps.getD 33 undef, tmps.getD 34 undef, tmps.getD 35 undef, tmps.getD 36 undef, tmps.getD 37 undef, tmps.getD 38 undef, tmps.getD 39 undef, tmps.getD 40 undef, tmps.getD 41 undef, tmps.getD 42 undef, tmps.getD 43 undef, tmps.getD 44 undef, tmps.getD 45 undef, tmps.getD 46 undef, tmps.getD 47 undef, tmps.getD 48 undef, tmps.getD 49 undef, tmps.getD 50 undef, tmps.getD 51 undef, tmps.getD 52 undef, tmps.getD 53 undef, tmps.getD 54 undef, tmps.getD 55 undef, tmps.getD 56 undef, tmps.getD 57 undef, tmps.getD 58 undef, tmps.getD 59 undef, tmps.getD 60 undef, tmps.getD 61 undef, tmps.getD 62 undef, tmps.getD 63 undef, tmps.getD 64 undef, tmps.getD 65 undef, tmps.getD 66 undef, tmps.getD 67 undef, tmps.getD 68 undef, tmps.getD 69 undef, tmps.getD 70 undef, tmps.getD 71 undef, tmps.getD 72 undef, tmps.getD 73 undef, tmps.getD 74 undef, tmps.getD 75 undef, tmps.getD 76 undef, tmps.getD 77 undef, tmps.getD 78 undef, tmps.getD 79 undef, tmps.getD 80 undef, tmps.getD 81 undef, tmps.getD 82 undef, tmps.getD 83 undef, tmps.getD 84 undef, tmps.getD 85 undef, tmps.getD 86 undef, tmps.getD 87 undef, tmps.getD 88 undef, tmps.getD 89 undef, tmps.getD 90 undef, tmps.getD 91 undef, tmps.getD 92 undef, tmps.getD 93 undef, tmps.getD 94 undef, tmps.getD 95 undef, tmps.getD 96 undef, tmps.getD 97 undef, tmps.getD 98 undef, tmps.getD 99 undef, tmps.getD 100 undef, tmps.getD 101 undef, tmps.getD 102 undef, tmps.getD 103 undef, tmps.getD 104 undef, tmps.getD 105 undef, tmps.getD 106 undef, tmps.getD 107 undef, tmps.getD 108 undef, tmps.getD 109 undef, tmps.getD 110 undef, tmps.getD 111 undef, tmps.getD 112 undef, tmps.getD 113 undef, tmps.getD 114 undef, tmps.getD 115 undef, tmps.getD 116 undef, tmps.getD 117 undef, tmps.getD 118 undef, tmps.getD 119 undef, tmps.getD 120 undef, tmps.getD 121 undef, tmps.getD 122 undef, tmps.getD 123 undef, tmps.getD 124 undef, tmps.getD 125 undef, tmps.getD 126 undef, tmps.getD 127 undef, tmps.getD 128 undef, tmps.getD 129 undef, tmps.getD 130 undef, tmps.getD 131 undef, tmps.getD 132 undef, tmps.getD 133 undef, tmps.getD 134 undef, tmps.getD 135 undef, tmps.getD 136 undef, tmps.getD 137 undef, tmps.getD 138 undef, tmps.getD 139 undef, tmps.getD 140 undef, tmps.getD 141 undef, tmps.getD 142 undef, tmps.getD 143 undef, tmps.getD 144 undef, tmps.getD 145 undef, tmps.getD 146 undef, tmps.getD 147 undef, tmps.getD 148 undef, tmps.getD 149 undef, tmps.getD 150 undef, tmps.getD 151 undef, tmps.getD 152 undef, tmps.getD 153 undef, tmps.getD 154 undef, tmps.getD 155 undef, tmps.getD 156 undef, tmps.getD 157 undef, tmps.getD 158 undef, tmps.getD 159 undef, tmps.getD 160 undef, tmps.getD 161 undef, tmps.getD 162 undef, tmps.getD 163 undef, tmps.getD 164 undef, tmps.getD 165 undef, tmps.getD 166 undef, tmps.getD 167 undef, tmps.getD 168 undef, tmps.getD 169 undef, tmps.getD 170 undef, tmps.getD 171 undef, tmps.getD 172 undef, tmps.getD 173 undef, tmps.getD 174 undef, tmps.getD 175 undef, tmps.getD 176 undef, tmps.getD 177 undef, tmps.getD 178 undef, tmps.getD 179 undef, tmps.getD 180 undef, tmps.getD 181 undef, tmps.getD 182 undef, tmps.getD 183 undef, tmps.getD 184 undef, tmps.getD 185 undef, tmps.getD 186 undef, tmps.getD 187 undef, tmps.getD 188 undef, tmps.getD 189 undef, tmps.getD 190 undef, tmps.getD 191 undef, tmps.getD 192 undef, tmps.getD 193 undef, tmps.getD 194 undef, tmps.getD 195 undef, tmps.getD 196 undef, tmps.getD 197 undef, tmps.getD 198 undef, tmps.getD 199 undef, tmps.getD 200 undef, tmps.getD 201 undef, tmps.getD 202 undef, tmps.getD 203 undef] := rfl
  rw [e, g0, g1, g5, g6, g18, g19, g20] at hl
  exact hl
/-- In the midst of a round. -/
structure SD (a : Act) (r x gX n0 capX : Nat) (kv iv : Int) (a0 gC : Nat) : Prop where
  dfr : a.defers = []
  sz : a.tmps.size = 204
  s0 : a.tmps[0]? = some (.pointer (some ⟨r, 0, none⟩))
  s1 : a.tmps[1]? = some (.int .i64 x)
  s5 : a.tmps[5]? = some (.slice (some ⟨gX, 0, none⟩) n0 capX)
  s6 : a.tmps[6]? = some (.int .i64 kv)
  s7 : a.tmps[7]? = some (.int .i64 iv)
  s8 : a.tmps[8]? = some (.int .i64 a0)
  s9 : a.tmps[9]? = some (.pointer (some ⟨gC, a0 * 2, none⟩))
  s18 : a.tmps[18]? = some (.slice (some ⟨gX, 0, none⟩) n0 capX)
  s19 : a.tmps[19]? = some (.int .i64 n0)
  s20 : a.tmps[20]? = some (.int .i64 iv)
set_option maxRecDepth 100000 in
theorem SD.lit {a : Act} {r x gX n0 capX : Nat} {kv iv : Int} {a0 gC : Nat} (h : SD a r x gX n0 capX kv iv a0 gC) : ∃ u : Nat → Value, a = ⟨#[.pointer (some ⟨r, 0, none⟩), .int .i64 x, u 2, u 3, u 4, .slice (some ⟨gX, 0, none⟩) n0 capX, .int .i64 kv, .int .i64 iv, .int .i64 a0, .pointer (some ⟨gC, a0 * 2, none⟩), u 10, u 11, u 12, u 13, u 14, u 15, u 16, u 17, .slice (some ⟨gX, 0, none⟩) n0 capX, .int .i64 n0, .int .i64 iv, u 21, u 22, u 23, u 24, u 25, u 26, u 27, u 28, u 29, u 30, u 31, u 32, u 33, u 34, u 35, u 36, u 37, u 38, u 39, u 40, u 41, u 42, u 43, u 44, u 45, u 46, u 47, u 48, u 49, u 50, u 51, u 52, u 53, u 54, u 55, u 56, u 57, u 58, u 59, u 60, u 61, u 62, u 63, u 64, u 65, u 66, u 67, u 68, u 69, u 70, u 71, u 72, u 73, u 74, u 75, u 76, u 77, u 78, u 79, u 80, u 81, u 82, u 83, u 84, u 85, u 86, u 87, u 88, u 89, u 90, u 91, u 92, u 93, u 94, u 95, u 96, u 97, u 98, u 99, u 100, u 101, u 102, u 103, u 104, u 105, u 106, u 107, u 108, u 109, u 110, u 111, u 112, u 113, u 114, u 115, u 116, u 117, u 118, u 119, u 120, u 121, u 122, u 123, u 124, u 125, u 126, u 127, u 128, u 129, u 130, u 131, u 132, u 133, u 134, u 135, u 136, u 137, u 138, u 139, u 140, u 141, u 142, u 143, u 144, u 145, u 146, u 147, u 148, u 149, u 150, u 151, u 152, u 153, u 154, u 155, u 156, u 157, u 158, u 159, u 160, u 161, u 162, u 163, u 164, u 165, u 166, u 167, u 168, u 169, u 170, u 171, u 172, u 173, u 174, u 175, u 176, u 177, u 178, u 179, u 180, u 181, u 182, u 183, u 184, u 185, u 186, u 187, u 188, u 189, u 190, u 191, u 192, u 193, u 194, u 195, u 196, u 197, u 198, u 199, u 200, u 201, u 202, u 203], []⟩ := by
  obtain ⟨tmps, dfr⟩ := a
  refine ⟨fun i => tmps.getD i undef, ?_⟩
  have hd : dfr = [] := h.dfr
  have hl := arr_lit (show tmps.size = 204 from h.sz)
  have g0 : tmps.getD 0 undef = .pointer (some ⟨r, 0, none⟩) := getD_some h.s0
  have g1 : tmps.getD 1 undef = .int .i64 x := getD_some h.s1
  have g5 : tmps.getD 5 undef = .slice (some ⟨gX, 0, none⟩) n0 capX := getD_some h.s5
  have g6 : tmps.getD 6 undef = .int .i64 kv := getD_some h.s6
  have g7 : tmps.getD 7 undef = .int .i64 iv := getD_some h.s7
  have g8 : tmps.getD 8 undef = .int .i64 a0 := getD_some h.s8
  have g9 : tmps.getD 9 undef = .pointer (some ⟨gC, a0 * 2, none⟩) := getD_some h.s9
  have g18 : tmps.getD 18 undef = .slice (some ⟨gX, 0, none⟩) n0 capX := getD_some h.s18
  have g19 : tmps.getD 19 undef = .int .i64 n0 := getD_some h.s19
  have g20 : tmps.getD 20 undef = .int .i64 iv := getD_some h.s20
  subst hd
  congr 1
  have e : ((List.range 204).map fun i => tmps.getD i undef).toArray = #[tmps.getD 0 undef, tmps.getD 1 undef, tmps.getD 2 undef, tmps.getD 3 undef, tmps.getD 4 undef, tmps.getD 5 undef, tmps.getD 6 undef, tmps.getD 7 undef, tmps.getD 8 undef, tmps.getD 9 undef, tmps.getD 10 undef, tmps.getD 11 undef, tmps.getD 12 undef, tmps.getD 13 undef, tmps.getD 14 undef, tmps.getD 15 undef, tmps.getD 16 undef, tmps.getD 17 undef, tmps.getD 18 undef, tmps.getD 19 undef, tmps.getD 20 undef, tmps.getD 21 undef, tmps.getD 22 undef, tmps.getD 23 undef, tmps.getD 24 undef, tmps.getD 25 undef, tmps.getD 26 undef, tmps.getD 27 undef, tmps.getD 28 undef, tmps.getD 29 undef, tmps.getD 30 undef, tmps.getD 31 undef, tmps.getD 32 undef, tmps.getD 33 undef, tmps.getD 34 undef, tmps.getD 35 undef, tmps.getD 36 undef, tmps.getD 37 undef, tmps.getD 38 undef, tmps.getD 39 undef, tmps.getD 40 undef, tmps.getD 41 undef, tmps.getD 42 undef, tmps.getD 43 undef, tmps.getD 44 undef, tmps.getD 45 undef, tmps.getD 46 undef, tmps.getD 47 undef, tmps.getD 48 undef, tmps.getD 49 undef, tmps.getD 50 undef, tmps.getD 51 undef, tmps.getD 52 undef, tmps.getD 53 undef, tmps.getD 54 undef, tmps.getD 55 undef, tmps.getD 56 undef, tmps.getD 57 undef, tmps.getD 58 undef, tmps.getD 59 undef, tmps.getD 60 undef, tmps.getD 61 undef, tmps.getD 62 undef, tmps.getD 63 undef, tmps.getD 64 undef, tmps.getD 65 undef, tmps.getD 66 undef, tmps.getD 67 undef, tmps.getD 68 undef, tmps.getD 69 undef, tmps.getD 70 undef, tmps.getD 71 undef, tmps.getD 72 undef, tmps.getD 73 undef, tmps.getD 74 undef, tmps.getD 75 undef, tmps.getD 76 undef, tmps.getD 77 undef, tmps.getD 78 undef, tmps.getD 79 undef, tmps.getD 80 undef, tmps.getD 81 undef, tmps.getD 82 undef, tmps.getD 83 undef, tmps.getD 84 undef, tmps.getD 85 undef, tmps.getD 86 undef, tmps.getD 87 undef, tmps.getD 88 undef, tmps.getD 89 undef, tmps.getD 90 undef, tmps.getD 91 undef, tmps.getD 92 undef, tmps.getD 93 undef, tmps.getD 94 undef, tmps.getD 95 undef, tmps.getD 96 undef, tmps.getD 97 undef, tmps.getD 98 undef, tmps.getD 99 undef, tmps.getD 100 undef, tmps.getD 101 undef, tmps.getD 102 undef, tmps.getD 103 undef, tmps.getD 104 undef, tmps.getD 105 undef, tmps.getD 106 undef, tmps.getD 107 undef, tmps.getD 108 undef, tmps.getD 109 undef, tmps.getD 110 undef, tmps.getD 111 undef, tmps.getD 112 undef, tmps.getD 113 undef, tmps.getD 114 undef, tmps.getD 115 undef, tmps.getD 116 undef, tmps.getD 117 undef, tmps.getD 118 undef, tmps.getD 119 undef, tmps.getD 120 undef, tmps.getD 121 undef, tmps.getD 122 undef, tmps.getD 123 undef, tmps.getD 124 undef, tmps.getD 125 undef, tmps.getD 126 undef, tmps.getD 127 undef, tmps.getD 128 undef, tmps.getD 129 undef, tmps.getD 130 undef, tmps.getD 131 undef, tmps.getD 132 undef, tmps.getD 133 undef, tmps.getD 134 undef, tmps.getD 135 undef, tmps.getD 136 undef, tmps.getD 137 undef, tmps.getD 138 undef, tmps.getD 139 undef, tmps.getD 140 undef, tmps.getD 141 undef, tmps.getD 142 undef, tmps.getD 143 undef, tmps.getD 144 undef, tmps.getD 145 undef, tmps.getD 146 undef, tmps.getD 147 undef, tmps.getD 148 undef, tmps.getD 149 undef, tmps.getD 150 undef, tmps.getD 151 undef, tmps.getD 152 undef, tmps.getD 153 undef, tmps.getD 154 undef, tmps.getD 155 undef, tmps.getD 156 undef, tmps.getD 157 undef, tmps.getD 158 undef, tmps.getD 159 undef, tmps.getD 160 undef, tmps.getD 161 undef, tmps.getD 162 undef, tmps.getD 163 undef, tmps.getD 164 undef, tmps.getD 165 undef, tmps.getD 166 undef, tmps.getD 167 undef, tmps.getD 168 undef, tmps.getD 169 undef, tmps.getD 170 undef, tmps.getD 171 undef, tmps.getD 172 undef, tmps.getD 173 undef, tmps.getD 174 undef, tmps.getD 175 undef, tmps.getD 176 undef, tmps.getD 177 undef, tmps.getD 178 undef, tmps.getD 179 undef, tmps.getD 180 undef, tmps.getD 181 undef, tmps.getD 182 undef, tmps.getD 183 undef, tmps.getD 184 undef, tmps.getD 185 undef, tmps.getD 186 undef, tmps.getD 187 undef, tmps.getD 188 undef, tmps.getD 189 undef, tmps.getD 190 undef, tmps.getD 191 undef, tmps.getD 192 undef, tmps.getD 193 undef, tmps.getD 194 undef, tmps.getD 195 undef, tmps.getD 196 undef, tmps.getD 197 undef, tmps.getD 198 undef, tmps.getD 199 undef, tmps.getD 200 undef, tmps.getD 201 undef, tmps.getD 202 undef, tmps.getD 203 undef] := rfl
  rw [e, g0, g1, g5, g6, g7, g8, g9, g18, g19, g20] at hl
  exact hl
/-- In the midst of a look for another literal. -/
structure SE (a : Act) (r x gX n0 capX : Nat) (kv iv : Int) (a0 gC : Nat) (tv jv : Int) : Prop where
  dfr : a.defers = []
  sz : a.tmps.size = 204
  s0 : a.tmps[0]? = some (.pointer (some ⟨r, 0, none⟩))
  s1 : a.tmps[1]? = some (.int .i64 x)
  s5 : a.tmps[5]? = some (.slice (some ⟨gX, 0, none⟩) n0 capX)
  s6 : a.tmps[6]? = some (.int .i64 kv)
  s7 : a.tmps[7]? = some (.int .i64 iv)
  s8 : a.tmps[8]? = some (.int .i64 a0)
  s9 : a.tmps[9]? = some (.pointer (some ⟨gC, a0 * 2, none⟩))
  s18 : a.tmps[18]? = some (.slice (some ⟨gX, 0, none⟩) n0 capX)
  s19 : a.tmps[19]? = some (.int .i64 n0)
  s20 : a.tmps[20]? = some (.int .i64 iv)
  s74 : a.tmps[74]? = some (.int .i64 tv)
  s75 : a.tmps[75]? = some (.int .i64 jv)
set_option maxRecDepth 100000 in
theorem SE.lit {a : Act} {r x gX n0 capX : Nat} {kv iv : Int} {a0 gC : Nat} {tv jv : Int} (h : SE a r x gX n0 capX kv iv a0 gC tv jv) : ∃ u : Nat → Value, a = ⟨#[.pointer (some ⟨r, 0, none⟩), .int .i64 x, u 2, u 3, u 4, .slice (some ⟨gX, 0, none⟩) n0 capX, .int .i64 kv, .int .i64 iv, .int .i64 a0, .pointer (some ⟨gC, a0 * 2, none⟩), u 10, u 11, u 12, u 13, u 14, u 15, u 16, u 17, .slice (some ⟨gX, 0, none⟩) n0 capX, .int .i64 n0, .int .i64 iv, u 21, u 22, u 23, u 24, u 25, u 26, u 27, u 28, u 29, u 30, u 31, u 32, u 33, u 34, u 35, u 36, u 37, u 38, u 39, u 40, u 41, u 42, u 43, u 44, u 45, u 46, u 47, u 48, u 49, u 50, u 51, u 52, u 53, u 54, u 55, u 56, u 57, u 58, u 59, u 60, u 61, u 62, u 63, u 64, u 65, u 66, u 67, u 68, u 69, u 70, u 71, u 72, u 73, .int .i64 tv, .int .i64 jv, u 76, u 77, u 78, u 79, u 80, u 81, u 82, u 83, u 84, u 85, u 86, u 87, u 88, u 89, u 90, u 91, u 92, u 93, u 94, u 95, u 96, u 97, u 98, u 99, u 100, u 101, u 102, u 103, u 104, u 105, u 106, u 107, u 108, u 109, u 110, u 111, u 112, u 113, u 114, u 115, u 116, u 117, u 118, u 119, u 120, u 121, u 122, u 123, u 124, u 125, u 126, u 127, u 128, u 129, u 130, u 131, u 132, u 133, u 134, u 135, u 136, u 137, u 138, u 139, u 140, u 141, u 142, u 143, u 144, u 145, u 146, u 147, u 148, u 149, u 150, u 151, u 152, u 153, u 154, u 155, u 156, u 157, u 158, u 159, u 160, u 161, u 162, u 163, u 164, u 165, u 166, u 167, u 168, u 169, u 170, u 171, u 172, u 173, u 174, u 175, u 176, u 177, u 178, u 179, u 180, u 181, u 182, u 183, u 184, u 185, u 186, u 187, u 188, u 189, u 190, u 191, u 192, u 193, u 194, u 195, u 196, u 197, u 198, u 199, u 200, u 201, u 202, u 203], []⟩ := by
  obtain ⟨tmps, dfr⟩ := a
  refine ⟨fun i => tmps.getD i undef, ?_⟩
  have hd : dfr = [] := h.dfr
  have hl := arr_lit (show tmps.size = 204 from h.sz)
  have g0 : tmps.getD 0 undef = .pointer (some ⟨r, 0, none⟩) := getD_some h.s0
  have g1 : tmps.getD 1 undef = .int .i64 x := getD_some h.s1
  have g5 : tmps.getD 5 undef = .slice (some ⟨gX, 0, none⟩) n0 capX := getD_some h.s5
  have g6 : tmps.getD 6 undef = .int .i64 kv := getD_some h.s6
  have g7 : tmps.getD 7 undef = .int .i64 iv := getD_some h.s7
  have g8 : tmps.getD 8 undef = .int .i64 a0 := getD_some h.s8
  have g9 : tmps.getD 9 undef = .pointer (some ⟨gC, a0 * 2, none⟩) := getD_some h.s9
  have g18 : tmps.getD 18 undef = .slice (some ⟨gX, 0, none⟩) n0 capX := getD_some h.s18
  have g19 : tmps.getD 19 undef = .int .i64 n0 := getD_some h.s19
  have g20 : tmps.getD 20 undef = .int .i64 iv := getD_some h.s20
  have g74 : tmps.getD 74 undef = .int .i64 tv := getD_some h.s74
  have g75 : tmps.getD 75 undef = .int .i64 jv := getD_some h.s75
  subst hd
  congr 1
  have e : ((List.range 204).map fun i => tmps.getD i undef).toArray = #[tmps.getD 0 undef, tmps.getD 1 undef, tmps.getD 2 undef, tmps.getD 3 undef, tmps.getD 4 undef, tmps.getD 5 undef, tmps.getD 6 undef, tmps.getD 7 undef, tmps.getD 8 undef, tmps.getD 9 undef, tmps.getD 10 undef, tmps.getD 11 undef, tmps.getD 12 undef, tmps.getD 13 undef, tmps.getD 14 undef, tmps.getD 15 undef, tmps.getD 16 undef, tmps.getD 17 undef, tmps.getD 18 undef, tmps.getD 19 undef, tmps.getD 20 undef, tmps.getD 21 undef, tmps.getD 22 undef, tmps.getD 23 undef, tmps.getD 24 undef, tmps.getD 25 undef, tmps.getD 26 undef, tmps.getD 27 undef, tmps.getD 28 undef, tmps.getD 29 undef, tmps.getD 30 undef, tmps.getD 31 undef, tmps.getD 32 undef, tmps.getD 33 undef, tmps.getD 34 undef, tmps.getD 35 undef, tmps.getD 36 undef, tmps.getD 37 undef, tmps.getD 38 undef, tmps.getD 39 undef, tmps.getD 40 undef, tmps.getD 41 undef, tmps.getD 42 undef, tmps.getD 43 undef, tmps.getD 44 undef, tmps.getD 45 undef, tmps.getD 46 undef, tmps.getD 47 undef, tmps.getD 48 undef, tmps.getD 49 undef, tmps.getD 50 undef, tmps.getD 51 undef, tmps.getD 52 undef, tmps.getD 53 undef, tmps.getD 54 undef, tmps.getD 55 undef, tmps.getD 56 undef, tmps.getD 57 undef, tmps.getD 58 undef, tmps.getD 59 undef, tmps.getD 60 undef, tmps.getD 61 undef, tmps.getD 62 undef, tmps.getD 63 undef, tmps.getD 64 undef, tmps.getD 65 undef, tmps.getD 66 undef, tmps.getD 67 undef, tmps.getD 68 undef, tmps.getD 69 undef, tmps.getD 70 undef, tmps.getD 71 undef, tmps.getD 72 undef, tmps.getD 73 undef, tmps.getD 74 undef, tmps.getD 75 undef, tmps.getD 76 undef, tmps.getD 77 undef, tmps.getD 78 undef, tmps.getD 79 undef, tmps.getD 80 undef, tmps.getD 81 undef, tmps.getD 82 undef, tmps.getD 83 undef, tmps.getD 84 undef, tmps.getD 85 undef, tmps.getD 86 undef, tmps.getD 87 undef, tmps.getD 88 undef, tmps.getD 89 undef, tmps.getD 90 undef, tmps.getD 91 undef, tmps.getD 92 undef, tmps.getD 93 undef, tmps.getD 94 undef, tmps.getD 95 undef, tmps.getD 96 undef, tmps.getD 97 undef, tmps.getD 98 undef, tmps.getD 99 undef, tmps.getD 100 undef, tmps.getD 101 undef, tmps.getD 102 undef, tmps.getD 103 undef, tmps.getD 104 undef, tmps.getD 105 undef, tmps.getD 106 undef, tmps.getD 107 undef, tmps.getD 108 undef, tmps.getD 109 undef, tmps.getD 110 undef, tmps.getD 111 undef, tmps.getD 112 undef, tmps.getD 113 undef, tmps.getD 114 undef, tmps.getD 115 undef, tmps.getD 116 undef, tmps.getD 117 undef, tmps.getD 118 undef, tmps.getD 119 undef, tmps.getD 120 undef, tmps.getD 121 undef, tmps.getD 122 undef, tmps.getD 123 undef, tmps.getD 124 undef, tmps.getD 125 undef, tmps.getD 126 undef, tmps.getD 127 undef, tmps.getD 128 undef, tmps.getD 129 undef, tmps.getD 130 undef, tmps.getD 131 undef, tmps.getD 132 undef, tmps.getD 133 undef, tmps.getD 134 undef, tmps.getD 135 undef, tmps.getD 136 undef, tmps.getD 137 undef, tmps.getD 138 undef, tmps.getD 139 undef, tmps.getD 140 undef, tmps.getD 141 undef, tmps.getD 142 undef, tmps.getD 143 undef, tmps.getD 144 undef, tmps.getD 145 undef, tmps.getD 146 undef, tmps.getD 147 undef, tmps.getD 148 undef, tmps.getD 149 undef, tmps.getD 150 undef, tmps.getD 151 undef, tmps.getD 152 undef, tmps.getD 153 undef, tmps.getD 154 undef, tmps.getD 155 undef, tmps.getD 156 undef, tmps.getD 157 undef, tmps.getD 158 undef, tmps.getD 159 undef, tmps.getD 160 undef, tmps.getD 161 undef, tmps.getD 162 undef, tmps.getD 163 undef, tmps.getD 164 undef, tmps.getD 165 undef, tmps.getD 166 undef, tmps.getD 167 undef, tmps.getD 168 undef, tmps.getD 169 undef, tmps.getD 170 undef, tmps.getD 171 undef, tmps.getD 172 undef, tmps.getD 173 undef, tmps.getD 174 undef, tmps.getD 175 undef, tmps.getD 176 undef, tmps.getD 177 undef, tmps.getD 178 undef, tmps.getD 179 undef, tmps.getD 180 undef, tmps.getD 181 undef, tmps.getD 182 undef, tmps.getD 183 undef, tmps.getD 184 undef, tmps.getD 185 undef, tmps.getD 186 undef, tmps.getD 187 undef, tmps.getD 188 undef, tmps.getD 189 undef, tmps.getD 190 undef, tmps.getD 191 undef, tmps.getD 192 undef, tmps.getD 193 undef, tmps.getD 194 undef, tmps.getD 195 undef, tmps.getD 196 undef, tmps.getD 197 undef, tmps.getD 198 undef, tmps.getD 199 undef, tmps.getD 200 undef, tmps.getD 201 undef, tmps.getD 202 undef, tmps.getD 203 undef] := rfl
  rw [e, g0, g1, g5, g6, g7, g8, g9, g18, g19, g20, g74, g75] at hl
  exact hl
end Go.Proofs.Ytmkkhpoedlbafaa

/- Package rup: the tail of a round of visit: the clause is kept. -/
namespace Go.Proofs.Ytmkkhpoedlbafaa
open Go Go.RowKit
/-- What a round of the visit needs of the place of things. -/
structure At (q : Mv) (ρ : Nat → Nat × Nat) (a0 gC nC capC gl nl capl gT NT capT : Nat) : Prop where
  vC : q.vC = .slice (some ⟨gC, 0, none⟩) nC capC
  vl : q.lv[a0]? = some (.slice (some ⟨gl, 0, none⟩) nl capl)
  vT : q.vT = .slice (some ⟨gT, 0, none⟩) NT capT
  rC : ρ gC = (2, 0)
  rl : ρ gl = (6, a0)
  rT : ρ gT = (4, 0)
set_option maxRecDepth 100000 in
set_option maxHeartbeats 64000000 in
theorem tail_keep {Q : Exit → Act → World → Prop} {a : Act} {w0 w1 : World} {B r : Nat} {k : KS} {x : Nat} {L M : List (List Int)} {S0 : Int → Prop} {n h gX capX n0 kept i : Nat} {l0 K P t : List Nat} {k1 : KS} {ρ' : Nat → Nat × Nat} {q' : Mv} {a0 a1 m gC nC capC gl nl capl gT NT capT : Nat} (iv : Int)
    (hs : SD a r x gX n0 capX kept iv a0 gC) (hv : VR w0 w1 B r k L M S0 n h x l0 (.slice (some ⟨gX, 0, none⟩) l0.length capX) kept i k1 ρ' q' K P) (hN : l0.length = n0) (hi : i < n0) (hd : l0.drop i = a0 :: l0.drop (i + 1)) (hc : k1.cs[a0]? = some (a1 :: x :: t, m)) (hat : At q' ρ' a0 gC nC capC gl nl capl gT NT capT) (hNT : 2 * k1.pl.length = NT) (hnl : 2 ≤ nl) (hb : n0 ≤ 1000000000) (hb2 : NT ≤ 2000000000)
    (hT : a1 ∈ k1.trail ∨ (a1 ∉ k1.trail ∧ op a1 ∉ k1.trail ∧ ∀ y ∈ t, op y ∈ k1.trail))
    (hq : ∀ a' w', SC a' r x gX n0 capX (kept + 1) iv → (∃ k2 ρ2 q2 K2 P2, VR w0 w' B r k L M S0 n h x l0 (.slice (some ⟨gX, 0, none⟩) l0.length capX) (kept + 1) (i + 1) k2 ρ2 q2 K2 P2) → Q .normal a' w') : Code.wp Try.prog (vTail Try.f31) Q a w1 := by
  obtain ⟨u, rfl⟩ := hs.lit
  clear hs
  have hal : a1 < 2 * k1.pl.length := (hv.vs.str.cl a0 _ hc).lt a1 (.head _)
  have htf : (tv k1.trail a1 == -1) = false := by
    rcases hT with h1 | ⟨h1, h2, _⟩
    · rw [tv_one.2 h1]; rfl
    · rw [tv_zero.2 ⟨h1, h2⟩]; rfl
  have hkn : kept < n0 := by have := hv.ki; omega
  have eX := hv.ck.rx x _ _ hv.hv hv.hP
  rw [hv.pl] at eX
  have hkP : kept < P.length := by rw [hv.pl, hN]; exact hkn
  obtain ⟨pk, hpk⟩ : ∃ pk, P[kept]? = some pk := ⟨_, List.getElem?_eq_getElem hkP⟩
  obtain ⟨pK, fK⟩ := eX.cell (j := kept) (u := .int .i64 (pk : Nat)) (by rw [List.getElem?_map, hpk]; rfl)
  have Hst := hide (hv.ck.setWatch hv.hP hv.hv (by rw [hv.pl]) kept a0)
  have u1 : (0 : Int) ≤ (kept : Int) := by omega
  have u2 : (kept : Int) < (n0 : Int) := by omega
  have u3 : (kept : Int) ≤ 1000000000 := by omega
  have HV := hide hv
  have HT := hide hT
  have HC := hide hc
  have HD := hide hd
  have HN := hide hN
  have HA := hide hat
  have HQ := hide hq
  have HNT := hide hNT
  have HI := hide hi
  have hal2 : a1 < NT := by omega
  have s1 : (0 : Int) ≤ (a1 : Int) := by omega
  have s2 : (a1 : Int) < (NT : Int) := by omega
  have q7 : (1 : Int) < (nl : Int) := by omega
  have q8 : (0 : Int) < (nl : Int) := by omega
  have HB2 := hide hb2
  clear hv hT hc hd hat hq eX hkP hpk hN hNT hi hb2
  conv => arg 2; whnf
  go_wp2
  clear pK fK
  revert Hst
  generalize w1.setCell ⟨gX, kept, none⟩ (.int .i64 a0) = w2
  intro Hst
  obtain ⟨z0, z1, z2, d3, z4, z5, z6, z7, df⟩ := (unhide Hst).cells
  clear z0 z1 z2 z4 z5 z6 z7 df
  rw [(unhide HA).vT] at d3
  obtain ⟨e1, e2, e3, e4⟩ := (unhide Hst).clauseAt (unhide HA).vC (unhide HA).vl (unhide HC)
  have tA := ((unhide Hst).truthAt (unhide HA).vT (y := a1) hal).1
  have e40 := (e4 0 a1 rfl).1
  clear e2 e3 e4
  go_region
  clear d3 tA
  have Hst2 := hide (unhide Hst).drew
  clear Hst
  go_wp2_with (go_at_call 28; refine (set_any w0 _ B r ρ' q' _ a1 (unhide Hst2) hal (by show k1.pl.length ≤ _; have := unhide HNT; have := unhide HB2; omega) (unhide HV).vs.str.len).mono ?_; intro e w3 h3; obtain ⟨he, h3⟩ := h3; subst he; have H3 := hide h3; clear h3 e1 e40)
  refine unhide HQ _ _ ⟨rfl, rfl, rfl, rfl, rfl, rfl, rfl, rfl, rfl⟩ ?_
  obtain ⟨ρ3, v3, h3⟩ := unhide H3
  rcases unhide HT with h1 | ⟨h1, h2, h4⟩
  · have e : ¬ tv k1.trail a1 = 0 := by rw [tv_one.2 h1]; decide
    simp only [if_neg e] at h3
    exact ⟨_, _, _, _, _, (unhide HV).kept (by rw [unhide HN]; exact unhide HI) (unhide HD) (unhide HC) h3 (.inl ⟨rfl, h1⟩)⟩
  · have e : tv k1.trail a1 = 0 := tv_zero.2 ⟨h1, h2⟩
    simp only [if_pos e] at h3
    exact ⟨_, _, _, _, _, (unhide HV).kept (by rw [unhide HN]; exact unhide HI) (unhide HD) (unhide HC) h3 (.inr ⟨rfl, h1, h2, h4⟩)⟩
end Go.Proofs.Ytmkkhpoedlbafaa

namespace Go.Proofs.Ytmkkhpoedlbafaa
open Go Go.RowKit
theorem set_same {ws : List (List Nat)} {x : Nat} {P : List Nat} (h : ws[x]? = some P) : ws.set x P = ws := by
  apply List.ext_getElem?
  intro i
  rw [List.getElem?_set]
  by_cases e : x = i
  · subst e; rw [if_pos rfl, if_pos (List.getElem?_eq_some_iff.1 h).1]; exact h.symm
  · simp [e]
def putL (P : List Nat) (o : Nat) : List Nat → List Nat
  | [] => P
  | y :: ys => putL (P.set o y) (o + 1) ys
theorem putL_length : ∀ (ys P : List Nat) (o : Nat), (putL P o ys).length = P.length
  | [], _, _ => rfl
  | y :: ys, P, o => by simp [putL, putL_length ys]
theorem putL_take : ∀ (ys P : List Nat) (o : Nat), o + ys.length ≤ P.length → (putL P o ys).take (o + ys.length) = P.take o ++ ys
  | [], P, o, _ => by simp [putL]
  | y :: ys, P, o, h => by
    simp only [List.length_cons] at h
    have := putL_take ys (P.set o y) (o + 1) (by simp; omega)
    simp only [putL, List.length_cons]
    rw [show o + (ys.length + 1) = o + 1 + ys.length by omega, this]
    rw [List.take_set, List.take_succ_eq_append_getElem (show o < P.length by omega), List.set_append, if_neg (by simp; omega)]
    have e : o - (P.take o).length = 0 := by simp; omega
    rw [e]
    simp
theorem Ck.putWatch {w0 : World} {B r : Nat} {ρ : Nat → Nat × Nat} {q : Mv} {tr : List Int} {x gX n0 capX : Nat} (hl : q.wv[x]? = some (.slice (some ⟨gX, 0, none⟩) n0 capX)) : ∀ (ys P : List Nat) (o : Nat) (w : World) (k : KS), Ck w0 w B r ρ q k tr → k.ws[x]? = some P → n0 = P.length → Ck w0 (w.setCells gX o (ys.map nv)) B r ρ q { k with ws := k.ws.set x (putL P o ys) } tr
  | [], P, o, w, k, h, hP, _ => by
    simp only [List.map_nil, World.setCells, putL, set_same hP]
    exact h
  | y :: ys, P, o, w, k, h, hP, hn => by
    have hi := (List.getElem?_eq_some_iff.1 hP).1
    have h1 := h.setWatch hP hl hn o y
    have h2 := Ck.putWatch hl ys (P.set o y) (o + 1) _ _ h1 (by simp [hi]) (by simp [hn])
    simp only [List.set_set] at h2
    exact h2
theorem inf1 : (Try.prog.info? 3).map (·.size) = some 1 := by kernel_rfl
theorem Ck.copyTail {w0 w : World} {B r : Nat} {ρ : Nat → Nat × Nat} {q : Mv} {k : KS} {tr : List Int} (h : Ck w0 w B r ρ q k tr) {x gX n0 capX kp i : Nat} {P : List Nat} {ty : TypeId} (hP : k.ws[x]? = some P) (hn : n0 = P.length) (hv : q.wv[x]? = some (.slice (some ⟨gX, 0, none⟩) n0 capX)) (hk : kp ≤ i + 1) (hi : i + 1 ≤ n0) (hcap : n0 ≤ capX) :
    ∃ w3 P', (Builtin.copy_ #[23, 23] ty #[.slice (if capX = kp then some ⟨gX, 0, none⟩ else some ⟨gX, kp, none⟩) (n0 - kp) (capX - kp), .slice (if capX = i + 1 then some ⟨gX, 0, none⟩ else some ⟨gX, i + 1, none⟩) (n0 - (i + 1)) (capX - (i + 1))]).run Try.prog w = .ok (.int .i64 ((n0 - (i + 1) : Nat) : Int)) w3 ∧ Ck w0 w3 B r ρ q { k with ws := k.ws.set x P' } tr ∧ P'.length = P.length ∧ P'.take (kp + (n0 - (i + 1))) = P.take kp ++ P.drop (i + 1) := by
  by_cases hz : n0 = i + 1
  · refine ⟨w, P, ?_, by rw [set_same hP]; exact h, rfl, ?_⟩
    · have e : n0 - (i + 1) = 0 := by omega
      rw [e]
      exact run_copy_none w _ _ _ 3 _ _ _ _ _ _ us_int inf1 (by simp)
    · rw [show n0 - (i + 1) = 0 by omega, List.drop_of_length_le (by omega)]
      simp
  · have hrow := h.rx x _ _ hv hP
    rw [← hn] at hrow
    have hcl : (P.drop (i + 1)).length = n0 - (i + 1) := by simp [hn]
    refine ⟨w.setCells gX kp ((P.drop (i + 1)).map nv), putL P kp (P.drop (i + 1)), ?_, Ck.putWatch hv _ P kp w k h hP hn, putL_length _ _ _, ?_⟩
    · rw [if_neg (by omega), if_neg (by omega)]
      have hr := run_copy_cells (P := Try.prog) w 23 23 ty 3 gX kp (n0 - kp) (capX - kp) ⟨gX, i + 1, none⟩ (n0 - (i + 1)) (capX - (i + 1)) ((P.drop (i + 1)).map nv) us_int inf1 (by rw [List.length_map, hcl]; exact (Nat.min_eq_left (by omega)).symm)
        (fun j v hj => by
          rw [Addr.add_mid]
          rw [List.map_drop, List.getElem?_drop] at hj
          exact (hrow.cell hj).1)
        (fun j hj => by
          rw [List.length_map, hcl] at hj
          have hlt : kp + j < P.length := by omega
          rw [(hrow.cell (j := kp + j) (u := nv P[kp + j]) (by rw [List.getElem?_map, List.getElem?_eq_getElem hlt]; rfl)).1]
          rfl)
        (fun j hj => by
          rw [List.length_map, hcl] at hj
          have hlt : kp + j < P.length := by omega
          exact (hrow.cell (j := kp + j) (u := nv P[kp + j]) (by rw [List.getElem?_map, List.getElem?_eq_getElem hlt]; rfl)).2)
        (fun v hv => by
          obtain ⟨y, _, rfl⟩ := List.mem_map.1 hv
          rfl)
      rw [hr, List.length_map, hcl]
      rfl
    · have := putL_take (P.drop (i + 1)) P kp (by rw [hcl, ← hn]; omega)
      rw [hcl] at this
      exact this
theorem copy_nil {w : World} {ty : TypeId} {n m c : Nat} (d a : Option Addr) : (Builtin.copy_ #[23, 23] ty #[.slice d n m, .slice a 0 c]).run Try.prog w = .ok (.int .i64 0) w := run_copy_none w _ _ _ 3 _ _ _ _ _ _ us_int inf1 (by simp)
/-- A copy, as one step of a region that draws. -/
theorem step_copy {ops : Array Oper} {o : Oper} {a : Act} {w w' : World} {K : Act → World → Prop} {Q : Exit → Act → World → Prop} {E : Prop} {v : Value} (hgd : o.guard = none) (d s : Operand) (vd vs : Value) (ho : o.op = .call { callee := .builtin .copy, args := #[d, s], argTypes := #[23, 23] }) (hd : a.eval d = vd) (hs : a.eval s = vs)
    (hr : (Builtin.copy_ #[23, 23] o.type #[vd, vs]).run Try.prog w = .ok v w') (h : K (a.put o.dst v) w') : if Region.wanted o (yielded ops a.tmps) = true then Oper.wp Try.prog o a w K Q else E := by
  have hw : Region.wanted o (yielded ops a.tmps) = true := by simp [Region.wanted, hgd]
  rw [if_pos hw]
  unfold Oper.wp execOp
  simp only [ho, resolve, invoke, builtin, Sem.run_bind, Sem.run_pure, Result.andThen_ok, List.map_toArray, List.map_cons, List.map_nil, hd, hs, hr]
  exact h
end Go.Proofs.Ytmkkhpoedlbafaa
