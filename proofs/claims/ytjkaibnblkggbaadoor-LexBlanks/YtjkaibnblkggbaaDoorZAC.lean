/- The walk of LexBlanks. -/
import Derived.Test.YtjkaibnblkggbaaDoorZAB
import Derived.Test.YtjkaibnblkggbaaDoorRows
import Derived.ProofKit
import Derived.OpenShut
import Derived.SizedLaws
import Derived.Carry
import Derived.BigRegion
set_option linter.unusedVariables false
set_option linter.unusedSimpArgs false

/- Tokens as they lie; what Tokens hands back, in short; the chapter's example. -/
namespace Go.Proofs.YtjkaibnblkggbaaDoor
open Go Go.RowKit

/-- A row of tokens (kind, text, place) as it lies. -/
def RdT (w : World) (v : Value) (l : List (Int × ByteArray × Int)) : Prop :=
  ∃ a c, v = .slice a l.length c ∧ (l ≠ [] → ∃ g, a = some ⟨g, 0, none⟩ ∧ g < w.heap.size ∧ ∀ j x, l[j]? = some x → w.cell? ⟨g, j * 3, none⟩ = some (.int .i64 x.1) ∧ w.cell? ⟨g, j * 3 + 1, none⟩ = some (.string x.2.1) ∧ w.cell? ⟨g, j * 3 + 2, none⟩ = some (.int .i64 x.2.2))
theorem RdT.below {w w' : World} {v : Value} {l : List (Int × ByteArray × Int)} (h : RdT w v l) (hb : Below w.heap.size w w') : RdT w' v l := by
  obtain ⟨a, c, rfl, h⟩ := h
  refine ⟨a, c, rfl, fun hl => ?_⟩
  obtain ⟨g, e, hg, hc⟩ := h hl
  refine ⟨g, e, Nat.lt_of_lt_of_le hg hb.size, fun j x hx => ?_⟩
  rw [hb.cell (p := ⟨g, j * 3, none⟩) hg, hb.cell (p := ⟨g, j * 3 + 1, none⟩) hg, hb.cell (p := ⟨g, j * 3 + 2, none⟩) hg]
  exact hc j x hx
/-- Its cells. -/
def tcells (l : List (Int × ByteArray × Int)) : List Value := l.flatMap fun x => [.int .i64 x.1, .string x.2.1, .int .i64 x.2.2]
theorem tcells_get : ∀ (l : List (Int × ByteArray × Int)) (j : Nat) x, l[j]? = some x → (tcells l)[j * 3]? = some (.int .i64 x.1) ∧ (tcells l)[j * 3 + 1]? = some (.string x.2.1) ∧ (tcells l)[j * 3 + 2]? = some (.int .i64 x.2.2) := by
  intro l
  induction l with
  | nil => intro j x h; cases h
  | cons y l ih =>
    intro j x h
    have e : tcells (y :: l) = [.int .i64 y.1, .string y.2.1, .int .i64 y.2.2] ++ tcells l := rfl
    cases j with
    | zero =>
      obtain rfl : y = x := by simpa using h
      exact ⟨rfl, rfl, rfl⟩
    | succ j =>
      have := ih j x (by simpa using h)
      rw [e, show (j + 1) * 3 = j * 3 + 3 by omega]
      exact this
theorem own_rdT {w : World} {B n : Nat} {v : Value} {l : List (Int × ByteArray × Int)} (h : w.ownsRow B 36 3 v n (tcells l)) (hn : n = l.length) : RdT w v l := by
  obtain ⟨h1, ⟨rfl, h0⟩ | ⟨g, cap, cur, rfl, hB, hc, hle, hm, hsz, htk⟩⟩ := h
  · subst hn
    have : l = [] := List.length_eq_zero_iff.1 h0
    subst this
    exact ⟨none, 0, rfl, fun h => absurd rfl h⟩
  · subst hn
    refine ⟨_, cap, rfl, fun _ => ⟨g, rfl, (Array.getElem?_eq_some_iff.1 hc).1, fun j x hx => ?_⟩⟩
    have hk : ∀ (i : Nat) u, (tcells l)[i]? = some u → w.cell? ⟨g, i, none⟩ = some u := fun i u hu => by
      rw [← htk, List.getElem?_take] at hu
      split at hu
      · exact (blk hc).2.1 i u (by rw [← Array.getElem?_toList]; exact hu)
      · cases hu
    have := tcells_get l j x hx
    exact ⟨hk _ _ this.1, hk _ _ this.2.1, hk _ _ this.2.2⟩
/-- The tokens of a text, with its end. -/
def tkL (s : ByteArray) : List (Int × ByteArray × Int) := (tk s).1.map (fun x => (x.1, s.extract x.2.1 x.2.2, (x.2.1 : Int))) ++ [(0, ⟨#[]⟩, (s.size : Int))]
theorem toks_eq (s : ByteArray) : ∀ l : List (Int × Nat × Nat), toks s l = tcells (l.map (fun x => (x.1, s.extract x.2.1 x.2.2, (x.2.1 : Int)))) := by
  intro l
  induction l with
  | nil => rfl
  | cons x l ih =>
    have e1 : toks s (x :: l) = tokC s x ++ toks s l := rfl
    rw [e1, ih]
    rfl
theorem tcells_app (a b : List (Int × ByteArray × Int)) : tcells (a ++ b) = tcells a ++ tcells b := List.flatMap_append
theorem tkL_len (s : ByteArray) : (tkL s).length = (tk s).1.length + 1 := by simp [tkL]
/-- What Tokens hands back: its tokens. -/
theorem tkp_ok {s : ByteArray} {w w' : World} {e : Ending} (h : TkP s (tk s) w e w') (hn : (tk s).2 = none) : Below w.heap.size w w' ∧ ∃ v, e = .returned (.tuple #[v, .nilIface]) ∧ RdT w' v (tkL s) := by
  obtain ⟨hb, ⟨_, v, he, ho⟩ | ⟨a, n, b, hx, _⟩⟩ := h
  · refine ⟨hb, v, he, own_rdT (B := w.heap.size) (n := (tk s).1.length + 1) ?_ (tkL_len s).symm⟩
    unfold tkL
    rw [tcells_app, ← toks_eq]
    exact ho
  · rw [hn] at hx; cases hx
theorem tkp_err {s : ByteArray} {w w' : World} {e : Ending} {a n : Nat} (h : TkP s (tk s) w e w') (hn : (tk s).2 = some (a, n)) : Below w.heap.size w w' ∧ ∃ b, e = .returned (.tuple #[.slice none 0 0, .iface 43 (.pointer (some ⟨b, 0, none⟩))]) ∧ w'.heap[b]? = some (.cells #[.int .i64 a, .int .i64 n] 46) := by
  obtain ⟨hb, ⟨hx, _⟩ | ⟨a2, n2, b, hx, h1, h2, h3⟩⟩ := h
  · rw [hn] at hx; cases hx
  · rw [hn] at hx
    obtain ⟨rfl, rfl⟩ : a = a2 ∧ n = n2 := by simpa using hx
    exact ⟨hb, b, h2, h3⟩
theorem tk_two : (tk ⟨#[120, 32, 40, 42, 32, 121]⟩).2 = some (2, 140) := by kernel_rfl
theorem tkL_one : tkL ⟨#[120, 32, 58, 61, 32, 33, 120, 32, 43, 32, 49]⟩ = [(1, ⟨#[120]⟩, 0), (4, ⟨#[58, 61]⟩, 2), (4, ⟨#[33]⟩, 5), (1, ⟨#[120]⟩, 6), (4, ⟨#[43]⟩, 8), (3, ⟨#[49]⟩, 10), (0, ⟨#[]⟩, 11)] := by kernel_rfl
set_option maxRecDepth 100000 in
set_option maxHeartbeats 16000000 in
theorem known_any (w : World) (hG : SG w) (hE : EH w) : Calls Tryd.prog 8 #[] w fun e w' => e = .returned (.bool true) ∧ Below w.heap.size w w' := by
  have h1w := hG.lt
  have c1 := tokens_any ⟨#[120, 32, 58, 61, 32, 33, 120, 32, 43, 32, 49]⟩ w hG
  have cw1 := lexWord_any ⟨#[108, 101, 116]⟩
  rw [show isWd ⟨#[108, 101, 116]⟩ = true from by kernel_rfl] at cw1
  have cw2 := lexWord_any ⟨#[120]⟩
  rw [show isWd ⟨#[120]⟩ = false from by kernel_rfl] at cw2
  replace hG := hide hG
  replace hE := hide hE
  go_enter Tryd.func8, Tryd.ntmps8
  go_wp2_with fail
  refine c1.mono ?_
  rintro e w1 h1
  obtain ⟨hb1, v, rfl, hr1⟩ := tkp_ok h1 (by kernel_rfl)
  rw [tkL_one] at hr1
  have c2 := tokens_any ⟨#[120, 32, 40, 42, 32, 121]⟩ w1 ((unhide hG).below hb1 h1w)
  obtain ⟨a, c, rfl, hr2⟩ := hr1
  obtain ⟨g, rfl, hg, hc⟩ := hr2 (by simp)
  have r1 : w1.cell? ⟨g, 4, none⟩ = some (.string ⟨#[58, 61]⟩) := (hc 1 _ rfl).2.1
  have r2 : w1.cell? ⟨g, 7, none⟩ = some (.string ⟨#[33]⟩) := (hc 2 _ rfl).2.1
  have r5 : w1.cell? ⟨g, 15, none⟩ = some (.int .i64 3) := (hc 5 _ rfl).1
  have r6 : w1.cell? ⟨g, 20, none⟩ = some (.int .i64 11) := (hc 6 _ rfl).2.2
  replace hc := hide hc
  clear hr2 c1 h1
  go_wp2_with fail
  refine c2.mono ?_
  rintro e w2 h2
  obtain ⟨hb2, b, rfl, hr2⟩ := tkp_err h2 tk_two
  have hb12 := hb1.trans (hb2.mono hb1.size)
  have c3 := told_err 2 140 b w2 ((unhide hE).below hb12 (by omega)) hr2
  rw [← hb2.cell (p := ⟨g, 4, none⟩) hg] at r1
  rw [← hb2.cell (p := ⟨g, 7, none⟩) hg] at r2
  rw [← hb2.cell (p := ⟨g, 15, none⟩) hg] at r5
  rw [← hb2.cell (p := ⟨g, 20, none⟩) hg] at r6
  replace hg := Nat.lt_of_lt_of_le hg hb2.size
  clear c2 h2
  replace hr2 := hide hr2
  go_wp2_with fail
  refine c3.mono ?_
  rintro e w3 ⟨rfl, hb3⟩
  rw [← hb3.cell (p := ⟨g, 4, none⟩) hg] at r1
  rw [← hb3.cell (p := ⟨g, 7, none⟩) hg] at r2
  rw [← hb3.cell (p := ⟨g, 15, none⟩) hg] at r5
  rw [← hb3.cell (p := ⟨g, 20, none⟩) hg] at r6
  have hb13 := hide (hb12.trans (hb3.mono hb12.size))
  replace hb12 := hide hb12
  clear c3
  obtain ⟨t1, ht1⟩ : ∃ t1 : ByteArray, ⟨#[58, 61]⟩ = t1 := ⟨_, rfl⟩
  obtain ⟨t2, ht2⟩ : ∃ t2 : ByteArray, ⟨#[33]⟩ = t2 := ⟨_, rfl⟩
  have b1 : (t1.toList == [58, 61]) = true := by rw [← ht1, Lib.toList_data]; rfl
  have b2 : (t2.toList == [33]) = true := by rw [← ht2, Lib.toList_data]; rfl
  rw [ht1] at r1
  rw [ht2] at r2
  clear ht1 ht2
  go_wp2_with fail
  refine (cw1 _).mono ?_
  rintro e w4 ⟨rfl, rfl⟩
  go_wp2_with fail
  refine (cw2 _).mono ?_
  rintro e w5 ⟨rfl, rfl⟩
  go_wp2_with fail
  go_ret
  exact ⟨rfl, unhide hb13⟩
end Go.Proofs.YtjkaibnblkggbaaDoor

/- The document's Tokens: where a round begins. -/
namespace Go.Proofs.YtjkaibnblkggbaaDoor
open Go Go.RowKit

def cR : Code → Code
  | .seq _ b => b
  | c => c
def cL : Code → Code
  | .seq a _ => a
  | c => c
def cB : Code → Code
  | .block _ c => c
  | c => c
def cO : Code → Code
  | .loop c => c
  | c => c
theorem arr_lit {a : Array Value} {n : Nat} (h : a.size = n) : a = ((List.range n).map fun i => a.getD i undef).toArray := by
  apply Array.ext
  · simp [h]
  · intro i h1 h2
    simp [Array.getD_eq_getD_getElem?, h1]
theorem getD_some {a : Array Value} {i : Nat} {v : Value} (h : a[i]? = some v) : a.getD i undef = v := by simp [Array.getD_eq_getD_getElem?, h]
/-- Where a round of the document's Tokens begins. -/
structure TS (a : Act) (s : ByteArray) (ov : Value) (i : Nat) : Prop where
  dfr : a.defers = []
  sz : a.tmps.size = 216
  s0 : a.tmps[0]? = some (.string s)
  s5 : a.tmps[5]? = some ov
  s6 : a.tmps[6]? = some (.int .i64 i)
set_option maxRecDepth 100000 in
theorem TS.lit {a : Act} {s : ByteArray} {ov : Value} {i : Nat} (h : TS a s ov i) : ∃ u : Nat → Value, a = ⟨#[.string s, u 1, u 2, u 3, u 4, ov, .int .i64 i, u 7, u 8, u 9, u 10, u 11, u 12, u 13, u 14, u 15, u 16, u 17, u 18, u 19, u 20, u 21, u 22, u 23, u 24, u 25, u 26, u 27, u 28, u 29, u 30, u 31, u 32, u 33, u 34, u 35, u 36, u 37, u 38, u 39, u 40, u 41, u 42, u 43, u 44, u 45, u 46, u 47, u 48, u 49, u 50, u 51, u 52, u 53, u 54, u 55, u 56, u 57, u 58, u 59, u 60, u 61, u 62, u 63, u 64, u 65, u 66, u 67, u 68, u 69, u 70, u 71, u 72, u 73, u 74, u 75, u 76, u 77, u 78, u 79, u 80, u 81, u 82, u 83, u 84, u 85, u 86, u 87, u 88, u 89, u 90, u 91, u 92, u 93, u 94, u 95, u 96, u 97, u 98, u 99, u 100, u 101, u 102, u 103, u 104, u 105, u 106, u 107, u 108, u 109, u 110, u 111, u 112, u 113, u 114, u 115, u 116, u 117, u 118, u 119, u 120, u 121, u 122, u 123, u 124, u 125, u 126, u 127, u 128, u 129, u 130, u 131, u 132, u 133, u 134, u 135, u 136, u 137, u 138, u 139, u 140, u 141, u 142, u 143, u 144, u 145, u 146, u 147, u 148, u 149, u 150, u 151, u 152, u 153, u 154, u 155, u 156, u 157, u 158, u 159, u 160, u 161, u 162, u 163, u 164, u 165, u 166, u 167, u 168, u 169, u 170, u 171, u 172, u 173, u 174, u 175, u 176, u 177, u 178, u 179, u 180, u 181, u 182, u 183, u 184, u 185, u 186, u 187, u 188, u 189, u 190, u 191, u 192, u 193, u 194, u 195, u 196, u 197, u 198, u 199, u 200, u 201, u 202, u 203, u 204, u 205, u 206, u 207, u 208, u 209, u 210, u 211, u 212, u 213, u 214, u 215], []⟩ := by
  obtain ⟨tmps, dfr⟩ := a
  refine ⟨fun i => tmps.getD i undef, ?_⟩
  have hd : dfr = [] := h.dfr
  have hl := arr_lit (show tmps.size = 216 from h.sz)
  have g0 : tmps.getD 0 undef = .string s := getD_some h.s0
  have g5 : tmps.getD 5 undef = ov := getD_some h.s5
  have g6 : tmps.getD 6 undef = .int .i64 i := getD_some h.s6
  subst hd
  congr 1
  have e : ((List.range 216).map fun i => tmps.getD i undef).toArray = #[tmps.getD 0 undef, tmps.getD 1 undef, tmps.getD 2 undef, tmps.getD 3 undef, tmps.getD 4 undef, tmps.getD 5 undef, tmps.getD 6 undef, tmps.getD 7 undef, tmps.getD 8 undef, tmps.getD 9 undef, tmps.getD 10 undef, tmps.getD 11 undef, tmps.getD 12 undef, tmps.getD 13 undef, tmps.getD 14 undef, tmps.getD 15 undef, tmps.getD 16 undef, tmps.getD 17 undef, tmps.getD 18 undef, tmps.getD 19 undef, tmps.getD 20 undef, tmps.getD 21 undef, tmps.getD 22 undef, tmps.getD 23 undef, tmps.getD 24 undef, tmps.getD 25 undef, tmps.getD 26 undef, tmps.getD 27 undef, tmps.getD 28 undef, tmps.getD 29 undef, tmps.getD 30 undef, tmps.getD 31 undef, tmps.getD 32 undef, tmps.getD 33 undef, tmps.getD 34 undef, tmps.getD 35 undef, tmps.getD 36 undef, tmps.getD 37 undef, tmps.getD 38 undef, tmps.getD 39 undef, tmps.getD 40 undef, tmps.getD 41 undef, tmps.getD 42 undef, tmps.getD 43 undef, tmps.getD 44 undef, tmps.getD 45 undef, tmps.getD 46 undef, tmps.getD 47 undef, tmps.getD 48 undef, tmps.getD 49 undef, tmps.getD 50 undef, tmps.getD 51 undef, tmps.getD 52 undef, tmps.getD 53 undef, tmps.getD 54 undef, tmps.getD 55 undef, tmps.getD 56 undef, tmps.getD 57 undef, tmps.getD 58 undef, tmps.getD 59 undef, tmps.getD 60 undef, tmps.getD 61 undef, tmps.getD 62 undef, tmps.getD 63 undef, tmps.getD 64 undef, tmps.getD 65 undef, tmps.getD 66 undef, tmps.getD 67 undef, tmps.getD 68 undef, tmps.getD 69 undef, tmps.getD 70 undef, tmps.getD 71 undef, tmps.getD 72 undef, tmps.getD 73 undef, tmps.getD 74 undef, tmps.getD 75 undef, tmps.getD 76 undef, tmps.getD 77 undef, tmps.getD 78 undef, tmps.getD 79 undef, tmps.getD 80 undef, tmps.getD 81 undef, tmps.getD 82 undef, tmps.getD 83 undef, tmps.getD 84 undef, tmps.getD 85 undef, tmps.getD 86 undef, tmps.getD 87 undef, tmps.getD 88 undef, tmps.getD 89 undef, tmps.getD 90 undef, tmps.getD 91 undef, tmps.getD 92 undef, tmps.getD 93 undef, tmps.getD 94 undef, tmps.getD 95 undef, tmps.getD 96 undef, tmps.getD 97 undef, tmps.getD 98 undef, tmps.getD 99 undef, tmps.getD 100 undef, tmps.getD 101 undef, tmps.getD 102 undef, tmps.getD 103 undef, tmps.getD 104 undef, tmps.getD 105 undef, tmps.getD 106 undef, tmps.getD 107 undef, tmps.getD 108 undef, tmps.getD 109 undef, tmps.getD 110 undef, tmps.getD 111 undef, tmps.getD 112 undef, tmps.getD 113 undef, tmps.getD 114 undef, tmps.getD 115 undef, tmps.getD 116 undef, tmps.getD 117 undef, tmps.getD 118 undef, tmps.getD 119 undef, tmps.getD 120 undef, tmps.getD 121 undef, tmps.getD 122 undef, tmps.getD 123 undef, tmps.getD 124 undef, tmps.getD 125 undef, tmps.getD 126 undef, tmps.getD 127 undef, tmps.getD 128 undef, tmps.getD 129 undef, tmps.getD 130 undef, tmps.getD 131 undef, tmps.getD 132 undef, tmps.getD 133 undef, tmps.getD 134 undef, tmps.getD 135 undef, tmps.getD 136 undef, tmps.getD 137 undef, tmps.getD 138 undef, tmps.getD 139 undef, tmps.getD 140 undef, tmps.getD 141 undef, tmps.getD 142 undef, tmps.getD 143 undef, tmps.getD 144 undef, tmps.getD 145 undef, tmps.getD 146 undef, tmps.getD 147 undef, tmps.getD 148 undef, tmps.getD 149 undef, tmps.getD 150 undef, tmps.getD 151 undef, tmps.getD 152 undef, tmps.getD 153 undef, tmps.getD 154 undef, tmps.getD 155 undef, tmps.getD 156 undef, tmps.getD 157 undef, tmps.getD 158 undef, tmps.getD 159 undef, tmps.getD 160 undef, tmps.getD 161 undef, tmps.getD 162 undef, tmps.getD 163 undef, tmps.getD 164 undef, tmps.getD 165 undef, tmps.getD 166 undef, tmps.getD 167 undef, tmps.getD 168 undef, tmps.getD 169 undef, tmps.getD 170 undef, tmps.getD 171 undef, tmps.getD 172 undef, tmps.getD 173 undef, tmps.getD 174 undef, tmps.getD 175 undef, tmps.getD 176 undef, tmps.getD 177 undef, tmps.getD 178 undef, tmps.getD 179 undef, tmps.getD 180 undef, tmps.getD 181 undef, tmps.getD 182 undef, tmps.getD 183 undef, tmps.getD 184 undef, tmps.getD 185 undef, tmps.getD 186 undef, tmps.getD 187 undef, tmps.getD 188 undef, tmps.getD 189 undef, tmps.getD 190 undef, tmps.getD 191 undef, tmps.getD 192 undef, tmps.getD 193 undef, tmps.getD 194 undef, tmps.getD 195 undef, tmps.getD 196 undef, tmps.getD 197 undef, tmps.getD 198 undef, tmps.getD 199 undef, tmps.getD 200 undef, tmps.getD 201 undef, tmps.getD 202 undef, tmps.getD 203 undef, tmps.getD 204 undef, tmps.getD 205 undef, tmps.getD 206 undef, tmps.getD 207 undef, tmps.getD 208 undef, tmps.getD 209 undef, tmps.getD 210 undef, tmps.getD 211 undef, tmps.getD 212 undef, tmps.getD 213 undef, tmps.getD 214 undef, tmps.getD 215 undef] := rfl
  rw [e, g0, g5, g6] at hl
  exact hl
theorem ext_size (s : ByteArray) (i j : Nat) (h1 : i ≤ j) (h2 : j ≤ s.size) : (s.extract i j).size = j - i := by
  rw [ByteArray.size_extract]; omega
/-- Comments, as the document looks for their end. -/
def cm2 (s : ByteArray) : Nat → Nat → Nat × Nat
  | 0, _ => (0, 2)
  | f + 1, i => if i < s.size then (if fits s i [42, 41] then (i + 2, 0) else if noR s i then (i, 1) else cm2 s f (i + wd s i)) else (0, 2)
theorem fits_end (s : ByteArray) (i : Nat) : fits s i [42, 41] = (decide (i < s.size) && By s i == 42 && (decide (i + 1 < s.size) && By s (i + 1) == 41)) := by
  simp [fits]
theorem rn_eq (s : ByteArray) (i c : Nat) (hc : c < 128) : (rn s i == c) = (By s i == c) := by
  rw [Bool.eq_iff_iff]
  simp only [beq_iff_eq]
  constructor
  · intro h; rw [(rn_low s i (by omega)).1, h]
  · intro h; rw [(rn_ascii s i (by omega)).1, h]
theorem cm2_star (s : ByteArray) (f i : Nat) (h1 : By s i = 42) (h2 : i < s.size) (h3 : fits s i [42, 41] = false) : cm2 s (f + 1) i = cm2 s f (i + 1) := by
  conv => lhs; unfold cm2
  rw [if_pos h2, h3, if_neg Bool.false_ne_true, noR_ascii s i (by omega), if_neg Bool.false_ne_true, (rn_ascii s i (by omega)).2]
theorem cmt_two (s : ByteArray) : ∀ f, (∀ i, s.size ≤ i + f → cmt s f i false = cm2 s f i) ∧ (∀ i, By s i = 42 → i < s.size → s.size ≤ i + 1 + f → cmt s f (i + 1) true = cm2 s (f + 1) i) := by
  have key : ∀ f, (∀ i, s.size ≤ i + f → cmt s f i false = cm2 s f i) → ∀ i, By s i = 42 → i < s.size → s.size ≤ i + 1 + f → cmt s f (i + 1) true = cm2 s (f + 1) i := by
    intro f h1 i hb hi hf
    by_cases hlt : i + 1 < s.size
    · obtain ⟨g, rfl⟩ : ∃ g, f = g + 1 := ⟨f - 1, by omega⟩
      by_cases h41 : By s (i + 1) = 41
      · have hfit : fits s i [42, 41] = true := by rw [fits_end]; simp [hb, hi, hlt, h41]
        conv => rhs; unfold cm2
        rw [if_pos hi, if_pos hfit]
        unfold cmt
        rw [if_pos hlt, noR_ascii s (i + 1) (by omega), if_neg Bool.false_ne_true, rn_eq s (i + 1) 41 (by omega), h41, if_pos (by rfl)]
      · have hfit : fits s i [42, 41] = false := by rw [fits_end]; simp [h41]
        rw [cm2_star s (g + 1) i hb hi hfit, ← h1 (i + 1) (by omega)]
        have e41 : (rn s (i + 1) == 41) = false := by rw [rn_eq s (i + 1) 41 (by omega)]; simpa using h41
        unfold cmt
        rw [if_pos hlt, if_pos hlt, e41]
        rfl
    · have hfit : fits s i [42, 41] = false := by rw [fits_end]; simp [hlt]
      rw [cm2_star s f i hb hi hfit, ← h1 (i + 1) (by omega)]
      cases f with
      | zero => rfl
      | succ g => unfold cmt; rw [if_neg hlt, if_neg hlt]
  intro f
  induction f with
  | zero => exact ⟨fun i _ => rfl, key 0 (fun i _ => rfl)⟩
  | succ f ih =>
    have h1 : ∀ i, s.size ≤ i + (f + 1) → cmt s (f + 1) i false = cm2 s (f + 1) i := by
      intro i hf
      by_cases hi : i < s.size
      · by_cases h42 : By s i = 42
        · rw [← ih.2 i h42 hi (by omega)]
          conv => lhs; unfold cmt
          rw [if_pos hi, noR_ascii s i (by omega), if_neg Bool.false_ne_true, rn_eq s i 42 (by omega), h42, (rn_ascii s i (by omega)).2]
          rfl
        · have hfit : fits s i [42, 41] = false := by rw [fits_end]; simp [h42]
          unfold cmt cm2
          rw [if_pos hi, if_pos hi, hfit, if_neg Bool.false_ne_true]
          have e42 : (rn s i == 42) = false := by rw [rn_eq s i 42 (by omega)]; simpa using h42
          cases noR s i with
          | true => rfl
          | false =>
            rw [if_neg Bool.false_ne_true, if_neg Bool.false_ne_true, e42]
            have := wd_pos s i
            rw [ih.1 (i + wd s i) (by omega)]
            rfl
      · unfold cmt cm2
        rw [if_neg hi, if_neg hi]
    exact ⟨h1, key (f + 1) h1⟩
end Go.Proofs.YtjkaibnblkggbaaDoor

/- A token, written anew with a blank behind it; blanks and comments; a text written anew. No program in this text. -/
namespace Go.Proofs.YtjkaibnblkggbaaDoor
open Go Go.Lib

/-- The bytes of a piece. -/
def piece (s : ByteArray) (i j : Nat) : List Nat := (List.range (j - i)).map fun q => By s (i + q)
theorem piece_len (s : ByteArray) (i j : Nat) : (piece s i j).length = j - i := by simp [piece]
theorem fits_app (o : ByteArray) : ∀ (l m : List Nat) p, fits o p (l ++ m) = (fits o p l && fits o (p + l.length) m) := by
  intro l
  induction l with
  | nil => intro m p; simp [fits]
  | cons c l ih =>
    intro m p
    show (decide (p < o.size) && By o p == c && fits o (p + 1) (l ++ m)) = (decide (p < o.size) && By o p == c && fits o (p + 1) l && fits o (p + (l.length + 1)) m)
    rw [ih, show p + 1 + l.length = p + (l.length + 1) by omega]
    simp only [Bool.and_assoc]
theorem fits_at (o : ByteArray) : ∀ (l : List Nat) p, fits o p l = true ↔ ∀ q (h : q < l.length), p + q < o.size ∧ By o (p + q) = l[q] := by
  intro l
  induction l with
  | nil => intro p; simp [fits]
  | cons c l ih =>
    intro p
    show (decide (p < o.size) && By o p == c && fits o (p + 1) l) = true ↔ _
    simp only [Bool.and_eq_true, decide_eq_true_eq, beq_iff_eq, ih]
    constructor
    · rintro ⟨⟨h1, h2⟩, h3⟩ q hq
      cases q with
      | zero => exact ⟨h1, h2⟩
      | succ q =>
        have := h3 q (by simpa using hq)
        rw [show p + (q + 1) = p + 1 + q by omega]
        exact this
    · intro h
      have h0 := h 0 (by simp)
      refine ⟨⟨h0.1, h0.2⟩, fun q hq => ?_⟩
      have := h (q + 1) (by simpa using hq)
      rw [show p + (q + 1) = p + 1 + q by omega] at this
      exact this
theorem fits_piece (s o : ByteArray) (i j p : Nat) (h : fits o p (piece s i j) = true) : ∀ q, i + q < j → p + q < o.size ∧ By o (p + q) = By s (i + q) := by
  intro q hq
  have := (fits_at o _ p).1 h q (by rw [piece_len]; omega)
  simpa [piece] using this
theorem ext_same (s o : ByteArray) (i j p : Nat) (hij : i ≤ j) (hj : j ≤ s.size) (hp : p + (j - i) ≤ o.size) (h : ∀ q, i + q < j → By o (p + q) = By s (i + q)) : o.extract p (p + (j - i)) = s.extract i j := by
  have hl : ∀ (t : ByteArray) a b, b ≤ t.size → ∀ q, a + q < b → (t.extract a b).data.toList[q]? = some (t.get! (a + q)) := fun t a b hb q hq => by
    have hs := ext_size t a b (by omega) hb
    have h1 : q < (t.extract a b).data.toList.length := by
      have : (t.extract a b).data.toList.length = (t.extract a b).size := Array.length_toList
      omega
    rw [List.getElem?_eq_getElem h1, get_lt t (a + q) (by omega)]
    have := ByteArray.getElem_extract (start := a) (stop := b) (b := t) (i := q) (h := by omega)
    rw [← this]
    simp [ByteArray.getElem_eq_getElem_data]
  apply ByteArray.ext
  apply Array.ext'
  apply List.ext_getElem?
  intro q
  by_cases hq : q < j - i
  · rw [hl o p _ hp q (by omega), hl s i j hj q (by omega)]
    have := h q (by omega)
    unfold By at this
    rw [UInt8.toNat_inj.1 this]
  · have e1 : (o.extract p (p + (j - i))).data.toList.length = j - i := by
      have := ext_size o p (p + (j - i)) (by omega) hp
      have h2 : (o.extract p (p + (j - i))).data.toList.length = (o.extract p (p + (j - i))).size := Array.length_toList
      omega
    have e2 : (s.extract i j).data.toList.length = j - i := by
      have := ext_size s i j hij hj
      have h2 : (s.extract i j).data.toList.length = (s.extract i j).size := Array.length_toList
      omega
    rw [List.getElem?_eq_none (by omega), List.getElem?_eq_none (by omega)]
theorem sign_no_end : ∀ l ∈ signL, ∀ c ∈ l, ¬ (c = 32 ∨ c = 10 ∨ c = 13) := by decide
/-- A token that is followed by a blank is the same token. -/
theorem rd_copy (s o : ByteArray) (i p j : Nat) (k : Int) (hi : i < s.size) (hrd : rd s i = (k, j, none)) (hk : k ≠ -1) (hf : fits o p (piece s i j) = true) (hz : p + (j - i) < o.size) (he : endB (By o (p + (j - i)))) : rd o p = (k, p + (j - i), none) ∧ o.extract p (p + (j - i)) = s.extract i j := by
  have hrr := rd_reach s i hi (by rw [hrd])
  rw [hrd] at hrr
  simp only at hrr
  obtain ⟨hre, hjs, hij⟩ := hrr
  have hb : ∀ q, i + q < j → By o (p + q) = By s (i + q) := fun q hq => (fits_piece s o i j p hf q hq).2
  have hext := ext_same s o i j p (by omega) hjs (by omega) hb
  refine ⟨?_, hext⟩
  have hno : noR s i = false := by
    cases hn : noR s i with
    | false => rfl
    | true => unfold rd at hrd; rw [hn, if_pos rfl] at hrd; cases hrd
  have hwj : i + wd s i ≤ j := hre.le
  have hd := dec_same s o i p hno (fun q hq => hb q (by omega)) (by omega)
  have hbl : isBl (rn s i) = false := by
    cases hq : isBl (rn s i) with
    | false => rfl
    | true =>
      unfold rd at hrd
      rw [hno, if_neg Bool.false_ne_true, hq, if_pos rfl] at hrd
      exact absurd (congrArg Prod.fst hrd).symm hk
  have eo : rd o p = if isLe (rn s i) then rdName o p else if isDi (rn s i) then rdNum o p else if fits o p [40, 42] then rdCmt o p else rdSign o p := by
    unfold rd
    rw [hd.2.2, if_neg Bool.false_ne_true, hd.1, hbl, if_neg Bool.false_ne_true]
  have es : rd s i = if isLe (rn s i) then rdName s i else if isDi (rn s i) then rdNum s i else if fits s i [40, 42] then rdCmt s i else rdSign s i := by
    unfold rd
    rw [hno, if_neg Bool.false_ne_true, hbl, if_neg Bool.false_ne_true]
  rw [eo]
  rw [es] at hrd
  have hsub : p + (j - i) - p = j - i := by omega
  cases h2 : isLe (rn s i) with
  | true =>
    rw [h2, if_pos rfl] at hrd
    rw [if_pos rfl]
    unfold rdName at hrd ⊢
    have hjn : nameEnd s (s.size - i) i = j := by
      split at hrd
      · cases hrd
      · split at hrd
        · exact congrArg (fun x => x.2.1) hrd
        · exact congrArg (fun x => x.2.1) hrd
    have hon := name_copy s o j (s.size - i) i p (o.size - p) hjn (by omega) (by omega) hb hz he (by omega)
    rw [hon, hsub, hext]
    rw [hjn] at hrd
    by_cases h40 : 40 < j - i
    · rw [if_pos h40] at hrd; cases hrd
    · rw [if_neg h40] at hrd ⊢
      cases hw : isWd (s.extract i j) with
      | true =>
        rw [hw, if_pos rfl] at hrd
        rw [if_pos rfl]
        obtain rfl : (2 : Int) = k := congrArg Prod.fst hrd
        rfl
      | false =>
        rw [hw, if_neg Bool.false_ne_true] at hrd
        rw [if_neg Bool.false_ne_true]
        obtain rfl : (1 : Int) = k := congrArg Prod.fst hrd
        rfl
  | false =>
    rw [h2, if_neg Bool.false_ne_true] at hrd
    rw [if_neg Bool.false_ne_true]
    cases h3 : isDi (rn s i) with
    | true =>
      rw [h3, if_pos rfl] at hrd
      rw [if_pos rfl]
      unfold rdNum at hrd ⊢
      have hjn : digEnd s (s.size - i) i = j := by
        split at hrd
        · cases hrd
        · split at hrd
          · cases hrd
          · exact congrArg (fun x => x.2.1) hrd
      have hon := dig_copy s o j (s.size - i) i p (o.size - p) hjn (by omega) (by omega) hb hz he (by omega)
      have hb0 : By o p = By s i := by simpa using hb 0 (by omega)
      rw [hon, hsub, hb0]
      rw [hjn] at hrd
      by_cases h4 : (By s i == 48 && decide (1 < j - i)) = true
      · rw [if_pos h4] at hrd; cases hrd
      · rw [if_neg h4] at hrd ⊢
        by_cases h5 : 400 < j - i
        · rw [if_pos h5] at hrd; cases hrd
        · rw [if_neg h5] at hrd ⊢
          obtain rfl : (3 : Int) = k := congrArg Prod.fst hrd
          rfl
    | false =>
      rw [h3, if_neg Bool.false_ne_true] at hrd
      rw [if_neg Bool.false_ne_true]
      cases h4 : fits s i [40, 42] with
      | true =>
        rw [h4, if_pos rfl] at hrd
        unfold rdCmt at hrd
        split at hrd
        · exact absurd (congrArg Prod.fst hrd).symm hk
        · split at hrd <;> cases hrd
      | false =>
        rw [h4, if_neg Bool.false_ne_true] at hrd
        -- what fits in the new text fits in the old one, where it is no longer than the token
        have hfit : ∀ l : List Nat, l.length ≤ j - i → fits o p l = fits s i l := fun l hl => by
          rw [Bool.eq_iff_iff, fits_at, fits_at]
          constructor
          · intro h q hq
            have := h q hq
            rw [hb q (by omega)] at this
            exact ⟨by omega, this.2⟩
          · intro h q hq
            have := h q hq
            rw [← hb q (by omega)] at this
            exact ⟨by omega, this.2⟩
        have hlong : ∀ l : List Nat, j - i < l.length → (∀ c ∈ l, ¬ (c = 32 ∨ c = 10 ∨ c = 13)) → fits o p l = false := fun l hl hc => by
          cases hq : fits o p l with
          | false => rfl
          | true =>
            have h1 := (fits_at o l p).1 hq (j - i) hl
            rw [h1.2] at he
            exact absurd he (hc _ (List.getElem_mem hl))
        unfold rdSign at hrd
        by_cases h5 : sgn s i = 0
        · rw [if_pos h5] at hrd; cases hrd
        · rw [if_neg h5] at hrd
          have hjn : i + sgn s i = j := congrArg (fun x => x.2.1) hrd
          obtain rfl : (4 : Int) = k := congrArg Prod.fst hrd
          have hopen : fits o p [40, 42] = false := by
            by_cases hle : 2 ≤ j - i
            · rw [hfit [40, 42] (by simpa using hle)]; exact h4
            · exact hlong [40, 42] (by simp; omega) (by decide)
          rw [hopen, if_neg Bool.false_ne_true]
          -- which sign it is
          have hsg : sgn o p = j - i := by
            have hfind : ∃ t, t < 25 ∧ fits s i (signL.getD t []) = true ∧ ∀ q, q < t → fits s i (signL.getD q []) = false := by
              cases hfd : signL.find? (fun l => fits s i l) with
              | none => exact absurd (show sgn s i = 0 by unfold sgn; rw [hfd]; rfl) h5
              | some l =>
                rw [List.find?_eq_some_iff_getElem] at hfd
                obtain ⟨h1, t, ht, h2, h6⟩ := hfd
                refine ⟨t, ht, ?_, fun q hq => ?_⟩
                · rw [List.getD_eq_getElem?_getD, List.getElem?_eq_getElem ht, h2]; exact h1
                · have h7 := h6 q hq
                  rw [List.getD_eq_getElem?_getD, List.getElem?_eq_getElem (Nat.lt_trans hq ht)]
                  simpa using h7
            obtain ⟨t, ht, h1, h6⟩ := hfind
            have hlen := sgn_found s i t ht h6 h1
            have hnl : (signL.getD t []).length = j - i := by omega
            rw [← hnl]
            refine sgn_found o p t ht (fun q hq => ?_) ?_
            · have hmem : signL.getD q [] ∈ signL := by
                have hq25 : q < signL.length := Nat.lt_trans hq ht
                rw [List.getD_eq_getElem?_getD, List.getElem?_eq_getElem hq25]
                exact List.getElem_mem hq25
              by_cases hle : (signL.getD q []).length ≤ j - i
              · rw [hfit _ hle]; exact h6 q hq
              · exact hlong _ (by omega) (sign_no_end _ hmem)
            · rw [hfit _ (by omega)]; exact h1
          unfold rdSign
          rw [hsg, if_neg (by omega)]
end Go.Proofs.YtjkaibnblkggbaaDoor

/- Blanks and comments are passed by; a text written anew, whole. No program in this text. -/
namespace Go.Proofs.YtjkaibnblkggbaaDoor
open Go Go.Lib

def Skip (o : ByteArray) (p q : Nat) : Prop := ∀ f, o.size ≤ p + f → ∃ f', lx o f p = lx o f' q ∧ o.size ≤ q + f'
theorem Skip.refl (o : ByteArray) (p : Nat) : Skip o p p := fun f h => ⟨f, rfl, h⟩
theorem Skip.step {o : ByteArray} {p q r : Nat} (hp : p < o.size) (hrd : rd o p = (-1, q, none)) (h : Skip o q r) : Skip o p r := by
  intro f hf
  have hq := (rd_reach o p hp (by rw [hrd])).2.2
  rw [hrd] at hq
  simp only at hq
  have e := lx_gap o hf hp (by rw [hrd]) (by rw [hrd])
  rw [hrd] at e
  obtain ⟨f', h1, h2⟩ := h (f - 1) (by omega)
  exact ⟨f', by rw [e]; exact h1, h2⟩
theorem rd_white (o : ByteArray) (p : Nat) (h : By o p = 32 ∨ By o p = 9 ∨ By o p = 10 ∨ By o p = 13) : rd o p = (-1, p + 1, none) := by
  have hr := rn_ascii o p (by omega)
  unfold rd
  rw [noR_ascii o p (by omega), if_neg Bool.false_ne_true, hr.1]
  have : isBl (By o p) = true := by unfold isBl; simp; omega
  rw [this, if_pos rfl]
def closes : List Nat → Bool
  | [] => false
  | 42 :: 41 :: r => r.isEmpty
  | c :: r => decide (c < 128) && closes r
theorem closes_cons {c : Nat} {r : List Nat} (h : closes (c :: r) = true) : (c = 42 ∧ r = [41]) ∨ (c < 128 ∧ closes r = true ∧ ¬ (c = 42 ∧ r.head? = some 41)) := by
  unfold closes at h
  split at h
  · rename_i e
    cases e
  · rename_i r' e
    have e1 : c = 42 ∧ r = 41 :: r' := by simpa using e
    have e2 : r' = [] := by simpa using h
    exact .inl ⟨e1.1, by rw [e1.2, e2]⟩
  · rename_i c' r' hne e
    have e1 : c = c' ∧ r = r' := by simpa using e
    obtain ⟨rfl, rfl⟩ := e1
    simp only [Bool.and_eq_true, decide_eq_true_eq] at h
    refine .inr ⟨h.1, h.2, ?_⟩
    rintro ⟨rfl, h2⟩
    cases r with
    | nil => cases h2
    | cons x l =>
      obtain rfl : x = 41 := by simpa using h2
      exact hne l rfl rfl
theorem cm2_closes (o : ByteArray) : ∀ (l : List Nat) x f, closes l = true → fits o x l = true → o.size ≤ x + f → cm2 o f x = (x + l.length, 0) := by
  intro l
  induction l with
  | nil => intro x f h; cases h
  | cons c r ih =>
    intro x f hc hf hs
    have h0 := (fits_at o (c :: r) x).1 hf 0 (by simp)
    have hx : x < o.size := h0.1
    have hbx : By o x = c := h0.2
    obtain ⟨g, rfl⟩ : ∃ g, f = g + 1 := ⟨f - 1, by omega⟩
    rcases closes_cons hc with ⟨rfl, rfl⟩ | ⟨h1, h2, h3⟩
    · unfold cm2
      rw [if_pos hx, if_pos hf]
      rfl
    · have hfr : fits o (x + 1) r = true := by
        have e : fits o x (c :: r) = (decide (x < o.size) && By o x == c && fits o (x + 1) r) := rfl
        rw [e] at hf
        simp only [Bool.and_eq_true] at hf
        exact hf.2
      have hno : fits o x [42, 41] = false := by
        cases hq : fits o x [42, 41] with
        | false => rfl
        | true =>
          rw [fits_end] at hq
          simp only [Bool.and_eq_true, decide_eq_true_eq, beq_iff_eq] at hq
          cases r with
          | nil => cases h2
          | cons y l =>
            have hy := (fits_at o (y :: l) (x + 1)).1 hfr 0 (by simp)
            have hy2 : By o (x + 1) = y := hy.2
            exact absurd ⟨by omega, by simp; omega⟩ h3
      unfold cm2
      rw [if_pos hx, hno, if_neg Bool.false_ne_true, noR_ascii o x (by omega), if_neg Bool.false_ne_true, (rn_ascii o x (by omega)).2, ih (x + 1) g h2 hfr (by omega)]
      simp
      omega
theorem rd_comment (o : ByteArray) (p : Nat) (l : List Nat) (hc : closes l = true) (hf : fits o p (40 :: 42 :: l) = true) : p < o.size ∧ rd o p = (-1, p + 2 + l.length, none) := by
  have e : fits o p ([40, 42] ++ l) = (fits o p [40, 42] && fits o (p + 2) l) := fits_app o [40, 42] l p
  have hf' : fits o p ([40, 42] ++ l) = true := hf
  rw [e] at hf'
  simp only [Bool.and_eq_true] at hf'
  obtain ⟨h1, h2⟩ := hf'
  have h0 := (fits_at o (40 :: 42 :: l) p).1 hf 0 (by simp)
  have hp : p < o.size := h0.1
  have hb : By o p = 40 := h0.2
  have hz := fits_two o p 40 42 h1
  have hr := rn_ascii o p (by omega)
  refine ⟨hp, ?_⟩
  unfold rd
  rw [noR_ascii o p (by omega), if_neg Bool.false_ne_true, hr.1, hb]
  show (if fits o p [40, 42] then rdCmt o p else rdSign o p) = _
  rw [h1, if_pos rfl]
  unfold rdCmt
  rw [(cmt_two o (o.size - (p + 2))).1 (p + 2) (by omega), cm2_closes o l (p + 2) (o.size - (p + 2)) hc h2 (by omega)]
  rfl
/-- The blanks of LexBlanks. -/
def blL : Nat → List Nat
  | 0 => [32]
  | 1 => [10, 9]
  | 2 => [32, 40, 42, 32, 120, 32, 58, 61, 32, 42, 41, 32]
  | 3 => [13, 32, 40, 42, 42, 41]
  | 4 => [32, 40, 42, 32, 42, 32, 41, 32, 42, 41]
  | _ => [32, 32]
theorem fits_cons {o : ByteArray} {p c : Nat} {l : List Nat} (h : fits o p (c :: l) = true) : p < o.size ∧ By o p = c ∧ fits o (p + 1) l = true := by
  have e : fits o p (c :: l) = (decide (p < o.size) && By o p == c && fits o (p + 1) l) := rfl
  rw [e] at h
  simp only [Bool.and_eq_true, decide_eq_true_eq, beq_iff_eq] at h
  exact ⟨h.1.1, h.1.2, h.2⟩
theorem skip_white {o : ByteArray} {p c q : Nat} {l : List Nat} (h : fits o p (c :: l) = true) (hc : c = 32 ∨ c = 9 ∨ c = 10 ∨ c = 13) (hs : fits o (p + 1) l = true → Skip o (p + 1) q) : Skip o p q := by
  obtain ⟨h1, h2, h3⟩ := fits_cons h
  exact Skip.step h1 (rd_white o p (by omega)) (hs h3)
theorem skip_comment {o : ByteArray} {p q : Nat} {l m : List Nat} (h : fits o p (40 :: 42 :: (l ++ m)) = true) (hc : closes l = true) (hs : fits o (p + 2 + l.length) m = true → Skip o (p + 2 + l.length) q) : Skip o p q := by
  have e : fits o p ((40 :: 42 :: l) ++ m) = (fits o p (40 :: 42 :: l) && fits o (p + (40 :: 42 :: l).length) m) := fits_app o (40 :: 42 :: l) m p
  have h' : fits o p ((40 :: 42 :: l) ++ m) = true := h
  rw [e] at h'
  simp only [Bool.and_eq_true] at h'
  have hz : p + (40 :: 42 :: l).length = p + 2 + l.length := by simp; omega
  rw [hz] at h'
  obtain ⟨h1, h2⟩ := rd_comment o p l hc h'.1
  exact Skip.step h1 h2 (hs h'.2)
theorem skip_bl (o : ByteArray) (p k : Nat) (h : fits o p (blL k) = true) : Skip o p (p + (blL k).length) := by
  match k, h with
  | 0, h => exact skip_white h (by omega) fun _ => Skip.refl _ _
  | 1, h => exact skip_white h (by omega) fun h => skip_white h (by omega) fun _ => Skip.refl _ _
  | 2, h => exact skip_white h (by omega) fun h => skip_comment (l := [32, 120, 32, 58, 61, 32, 42, 41]) (m := [32]) h (by decide) fun h => skip_white h (by omega) fun _ => Skip.refl _ _
  | 3, h => exact skip_white h (by omega) fun h => skip_white h (by omega) fun h => skip_comment (l := [42, 41]) (m := []) h (by decide) fun _ => Skip.refl _ _
  | 4, h => exact skip_white h (by omega) fun h => skip_comment (l := [32, 42, 32, 41, 32, 42, 41]) (m := []) h (by decide) fun _ => Skip.refl _ _
  | k + 5, h => exact skip_white h (by omega) fun h => skip_white h (by omega) fun _ => Skip.refl _ _
theorem bl_end (o : ByteArray) (p k : Nat) (h : fits o p (blL k) = true) : p < o.size ∧ endB (By o p) := by
  match k, h with
  | 0, h => exact ⟨(fits_cons h).1, .inl (fits_cons h).2.1⟩
  | 1, h => exact ⟨(fits_cons h).1, .inr (.inl (fits_cons h).2.1)⟩
  | 2, h => exact ⟨(fits_cons h).1, .inl (fits_cons h).2.1⟩
  | 3, h => exact ⟨(fits_cons h).1, .inr (.inr (fits_cons h).2.1)⟩
  | 4, h => exact ⟨(fits_cons h).1, .inl (fits_cons h).2.1⟩
  | k + 5, h => exact ⟨(fits_cons h).1, .inl (fits_cons h).2.1⟩
/-- Tokens written anew, with blanks behind each, and behind all. -/
def outL (s : ByteArray) (κ : Nat → Nat) : List (Int × Nat × Nat) → Nat → List Nat
  | [], n => blL (κ n)
  | x :: r, n => piece s x.2.1 x.2.2 ++ (blL (κ n) ++ outL s κ r (n + 1))
def TokOk (s : ByteArray) (x : Int × Nat × Nat) : Prop := x.2.1 < s.size ∧ rd s x.2.1 = (x.1, x.2.2, none) ∧ x.1 ≠ -1
theorem lx_ok (s : ByteArray) : ∀ f i x, x ∈ (lx s f i).1 → TokOk s x := by
  intro f
  induction f with
  | zero => intro i x h; cases h
  | succ f ih =>
    intro i x h
    unfold lx at h
    by_cases hi : i < s.size
    · rw [if_pos hi] at h
      cases hr : (rd s i).2.2 with
      | some e => rw [hr] at h; cases h
      | none =>
        rw [hr] at h
        simp only at h
        by_cases hk : (rd s i).1 = -1
        · rw [if_pos hk] at h
          exact ih _ x h
        · rw [if_neg hk] at h
          rcases List.mem_cons.1 h with rfl | h
          · refine ⟨hi, ?_, hk⟩
            show rd s i = ((rd s i).1, (rd s i).2.1, none)
            rw [← hr]
          · exact ih _ x h
    · rw [if_neg hi] at h; cases h
theorem relex (s o : ByteArray) (κ : Nat → Nat) : ∀ (L : List (Int × Nat × Nat)) n p f, (∀ x ∈ L, TokOk s x) → fits o p (outL s κ L n) = true → o.size = p + (outL s κ L n).length → o.size ≤ p + f →
    ∃ L', lx o f p = (L', none) ∧ L'.map (fun x => (x.1, o.extract x.2.1 x.2.2)) = L.map (fun x => (x.1, s.extract x.2.1 x.2.2)) := by
  intro L
  induction L with
  | nil =>
    intro n p f _ hf hz hfu
    obtain ⟨f', h1, h2⟩ := skip_bl o p (κ n) hf f hfu
    have hz' : o.size = p + (blL (κ n)).length := hz
    exact ⟨[], by rw [h1, ← hz', lx_end o f' o.size (by omega)], rfl⟩
  | cons x r ih =>
    intro n p f hok hf hz hfu
    obtain ⟨k, i, j⟩ := x
    obtain ⟨hi, hrd, hk⟩ := hok _ (List.mem_cons_self ..)
    simp only at hi hrd hk
    have e1 : outL s κ ((k, i, j) :: r) n = piece s i j ++ (blL (κ n) ++ outL s κ r (n + 1)) := rfl
    rw [e1, fits_app, fits_app, piece_len] at hf
    rw [e1, List.length_append, List.length_append, piece_len] at hz
    simp only [Bool.and_eq_true] at hf
    obtain ⟨h1, h2, h3⟩ := hf
    have hb := bl_end o (p + (j - i)) (κ n) h2
    obtain ⟨hro, hext⟩ := rd_copy s o i p j k hi hrd hk h1 hb.1 hb.2
    have hij := (rd_reach s i hi (by rw [hrd])).2.2
    rw [hrd] at hij
    simp only at hij
    have hp : p < o.size := by omega
    have hl := lx_tok o hfu hp (by rw [hro]) (by rw [hro]; exact hk)
    rw [hro] at hl
    simp only at hl
    obtain ⟨f', g1, g2⟩ := skip_bl o (p + (j - i)) (κ n) h2 (f - 1) (by omega)
    obtain ⟨L', q1, q2⟩ := ih (n + 1) (p + (j - i) + (blL (κ n)).length) f' (fun x hx => hok x (List.mem_cons_of_mem _ hx)) h3 (by omega) g2
    refine ⟨(k, p, p + (j - i)) :: L', ?_, ?_⟩
    · rw [hl, g1, q1]
    · show (k, o.extract p (p + (j - i))) :: L'.map _ = (k, s.extract i j) :: r.map _
      rw [hext, q2]
end Go.Proofs.YtjkaibnblkggbaaDoor

/- An argument of type []uint8, as the rows read it. -/
namespace Go.Proofs.YtjkaibnblkggbaaDoor
open Go Go.ChangeShapes Go.WideShapes Go.ChangeAt Go.RowKit
/-- So many elements of k cells each, where a slice says, in memory below B: each bears what is asked of it. -/
def Row (B : Nat) (a : Option Addr) (n cap k : Nat) (p : Nat → Nat → Nat → Prop) : Prop := n ≤ cap ∧ n ≤ 281474976710656 ∧ (n ≠ 0 → ∃ b off, a = some ⟨b, off, none⟩ ∧ b < B ∧ ∀ j, j < n → p b (off + j * k) j)
section
variable {H : Type} {enc : TypeId × Value → H} {P : Program} {W : World} {base : Nat} {sp : Nat → Bool} {held : Bool}
theorem cells_at {a : Addr} {n : Nat} {l : List Value} (h : W.cells? base a n = some l) : l.length = n ∧ ∀ (i : Nat) v, l[i]? = some v → W.cell? (a.add i) = some v := by
  unfold World.cells? at h
  split at h
  · refine ⟨by simpa using mapM_some_length h, fun i v hv => ?_⟩
    have hl : l.length = n := by simpa using mapM_some_length h
    have hi : i < n := by have := (List.getElem?_eq_some_iff.1 hv).1; omega
    have := mapM_some_get h i i (by simp [hi])
    rw [this, hv]
  · cases h
theorem all_of {e : TypeId} {d : DataW H} {n : Nat} : ∀ {l : List (DataW H)}, d ∈ l → n ∈ d.weights P e → n ∈ DataW.weightsAll P e l
  | x :: l, h, hn => by
    simp only [DataW.weightsAll, List.mem_append]
    rcases List.mem_cons.1 h with rfl | h
    · exact .inl hn
    · exact .inr (all_of h hn)
theorem addr_add (b off j : Nat) : (⟨b, off, none⟩ : Addr).add j = ⟨b, off + j, none⟩ := by simp [Addr.add]
/-- A slice, each of whose elements lies in so many cells. -/
theorem row_of {e t : TypeId} {n k : Nat} {c : Value} {x : DataW H × List MemPlace} (ht : P.underlying t = some (.slice e)) (hk : P.cellsOf e = k) (hk0 : 0 < k) (hby : 0 < P.bytesOf e) (h : DataW.trod enc P W base sp held n t [c] = some x) (hz : ∀ m ∈ x.1.weights P t, m ≤ reachBytes)
    {q : List Value → Nat → Prop} (hp : ∀ (m j : Nat) (l : List Value) (y : DataW H × List MemPlace), m < n → DataW.trod enc P W base sp held m e l = some y → l.length = k → (∀ m ∈ y.1.weights P e, m ≤ reachBytes) → q l j) :
    ∃ a len cap, c = .slice a len cap ∧ len ≤ cap ∧ len ≤ 281474976710656 ∧ (len ≠ 0 → ∃ b off, a = some ⟨b, off, none⟩ ∧ b < W.heap.size ∧ ∀ j, j < len → ∃ l, l.length = k ∧ W.rangeAt b (off + j * k) l ∧ q l j) := by
  rcases DataW.trod_slice ht h with ⟨hcs, _⟩ | ⟨a, len, cap, elems, rest, m, hm, hcs, hx, _, hl, hcap, hlen, hel, _⟩
  · injection hcs with hcs
    exact ⟨none, 0, 0, hcs, Nat.le_refl _, by omega, fun h => absurd rfl h⟩
  · injection hcs with hcs
    rw [hx] at hz
    have hz1 := hz _ (by simp only [DataW.weights, ht]; exact List.mem_cons_self ..)
    have hlz : len ≤ 281474976710656 := by
      simp only [List.length_map, reachBytes] at hz1
      have : len * 1 ≤ (elems.length + rest.length) * P.bytesOf e := Nat.mul_le_mul (by omega) hby
      omega
    refine ⟨some a, len, cap, hcs, hl, hlz, fun h0 => ?_⟩
    have hE : ∀ i, i < len → ∃ l y, DataW.trod enc P W base sp held m e l = some y ∧ l.length = k ∧ (∀ (j : Nat) v, l[j]? = some v → W.cell? ((a.add (i * k)).add j) = some v) ∧ ∀ m ∈ y.1.weights P e, m ≤ reachBytes := fun i hi => by
      have h1 := hel i hi
      rw [hk, List.getElem?_eq_getElem (show i < elems.length by omega)] at h1
      obtain ⟨l, hl1, hl2⟩ := Option.bind_eq_some_iff.1 h1
      obtain ⟨h3, h4⟩ := cells_at hl1
      refine ⟨l, _, hl2, h3, h4, fun m hm => hz m ?_⟩
      simp only [DataW.weights, ht, List.mem_cons, List.mem_append]
      exact .inr (.inl (all_of (List.mem_map.2 ⟨_, List.getElem_mem _, rfl⟩) hm))
    obtain ⟨b, off, spot⟩ := a
    have hs : spot = none ∧ b < W.heap.size := by
      obtain ⟨l, y, _, h3, h4, _⟩ := hE 0 (by omega)
      have h5 := h4 0 _ (List.getElem?_eq_getElem (by omega))
      refine ⟨by simpa [Addr.add] using World.cell?_spot h5, ?_⟩
      have := World.block_lt_of_cell? _ _ h5
      simpa [Addr.add] using this
    obtain ⟨rfl, hb⟩ := hs
    refine ⟨b, off, rfl, hb, fun j hj => ?_⟩
    obtain ⟨l, y, h2, h3, h4, h5⟩ := hE j hj
    refine ⟨l, h3, fun i v hv => ?_, hp m j l y (by omega) h2 h3 h5⟩
    have := h4 i v hv
    rw [addr_add, addr_add] at this
    exact this
end
theorem pick_list {α : Type} (x0 : α) {len : Nat} {p : Nat → α → Prop} (h : ∀ j, j < len → ∃ u, p j u) : ∃ ls : List α, ls.length = len ∧ ∀ (j : Nat) u, ls[j]? = some u → p j u := by
  refine ⟨(List.range len).map fun j => if hj : j < len then Classical.choose (h j hj) else x0, by simp, fun j u hu => ?_⟩
  have hj : j < len := by have := (List.getElem?_eq_some_iff.1 hu).1; simpa using this
  rw [List.getElem?_map, List.getElem?_range hj, Option.map_some, dif_pos hj] at hu
  injection hu with hu
  rw [← hu]
  exact Classical.choose_spec (h j hj)
theorem len1 : ∀ {l : List Value}, l.length = 1 → ∃ c0, l = [c0]
  | [c0], _ => ⟨c0, rfl⟩
def UA (w : World) (ns : List Int) (b o j : Nat) : Prop := ∀ z, ns[j]? = some z → w.cell? ⟨b, o, none⟩ = some (.int .u8 z)
theorem cells_u8 : Tryd.prog.cellsOf 5 = 1 := by kernel_rfl
theorem bytes_u8 : 0 < Tryd.prog.bytesOf 5 := by
  have : Tryd.prog.bytesOf 5 = 1 := by kernel_rfl
  omega
section
open Go.ChangeShapes Go.WideShapes Go.ChangeAt
variable {H : Type} {enc : TypeId × Value → H} {W : World} {base : Nat} {sp : Nat → Bool} {held : Bool}
theorem trod_u8 {P : Program} {n : Nat} {t : TypeId} {c : Value} {x : DataW H × List MemPlace} (ht : P.underlying t = some (.int .u8)) (h : DataW.trod enc P W base sp held n t [c] = some x) : ∃ z, c = .int .u8 z ∧ 0 ≤ z ∧ z ≤ 255 := by
  cases n with
  | zero => simp [DataW.trod] at h
  | succ n =>
    unfold DataW.trod at h
    rw [ht] at h
    cases c <;> simp at h
    obtain ⟨⟨rfl, h2⟩, _⟩ := h
    refine ⟨_, rfl, ?_⟩
    simp only [Lit.wf, Bool.and_eq_true, decide_eq_true_eq] at h2
    have h3 : IntKind.u8.min = 0 := by kernel_rfl
    have h4 : IntKind.u8.max = 255 := by kernel_rfl
    omega
theorem open_u8s {n : Nat} {c : Value} {x : DataW H × List MemPlace} (h : DataW.trod enc Tryd.prog W base sp held n 34 [c] = some x) (hz : ∀ m ∈ x.1.weights Tryd.prog 34, m ≤ reachBytes) : ∃ a cap, ∃ ns : List Int, c = .slice a ns.length cap ∧ Row W.heap.size a ns.length cap 1 (UA W ns) ∧ ∀ z ∈ ns, 0 ≤ z ∧ z ≤ 255 := by
  obtain ⟨a, len, cap, rfl, hl, hz2, hr⟩ := row_of (k := 1) (q := fun l _ => ∃ z, l = [.int .u8 z] ∧ 0 ≤ z ∧ z ≤ 255) Tryd.underlying34 cells_u8 (by omega) bytes_u8 h hz fun m j l y _ hy hl1 _ => by
    obtain ⟨c0, rfl⟩ := len1 hl1
    obtain ⟨z, rfl, hz⟩ := trod_u8 Tryd.underlying5 hy
    exact ⟨z, rfl, hz⟩
  by_cases h0 : len = 0
  · subst h0
    exact ⟨a, cap, [], rfl, ⟨hl, by simp, fun h => absurd rfl h⟩, by simp⟩
  · obtain ⟨b, off, rfl, hb, hj⟩ := hr h0
    obtain ⟨xs, hxs, hp⟩ := pick_list (p := fun j (z : Int) => W.cell? ⟨b, off + j * 1, none⟩ = some (.int .u8 z) ∧ 0 ≤ z ∧ z ≤ 255) 0 (len := len) fun j hjl => by
      obtain ⟨l, _, hra, z, rfl, hz⟩ := hj j hjl
      exact ⟨z, hra 0 _ rfl, hz⟩
    subst hxs
    refine ⟨_, cap, xs, rfl, ⟨hl, hz2, fun _ => ⟨b, off, rfl, hb, fun j _ z hz => (hp j z hz).1⟩⟩, fun z hz => ?_⟩
    obtain ⟨i, hi⟩ := List.getElem?_of_mem hz
    exact (hp i z hi).2
end
end Go.Proofs.YtjkaibnblkggbaaDoor

namespace Go.Proofs.YtjkaibnblkggbaaDoor
open Go Go.RowKit

def nb (x : ByteArray) : List Nat := x.data.toList.map UInt8.toNat
theorem nb_app (a b : ByteArray) : nb (a ++ b) = nb a ++ nb b := by simp [nb, ByteArray.data_append]
theorem nb_len (a : ByteArray) : (nb a).length = a.size := by simp [nb]
theorem nb_fits (o : ByteArray) : fits o 0 (nb o) = true := by
  unfold nb
  rw [← fits_drop, List.drop_zero]
  exact List.isPrefixOf_iff_prefix.2 (List.prefix_refl _)
theorem nb_piece (s : ByteArray) (i j : Nat) (hij : i ≤ j) (hj : j ≤ s.size) : nb (s.extract i j) = piece s i j := by
  apply List.ext_getElem?
  intro q
  by_cases hq : q < j - i
  · have h1 : q < (s.extract i j).data.toList.length := by
      have := ext_size s i j hij hj
      have h2 : (s.extract i j).data.toList.length = (s.extract i j).size := Array.length_toList
      omega
    unfold nb piece
    rw [List.getElem?_map, List.getElem?_map, List.getElem?_range hq, List.getElem?_eq_getElem h1]
    simp only [Option.map_some, Option.some.injEq]
    unfold By
    rw [get_lt s (i + q) (by omega)]
    have := ByteArray.getElem_extract (start := i) (stop := j) (b := s) (i := q) (h := by have := ext_size s i j hij hj; omega)
    rw [← this]
    simp [ByteArray.getElem_eq_getElem_data]
  · rw [List.getElem?_eq_none (by rw [nb_len, ext_size s i j hij hj]; omega), List.getElem?_eq_none (by rw [piece_len]; omega)]
def blB (k : Nat) : ByteArray := ⟨((blL k).map UInt8.ofNat).toArray⟩
theorem nb_bl : ∀ k, k < 6 → nb (blB k) = blL k := by decide
theorem blB_size : ∀ k, k < 6 → (blB k).size ≤ 12 := by decide
theorem bl_len : ∀ k, k < 6 → (blL k).length ≤ 12 := by decide
def catL (κ : Nat → Nat) : List ByteArray → Nat → List Nat
  | [], _ => []
  | t :: r, n => nb t ++ (blL (κ n) ++ catL κ r (n + 1))
theorem catL_snoc (κ : Nat → Nat) (t : ByteArray) : ∀ (l : List ByteArray) n, catL κ (l ++ [t]) n = catL κ l n ++ (nb t ++ blL (κ (n + l.length))) := by
  intro l
  induction l with
  | nil => intro n; simp [catL]
  | cons x r ih =>
    intro n
    show nb x ++ (blL (κ n) ++ catL κ (r ++ [t]) (n + 1)) = nb x ++ (blL (κ n) ++ catL κ r (n + 1)) ++ _
    rw [ih, List.length_cons, show n + 1 + r.length = n + (r.length + 1) by omega]
    simp only [List.append_assoc]
theorem catL_out (s : ByteArray) (κ : Nat → Nat) : ∀ (L : List (Int × Nat × Nat)) n, (∀ x ∈ L, TokOk s x) → catL κ (L.map (fun x => s.extract x.2.1 x.2.2) ++ [⟨#[]⟩]) n = outL s κ L n := by
  intro L
  induction L with
  | nil => intro n _; simp [catL, outL, nb]
  | cons x r ih =>
    intro n h
    obtain ⟨hi, hrd, hk⟩ := h x (List.mem_cons_self ..)
    have hrr := rd_reach s x.2.1 hi (by rw [hrd])
    rw [hrd] at hrr
    simp only at hrr
    show nb (s.extract x.2.1 x.2.2) ++ (blL (κ n) ++ catL κ (r.map _ ++ [⟨#[]⟩]) (n + 1)) = piece s x.2.1 x.2.2 ++ (blL (κ n) ++ outL s κ r (n + 1))
    rw [nb_piece s _ _ (by omega) hrr.2.1, ih (n + 1) fun y hy => h y (List.mem_cons_of_mem _ hy)]
theorem lx_sum (s : ByteArray) : ∀ f i, i ≤ s.size → ((lx s f i).1.map (fun x => x.2.2 - x.2.1)).sum ≤ s.size - i := by
  intro f
  induction f with
  | zero => intro i _; simp [lx]
  | succ f ih =>
    intro i hi
    unfold lx
    by_cases hlt : i < s.size
    · rw [if_pos hlt]
      cases hr : (rd s i).2.2 with
      | some e => simp
      | none =>
        simp only
        have hrr := rd_reach s i hlt hr
        have := ih (rd s i).2.1 hrr.2.1
        split
        · omega
        · simp only [List.map_cons, List.sum_cons]
          omega
    · rw [if_neg hlt]; simp
theorem out_len (s : ByteArray) (κ : Nat → Nat) (hκ : ∀ n, κ n < 6) : ∀ (L : List (Int × Nat × Nat)) n, (outL s κ L n).length ≤ (L.map (fun x => x.2.2 - x.2.1)).sum + 12 * (L.length + 1) := by
  intro L
  induction L with
  | nil => intro n; have := bl_len (κ n) (hκ n); simp [outL]; omega
  | cons x r ih =>
    intro n
    have h1 := ih (n + 1)
    have h2 := bl_len (κ n) (hκ n)
    have e : outL s κ (x :: r) n = piece s x.2.1 x.2.2 ++ (blL (κ n) ++ outL s κ r (n + 1)) := rfl
    rw [e, List.length_append, List.length_append, piece_len, List.map_cons, List.sum_cons, List.length_cons]
    omega
/-- What is written anew comes to the same tokens. -/
theorem tk_again (s o : ByteArray) (κ : Nat → Nat) (hκ : ∀ n, κ n < 6) (hs : s.size ≤ 500) (hn : (tk s).2 = none) (ho : nb o = catL κ ((tkL s).map (fun x => x.2.1)) 0) : (tk o).2 = none ∧ (tk o).1.map (fun x => (x.1, o.extract x.2.1 x.2.2)) = (tk s).1.map (fun x => (x.1, s.extract x.2.1 x.2.2)) := by
  have e : tk s = lx s s.size 0 := by unfold tk; rw [if_neg (by omega)]
  have hok : ∀ x ∈ (tk s).1, TokOk s x := fun x hx => by rw [e] at hx; exact lx_ok s _ _ x hx
  have hT : (tkL s).map (fun x => x.2.1) = (tk s).1.map (fun x => s.extract x.2.1 x.2.2) ++ [⟨#[]⟩] := by simp [tkL]
  rw [hT, catL_out s κ _ 0 hok] at ho
  have hlen : o.size = (outL s κ (tk s).1 0).length := by rw [← ho, nb_len]
  have hz : o.size ≤ 65536 := by
    have h1 := out_len s κ hκ (tk s).1 0
    have h2 := lx_sum s s.size 0 (by omega)
    have h3 := lx_len s s.size 0
    rw [← e] at h2 h3
    omega
  have hf : fits o 0 (outL s κ (tk s).1 0) = true := by rw [← ho]; exact nb_fits o
  obtain ⟨L', h1, h2⟩ := relex s o κ (tk s).1 0 0 o.size hok hf (by omega) (by omega)
  have eo : tk o = lx o o.size 0 := by unfold tk; rw [if_neg (by omega)]
  rw [eo, h1]
  exact ⟨rfl, h2⟩
/-- So the rows of tokens agree, but for places. -/
theorem tkL_again (s o : ByteArray) (h : (tk o).1.map (fun x => (x.1, o.extract x.2.1 x.2.2)) = (tk s).1.map (fun x => (x.1, s.extract x.2.1 x.2.2))) : (tkL o).length = (tkL s).length ∧ ∀ (j : Nat) x y, (tkL o)[j]? = some x → (tkL s)[j]? = some y → x.1 = y.1 ∧ x.2.1 = y.2.1 := by
  have hm : (tkL o).map (fun x => (x.1, x.2.1)) = (tkL s).map (fun x => (x.1, x.2.1)) := by
    unfold tkL
    rw [List.map_append, List.map_append, List.map_map, List.map_map]
    show (tk o).1.map (fun x => (x.1, o.extract x.2.1 x.2.2)) ++ _ = (tk s).1.map (fun x => (x.1, s.extract x.2.1 x.2.2)) ++ _
    rw [h]
    rfl
  refine ⟨by simpa using congrArg List.length hm, fun j x y hx hy => ?_⟩
  have e1 : ((tkL o).map (fun x => (x.1, x.2.1)))[j]? = some (x.1, x.2.1) := by rw [List.getElem?_map, hx]; rfl
  have e2 : ((tkL s).map (fun x => (x.1, x.2.1)))[j]? = some (y.1, y.2.1) := by rw [List.getElem?_map, hy]; rfl
  rw [hm, e2] at e1
  have := Option.some.inj e1
  exact ⟨(congrArg Prod.fst this).symm, (congrArg Prod.snd this).symm⟩
theorem bl_cells : ∀ k, k < 6 → ((#[.string ⟨#[32]⟩, .string ⟨#[10, 9]⟩, .string ⟨#[32, 40, 42, 32, 120, 32, 58, 61, 32, 42, 41, 32]⟩, .string ⟨#[13, 32, 40, 42, 42, 41]⟩, .string ⟨#[32, 40, 42, 32, 42, 32, 41, 32, 42, 41]⟩, .string ⟨#[32, 32]⟩] : Array Value))[k]? = some (.string (blB k))
  | 0, _ => rfl
  | 1, _ => rfl
  | 2, _ => rfl
  | 3, _ => rfl
  | 4, _ => rfl
  | 5, _ => rfl
  | k + 6, h => by omega
end Go.Proofs.YtjkaibnblkggbaaDoor
