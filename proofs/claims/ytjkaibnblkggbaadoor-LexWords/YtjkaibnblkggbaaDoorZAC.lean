/- The package-level variables that the rows list, as the walks want them: the signs, errors.errorType, the two tables of unicode/utf8. -/
import Derived.Test.YtjkaibnblkggbaaDoorZAB
import Derived.Test.YtjkaibnblkggbaaDoorRows
import Derived.Lib.LaidU8T
import Derived.LaidHandle
import Derived.LaidLaws
import Derived.OpenShut
import Derived.ChangeArms
set_option linter.unusedVariables false
set_option linter.unusedSimpArgs false

/- Tokens as they lie; what Tokens hands back, in short; the chapter's example. -/
namespace Go.Proofs.YtjkaibnblkggbaaDoor
open Go Go.RowKit

/-- A row of tokens (kind, text, place) as it lies. -/
def RdT (w : World) (v : Value) (l : List (Int × ByteArray × Int)) : Prop :=
  ∃ a c, v = .slice a l.length c ∧ (l ≠ [] → ∃ g, a = some ⟨g, 0, none⟩ ∧ g < w.heap.size ∧ ∀ j x, l[j]? = some x → w.cell? ⟨g, j * 3, none⟩ = some (.int .i64 x.1) ∧ w.cell? ⟨g, j * 3 + 1, none⟩ = some (.string x.2.1) ∧ w.cell? ⟨g, j * 3 + 2, none⟩ = some (.int .i64 x.2.2))
theorem RdT.below {w w' : World} {v : Value} {l : List (Int × ByteArray × Int)} (h : RdT w v l) (hb : Below w.heap.size w w') : RdT w' v l := by
  obtain ⟨a, c, rfl, h⟩ := h
  refine ⟨a, c, rfl, fun hl => ?_⟩
  obtain ⟨g, e, hg, hc⟩ := h hl
  refine ⟨g, e, Nat.lt_of_lt_of_le hg hb.size, fun j x hx => ?_⟩
  rw [hb.cell (p := ⟨g, j * 3, none⟩) hg, hb.cell (p := ⟨g, j * 3 + 1, none⟩) hg, hb.cell (p := ⟨g, j * 3 + 2, none⟩) hg]
  exact hc j x hx
/-- Its cells. -/
def tcells (l : List (Int × ByteArray × Int)) : List Value := l.flatMap fun x => [.int .i64 x.1, .string x.2.1, .int .i64 x.2.2]
theorem tcells_get : ∀ (l : List (Int × ByteArray × Int)) (j : Nat) x, l[j]? = some x → (tcells l)[j * 3]? = some (.int .i64 x.1) ∧ (tcells l)[j * 3 + 1]? = some (.string x.2.1) ∧ (tcells l)[j * 3 + 2]? = some (.int .i64 x.2.2) := by
  intro l
  induction l with
  | nil => intro j x h; cases h
  | cons y l ih =>
    intro j x h
    have e : tcells (y :: l) = [.int .i64 y.1, .string y.2.1, .int .i64 y.2.2] ++ tcells l := rfl
    cases j with
    | zero =>
      obtain rfl : y = x := by simpa using h
      exact ⟨rfl, rfl, rfl⟩
    | succ j =>
      have := ih j x (by simpa using h)
      rw [e, show (j + 1) * 3 = j * 3 + 3 by omega]
      exact this
theorem own_rdT {w : World} {B n : Nat} {v : Value} {l : List (Int × ByteArray × Int)} (h : w.ownsRow B 36 3 v n (tcells l)) (hn : n = l.length) : RdT w v l := by
  obtain ⟨h1, ⟨rfl, h0⟩ | ⟨g, cap, cur, rfl, hB, hc, hle, hm, hsz, htk⟩⟩ := h
  · subst hn
    have : l = [] := List.length_eq_zero_iff.1 h0
    subst this
    exact ⟨none, 0, rfl, fun h => absurd rfl h⟩
  · subst hn
    refine ⟨_, cap, rfl, fun _ => ⟨g, rfl, (Array.getElem?_eq_some_iff.1 hc).1, fun j x hx => ?_⟩⟩
    have hk : ∀ (i : Nat) u, (tcells l)[i]? = some u → w.cell? ⟨g, i, none⟩ = some u := fun i u hu => by
      rw [← htk, List.getElem?_take] at hu
      split at hu
      · exact (blk hc).2.1 i u (by rw [← Array.getElem?_toList]; exact hu)
      · cases hu
    have := tcells_get l j x hx
    exact ⟨hk _ _ this.1, hk _ _ this.2.1, hk _ _ this.2.2⟩
/-- The tokens of a text, with its end. -/
def tkL (s : ByteArray) : List (Int × ByteArray × Int) := (tk s).1.map (fun x => (x.1, s.extract x.2.1 x.2.2, (x.2.1 : Int))) ++ [(0, ⟨#[]⟩, (s.size : Int))]
theorem toks_eq (s : ByteArray) : ∀ l : List (Int × Nat × Nat), toks s l = tcells (l.map (fun x => (x.1, s.extract x.2.1 x.2.2, (x.2.1 : Int)))) := by
  intro l
  induction l with
  | nil => rfl
  | cons x l ih =>
    have e1 : toks s (x :: l) = tokC s x ++ toks s l := rfl
    rw [e1, ih]
    rfl
theorem tcells_app (a b : List (Int × ByteArray × Int)) : tcells (a ++ b) = tcells a ++ tcells b := List.flatMap_append
theorem tkL_len (s : ByteArray) : (tkL s).length = (tk s).1.length + 1 := by simp [tkL]
/-- What Tokens hands back: its tokens. -/
theorem tkp_ok {s : ByteArray} {w w' : World} {e : Ending} (h : TkP s (tk s) w e w') (hn : (tk s).2 = none) : Below w.heap.size w w' ∧ ∃ v, e = .returned (.tuple #[v, .nilIface]) ∧ RdT w' v (tkL s) := by
  obtain ⟨hb, ⟨_, v, he, ho⟩ | ⟨a, n, b, hx, _⟩⟩ := h
  · refine ⟨hb, v, he, own_rdT (B := w.heap.size) (n := (tk s).1.length + 1) ?_ (tkL_len s).symm⟩
    unfold tkL
    rw [tcells_app, ← toks_eq]
    exact ho
  · rw [hn] at hx; cases hx
theorem tkp_err {s : ByteArray} {w w' : World} {e : Ending} {a n : Nat} (h : TkP s (tk s) w e w') (hn : (tk s).2 = some (a, n)) : Below w.heap.size w w' ∧ ∃ b, e = .returned (.tuple #[.slice none 0 0, .iface 43 (.pointer (some ⟨b, 0, none⟩))]) ∧ w'.heap[b]? = some (.cells #[.int .i64 a, .int .i64 n] 46) := by
  obtain ⟨hb, ⟨hx, _⟩ | ⟨a2, n2, b, hx, h1, h2, h3⟩⟩ := h
  · rw [hn] at hx; cases hx
  · rw [hn] at hx
    obtain ⟨rfl, rfl⟩ : a = a2 ∧ n = n2 := by simpa using hx
    exact ⟨hb, b, h2, h3⟩
theorem tk_two : (tk ⟨#[120, 32, 40, 42, 32, 121]⟩).2 = some (2, 140) := by kernel_rfl
theorem tkL_one : tkL ⟨#[120, 32, 58, 61, 32, 33, 120, 32, 43, 32, 49]⟩ = [(1, ⟨#[120]⟩, 0), (4, ⟨#[58, 61]⟩, 2), (4, ⟨#[33]⟩, 5), (1, ⟨#[120]⟩, 6), (4, ⟨#[43]⟩, 8), (3, ⟨#[49]⟩, 10), (0, ⟨#[]⟩, 11)] := by kernel_rfl
set_option maxRecDepth 100000 in
set_option maxHeartbeats 16000000 in
theorem known_any (w : World) (hG : SG w) (hE : EH w) : Calls Tryd.prog 8 #[] w fun e w' => e = .returned (.bool true) ∧ Below w.heap.size w w' := by
  have h1w := hG.lt
  have c1 := tokens_any ⟨#[120, 32, 58, 61, 32, 33, 120, 32, 43, 32, 49]⟩ w hG
  have cw1 := lexWord_any ⟨#[108, 101, 116]⟩
  rw [show isWd ⟨#[108, 101, 116]⟩ = true from by kernel_rfl] at cw1
  have cw2 := lexWord_any ⟨#[120]⟩
  rw [show isWd ⟨#[120]⟩ = false from by kernel_rfl] at cw2
  replace hG := hide hG
  replace hE := hide hE
  go_enter Tryd.func8, Tryd.ntmps8
  go_wp2_with fail
  refine c1.mono ?_
  rintro e w1 h1
  obtain ⟨hb1, v, rfl, hr1⟩ := tkp_ok h1 (by kernel_rfl)
  rw [tkL_one] at hr1
  have c2 := tokens_any ⟨#[120, 32, 40, 42, 32, 121]⟩ w1 ((unhide hG).below hb1 h1w)
  obtain ⟨a, c, rfl, hr2⟩ := hr1
  obtain ⟨g, rfl, hg, hc⟩ := hr2 (by simp)
  have r1 : w1.cell? ⟨g, 4, none⟩ = some (.string ⟨#[58, 61]⟩) := (hc 1 _ rfl).2.1
  have r2 : w1.cell? ⟨g, 7, none⟩ = some (.string ⟨#[33]⟩) := (hc 2 _ rfl).2.1
  have r5 : w1.cell? ⟨g, 15, none⟩ = some (.int .i64 3) := (hc 5 _ rfl).1
  have r6 : w1.cell? ⟨g, 20, none⟩ = some (.int .i64 11) := (hc 6 _ rfl).2.2
  replace hc := hide hc
  clear hr2 c1 h1
  go_wp2_with fail
  refine c2.mono ?_
  rintro e w2 h2
  obtain ⟨hb2, b, rfl, hr2⟩ := tkp_err h2 tk_two
  have hb12 := hb1.trans (hb2.mono hb1.size)
  have c3 := told_err 2 140 b w2 ((unhide hE).below hb12 (by omega)) hr2
  rw [← hb2.cell (p := ⟨g, 4, none⟩) hg] at r1
  rw [← hb2.cell (p := ⟨g, 7, none⟩) hg] at r2
  rw [← hb2.cell (p := ⟨g, 15, none⟩) hg] at r5
  rw [← hb2.cell (p := ⟨g, 20, none⟩) hg] at r6
  replace hg := Nat.lt_of_lt_of_le hg hb2.size
  clear c2 h2
  replace hr2 := hide hr2
  go_wp2_with fail
  refine c3.mono ?_
  rintro e w3 ⟨rfl, hb3⟩
  rw [← hb3.cell (p := ⟨g, 4, none⟩) hg] at r1
  rw [← hb3.cell (p := ⟨g, 7, none⟩) hg] at r2
  rw [← hb3.cell (p := ⟨g, 15, none⟩) hg] at r5
  rw [← hb3.cell (p := ⟨g, 20, none⟩) hg] at r6
  have hb13 := hide (hb12.trans (hb3.mono hb12.size))
  replace hb12 := hide hb12
  clear c3
  obtain ⟨t1, ht1⟩ : ∃ t1 : ByteArray, ⟨#[58, 61]⟩ = t1 := ⟨_, rfl⟩
  obtain ⟨t2, ht2⟩ : ∃ t2 : ByteArray, ⟨#[33]⟩ = t2 := ⟨_, rfl⟩
  have b1 : (t1.toList == [58, 61]) = true := by rw [← ht1, Lib.toList_data]; rfl
  have b2 : (t2.toList == [33]) = true := by rw [← ht2, Lib.toList_data]; rfl
  rw [ht1] at r1
  rw [ht2] at r2
  clear ht1 ht2
  go_wp2_with fail
  refine (cw1 _).mono ?_
  rintro e w4 ⟨rfl, rfl⟩
  go_wp2_with fail
  refine (cw2 _).mono ?_
  rintro e w5 ⟨rfl, rfl⟩
  go_wp2_with fail
  go_ret
  exact ⟨rfl, unhide hb13⟩
end Go.Proofs.YtjkaibnblkggbaaDoor

/- The walk of LexWords. -/
namespace Go.Proofs.YtjkaibnblkggbaaDoor
open Go Go.RowKit

def ns (n : Nat) : ByteArray := ⟨(List.replicate n 110).toArray⟩
theorem ns_size (n : Nat) : (ns n).size = n := by simp [ns, ByteArray.size]
theorem ns_succ (n : Nat) : ns (n + 1) = ns n ++ ⟨#[110]⟩ := by
  unfold ns
  apply ByteArray.ext
  apply Array.ext'
  simp [List.replicate_succ', ByteArray.data_append]
def nt (m : Nat) : ByteArray := ⟨(59 :: 59 :: 32 :: List.replicate m 110).toArray⟩
theorem nt_eq (m : Nat) : (⟨#[59, 59, 32]⟩ : ByteArray) ++ ns m = nt m := by
  unfold nt ns
  apply ByteArray.ext
  apply Array.ext'
  simp [ByteArray.data_append]
theorem nt_long : ∀ k, k < 4 → (tk (nt (41 + k))).2 = some (3, 141)
  | 0, _ => by kernel_rfl
  | 1, _ => by kernel_rfl
  | 2, _ => by kernel_rfl
  | 3, _ => by kernel_rfl
  | k + 4, h => by omega
theorem nt_short : ∀ k, k < 5 → (tk (nt (36 + k))).2 = none ∧ tkL (nt (36 + k)) = [(4, ⟨#[59, 59]⟩, 0), (1, ns (36 + k), 3), (0, ⟨#[]⟩, ((36 + k + 3 : Nat) : Int))]
  | 0, _ => ⟨by kernel_rfl, by kernel_rfl⟩
  | 1, _ => ⟨by kernel_rfl, by kernel_rfl⟩
  | 2, _ => ⟨by kernel_rfl, by kernel_rfl⟩
  | 3, _ => ⟨by kernel_rfl, by kernel_rfl⟩
  | 4, _ => ⟨by kernel_rfl, by kernel_rfl⟩
  | k + 5, h => by omega
theorem beq_self (s : ByteArray) : (s.toList == s.toList) = true := by simp
set_option maxRecDepth 100000 in
set_option maxHeartbeats 16000000 in
theorem words_walk (s : ByteArray) (n : Int) (w : World) (hG : SG w) (hE : EH w) : Calls Tryd.prog 5 #[.string s, .int .i64 n] w fun e w' => e = .returned (.bool true) ∧ Below w.heap.size w w' := by
  have hK := hide (known_any w hG hE)
  have h1w := hG.lt
  replace hG := hide hG
  replace hE := hide hE
  by_cases hlen : 100 < s.size
  · have hl : (100 : Int) < (s.size : Int) := by omega
    go_enter Tryd.func5, Tryd.ntmps5
    go_wp2_with fail
    refine (unhide hK).mono ?_
    rintro e w1 ⟨rfl, hb1⟩
    go_wp2
    go_ret
    exact ⟨rfl, hb1⟩
  have hl : decide ((100 : Int) < (s.size : Int)) = false := by simp; omega
  obtain ⟨p, hp, hp9⟩ : ∃ p : Nat, plc n 9 = (p : Int) ∧ p < 9 := ⟨(plc n 9).toNat, by have := plc_in n (n := 9) (by omega); omega, by have := plc_in n (n := 9) (by omega); omega⟩
  have hP := fun W => place_any n 9 W (by omega) (by omega)
  rw [hp] at hP
  replace hP := hide hP
  replace hp := hide hp
  obtain ⟨b, hb⟩ : ∃ b, isWd s = b := ⟨_, rfl⟩
  have hW1 := hide (lexWord_any s)
  have hW2 := hide (refWord_any s)
  rw [hb] at hW1 hW2
  go_enter Tryd.func5, Tryd.ntmps5
  go_wp2_with fail
  refine (unhide hK).mono ?_
  rintro e w1 ⟨rfl, hb1⟩
  replace hb1 := hide hb1
  go_wp2_with fail
  refine (unhide hW1 _).mono ?_
  rintro e w2 ⟨rfl, rfl⟩
  go_wp2_with fail
  refine (unhide hW2 _).mono ?_
  rintro e w3 ⟨rfl, hb3⟩
  replace hb3 := hide ((unhide hb1).trans (hb3.mono (unhide hb1).size))
  have hbb : (b != b) = false := by cases b <;> rfl
  go_wp2_with fail
  refine (unhide hP _).mono ?_
  rintro e w4 ⟨rfl, rfl⟩
  obtain ⟨m, hm⟩ : ∃ m : Nat, m = 36 + p := ⟨_, rfl⟩
  have hmi : (36 : Int) + (p : Int) = (m : Int) := by omega
  have hm1 : 36 ≤ m ∧ m ≤ 44 := by omega
  replace hm := hide hm
  replace hl := hide hl
  go_wp2_with fail
  go_loopw [6, 5] (fun iv sv wr => ∃ i : Nat, i ≤ m ∧ iv = .int .i64 (i : Int) ∧ sv = .string (ns i) ∧ wr = w4) (fun iv _ _ => (m - (intOf iv).toNat))
  case atStart => exact ⟨0, Nat.zero_le _, rfl, rfl, rfl⟩
  case round =>
    obtain ⟨i, hi, rfl, rfl, rfl⟩ := hrel
    have hwsz := ns_size i
    by_cases hlt : i < m
    · have hdi : decide ((i : Int) < (m : Int)) = true := by simp; omega
      have hcat : (9223372036854775807 < (ns i).size + 1) = False := by simp; omega
      have hsc := hide (ns_succ i)
      clear hwsz
      go_wp2
      exact ⟨⟨i + 1, by omega, rfl, by rw [unhide hsc], trivial⟩, by simp only [intOf]; omega⟩
    · obtain rfl : i = m := by omega
      have hdi : decide ((i : Int) < (i : Int)) = false := by simp
      have hcat : (9223372036854775807 < 3 + (ns i).size) = False := by simp; omega
      have hnt := nt_eq i
      obtain ⟨t, ht⟩ : ∃ t, nt i = t := ⟨_, rfl⟩
      rw [ht] at hnt
      have c := tokens_any t wr ((unhide hG).below (unhide hb3) h1w)
      obtain ⟨q, hq⟩ : ∃ q, ns i = q := ⟨_, rfl⟩
      rw [hq] at hnt hwsz hcat ⊢
      replace hq := hide hq
      replace ht := hide ht
      by_cases h40 : 40 < i
      · have hd4 : decide ((40 : Int) < (i : Int)) = true := by simp; omega
        have hx : (tk t).2 = some (3, 141) := by
          have := nt_long (i - 41) (by omega)
          rw [show 41 + (i - 41) = i by omega, unhide ht] at this
          exact this
        replace hx := hide hx
        go_wp2_with fail
        refine c.mono ?_
        rintro e w5 h5
        obtain ⟨hb5, bb, rfl, hr5⟩ := tkp_err h5 (unhide hx)
        have hbz := (unhide hb3).trans (hb5.mono (unhide hb3).size)
        have c3 := told_err 3 141 bb w5 ((unhide hE).below hbz (by omega)) hr5
        replace hr5 := hide hr5
        clear c h5
        go_wp2_with fail
        refine c3.mono ?_
        rintro e w6 ⟨rfl, hb6⟩
        have hbf := hide (hbz.trans (hb6.mono hbz.size))
        clear c3
        go_wp2_with fail
        go_ret
        exact ⟨rfl, unhide hbf⟩
      · have hd4 : decide ((40 : Int) < (i : Int)) = false := by simp; omega
        have hx : (tk t).2 = none ∧ tkL t = [(4, ⟨#[59, 59]⟩, 0), (1, q, 3), (0, ⟨#[]⟩, ((i + 3 : Nat) : Int))] := by
          have := nt_short (i - 36) (by omega)
          rw [show 36 + (i - 36) = i by omega, unhide ht, unhide hq] at this
          exact this
        replace hx := hide hx
        go_wp2_with fail
        refine c.mono ?_
        rintro e w5 h5
        obtain ⟨hb5, v, rfl, hr5⟩ := tkp_ok h5 (unhide hx).1
        rw [(unhide hx).2] at hr5
        obtain ⟨a, cc, rfl, hr6⟩ := hr5
        obtain ⟨g, rfl, hg, hc⟩ := hr6 (by simp)
        have r3 : w5.cell? ⟨g, 3, none⟩ = some (.int .i64 1) := (hc 1 _ rfl).1
        have r4 : w5.cell? ⟨g, 4, none⟩ = some (.string q) := (hc 1 _ rfl).2.1
        have hbz := hide ((unhide hb3).trans (hb5.mono (unhide hb3).size))
        have hqq := beq_self q
        replace hc := hide hc
        clear c h5 hr6
        replace hwsz := hide hwsz
        go_wp2_with fail
        refine (told_nil _).mono ?_
        rintro e w6 ⟨rfl, rfl⟩
        go_wp2_with fail
        go_ret
        exact ⟨rfl, unhide hbz⟩
end Go.Proofs.YtjkaibnblkggbaaDoor

namespace Go.Proofs.YtjkaibnblkggbaaDoor
open Go Go.RowKit

theorem la_et : Tryd.prog.globalNamed "errors.errorType" = some 0 := by kernel_rfl
theorem la_rt : (Tryd.prog.cutTypes.find? (·.1 == "internal/reflectlite.rtype")).map (·.2) = some 75 := by kernel_rfl
theorem la_one : ((List.range Tryd.prog.types.size).filter fun t => Tryd.prog.rowNamed t [101, 114, 114, 111, 114]) = [25] := by kernel_rfl
theorem eh_of {W : World} (h : handlesMet Tryd.prog [("errors.errorType", Rows.laid_errors_errorType)] W) : EH W := by
  obtain ⟨name, u, ty, e1, e2, e3, e4, e5⟩ := h _ (List.mem_singleton.2 rfl)
  have en : name = [101, 114, 114, 111, 114] := (Option.some.inj e1).symm
  subst en
  obtain rfl := Option.some.inj (la_rt.symm.trans e2)
  have hm : ty ∈ (List.range Tryd.prog.types.size).filter fun t => Tryd.prog.rowNamed t [101, 114, 114, 111, 114] := List.mem_filter.2 ⟨List.mem_range.2 e3, e4⟩
  rw [la_one] at hm
  obtain rfl := List.mem_singleton.1 hm
  have hh : typeHandle Tryd.prog 25 = .pointer (some ⟨4, 25, none⟩) := by kernel_rfl
  rw [hh] at e5
  have := World.var?_cell la_et e5 0
  simpa [EH] using this
theorem la_sg : Tryd.prog.globalNamed "avow/lex.signs" = some 1 := by kernel_rfl
theorem la_st : (Tryd.prog.globals[1]?).map (·.type) = some 73 := by kernel_rfl
theorem la_arr : Tryd.prog.underlying 73 = some (.array 25 9) := by kernel_rfl
theorem la_ca : Tryd.prog.cellsOf 73 = 25 := by kernel_rfl
theorem la_ce : Tryd.prog.cellsOf 9 = 1 := by kernel_rfl
theorem la_data : (Rows.laid_avow_lex_signs : DataW Unit) = .agg ((List.range 25).map fun k => .lit (.string (sgB k).data.toList)) := by kernel_rfl
theorem sg_of {W : World} (h : Lib.VarReads Tryd.prog W "avow/lex.signs" Rows.laid_avow_lex_signs) : SG W := by
  obtain ⟨g, t, cs, fuel, p, hg, hty, hvar, hd⟩ := h
  obtain rfl := Option.some.inj (la_sg.symm.trans hg)
  obtain rfl := Option.some.inj (la_st.symm.trans hty)
  obtain ⟨xs, m, _, hx, hl, hxl, hall⟩ := DataW.trod_array la_arr hd
  rw [la_ca] at hl
  have hxs : xs.map (·.1) = (List.range 25).map fun k => (.lit (.string (sgB k).data.toList) : DataW Unit) := by
    have := congrArg Prod.fst hx
    simp only [la_data] at this
    injection this with this
    exact this.symm
  have hcs : cs.toList = signV := by
    apply List.ext_getElem?
    intro i
    by_cases hi : i < 25
    · have h1 := hall i hi
      obtain ⟨b, hb⟩ : ∃ b, xs[i]? = some b := ⟨xs[i]'(by omega), List.getElem?_eq_getElem (by omega)⟩
      rw [hb, la_ce] at h1
      obtain ⟨z, hcz, rfl, _⟩ := DataW.trod_string (P := Tryd.prog) (t := 9) (by kernel_rfl) h1
      have h2 : cs.toList[i]? = some (.string z) := by
        have := congrArg (·[0]?) hcz
        simpa [List.getElem?_take, List.getElem?_drop] using this
      have h3 : (xs.map (·.1))[i]? = some (.lit (.string z.data.toList) : DataW Unit) := by simp [hb]
      rw [hxs, List.getElem?_map, List.getElem?_range hi] at h3
      simp only [Option.map_some, Option.some.injEq, DataW.lit.injEq, Lit.string.injEq] at h3
      have hz : z = sgB i := by
        cases z with
        | mk z =>
          obtain ⟨y, hy⟩ : ∃ y, sgB i = y := ⟨_, rfl⟩
          rw [hy] at h3 ⊢
          cases y with
          | mk y => simp only at h3; rw [Array.toList_inj.1 h3.symm]
      rw [h2, hz]
      unfold signV
      rw [List.getElem?_map, List.getElem?_range hi]
      rfl
    · rw [List.getElem?_eq_none (by omega), List.getElem?_eq_none (by simp [signV]; omega)]
  unfold World.var? at hvar
  rw [la_sg] at hvar
  simp only [Option.bind_some] at hvar
  split at hvar
  · rename_i c t fr hh
    obtain rfl := Option.some.inj hvar
    refine ⟨t, fr, ?_⟩
    rw [← hcs]
    simpa using hh
  · cases hvar
/-- A row that lists errors.errorType and the signs. -/
theorem two_of {W : World} (h : laidMetH Tryd.prog [("errors.errorType", Rows.laid_errors_errorType), ("avow/lex.signs", Rows.laid_avow_lex_signs)] W) : SG W ∧ EH W := by
  have h' : laidMet Tryd.prog [("avow/lex.signs", Rows.laid_avow_lex_signs)] W ∧ handlesMet Tryd.prog [("errors.errorType", Rows.laid_errors_errorType)] W := h
  exact ⟨sg_of (Lib.laidMet.reads h'.1 (List.mem_singleton.2 rfl)), eh_of h'.2⟩
end Go.Proofs.YtjkaibnblkggbaaDoor
