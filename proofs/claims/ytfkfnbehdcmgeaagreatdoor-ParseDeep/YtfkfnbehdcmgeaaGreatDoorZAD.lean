/- Package parse: a rule that is one deeper. -/
import Derived.Test.YtfkfnbehdcmgeaaGreatDoorZAC
import Derived.WalkSmall
import Derived.Orders
import Derived.Below
import Derived.Tactics
import Derived.OrdersIn
import Derived.RangeFuncCalls
import Derived.Lib.Walk
import Derived.Lib.ItoaMem
import Derived.Lib.AppendIntMem
import Derived.BigCall
import Derived.BigGuard
import Derived.CellFam
import Derived.Lib.ItoaNum
import Derived.RangeFuncBox
import Derived.Lib.AppendStr
import Derived.Deep.QuietTactic
import Derived.BigQuiet
import Derived.Test.YtfkfnbehdcmgeaaGreatDoorProg
set_option linter.unusedVariables false
set_option linter.unusedSimpArgs false

/- Package parse: the reader's small functions, and what a rule answers. -/
namespace Go.Proofs.YtfkfnbehdcmgeaaGreatDoor
open Go Go.RowKit
/-- A refusal that is thrown. -/
def Ref (i n : Int) (e : Ending) : Prop := e = .panicked [{ v := .iface 89 (.agg #[.int .i64 i, .int .i64 n]), recovered := false }]
/-- What a rule answers. -/
def RP {α : Type} (Φ : World → Value → α → Prop) (x : (Except (Int × Int) (α × Nat))) (r : Nat) (ts : List (Int × ByteArray × Int)) (p d : Nat) (w : World) (e : Ending) (w' : World) : Prop := But r w w' ∧ match x with
  | .ok (t, q) => p ≤ q ∧ RD w' r ts q d ∧ ∃ v, e = .returned v ∧ Φ w' v t
  | .error (i, n) => Ref i n e
def TkOk (_ : World) (v : Value) (t : (Int × ByteArray × Int)) : Prop := v = tkV t
def UnOk (_ : World) (v : Value) (_ : Unit) : Prop := v = .tuple #[]
theorem nx_txt {ts : List (Int × ByteArray × Int)} {p : Nat} (hT : TsOk ts) (hp : p < ts.length) (h : txt ts p ≠ ⟨#[]⟩) : p + 1 < ts.length := hT.txt p _ (nx_of hp) (.inl h)
theorem nx_kind {ts : List (Int × ByteArray × Int)} {p : Nat} (hT : TsOk ts) (hp : p < ts.length) (h : (nx ts p).1 ≠ 0) : p + 1 < ts.length := hT.txt p _ (nx_of hp) (.inr h)
theorem sees_txt {ts : List (Int × ByteArray × Int)} {p : Nat} {s : ByteArray} (h : sees ts p s = true) : txt ts p = s := of_decide_eq_true h
set_option maxRecDepth 100000 in
set_option maxHeartbeats 4000000 in
theorem one_any {w : World} {r p d g c : Nat} {ts : List (Int × ByteArray × Int)} {l : List ByteArray} (hR : RD w r ts p d) (hT : TsOk ts) (hg : g < w.heap.size) (hl : l.length ≤ 100) (hc : ∀ (j : Nat) s, l[j]? = some s → w.cell? ⟨g, j, none⟩ = some (.string s)) : Calls Tryz.prog 43 #[.pointer (some ⟨r, 0, none⟩), .slice (some ⟨g, 0, none⟩) l.length c] w (VP (.bool (l.any (sees ts p))) w) := by
  have HA := hide (And.intro hR (And.intro hT (And.intro hg (And.intro hl hc))))
  unfold VP
  obtain ⟨n, hn⟩ : ∃ n, l.length = n := ⟨_, rfl⟩
  obtain ⟨out, ho⟩ : ∃ out, l.any (sees ts p) = out := ⟨_, rfl⟩
  have hl' : (n : Int) ≤ 100 := by omega
  rw [hn, ho]
  have HN := hide (And.intro hn ho)
  clear hR hT hg hl hc hn ho
  go_enter Tryz.func43, Tryz.ntmps43
  go_wp2_with fail
  go_loopw [9] (fun iv wr => ∃ i : Nat, i ≤ n ∧ iv = .int .i64 i ∧ Hid ((l.take i).any (sees ts p) = false) ∧ Hid (Below w.heap.size w wr)) (fun iv _ => n - (intOf iv).toNat)
  case atStart => exact ⟨0, Nat.zero_le _, rfl, rfl, Below.refl _ _⟩
  case round =>
    obtain ⟨i, hi0, rfl, hR, hwr⟩ := hrel
    by_cases hi : i < n
    · obtain ⟨hRD, hT, hg, hl, hc⟩ := unhide HA
      obtain ⟨s, hs⟩ : ∃ s, l[i]? = some s := ⟨_, List.getElem?_eq_getElem (by rw [(unhide HN).1]; exact hi)⟩
      have x1 : wr.cell? ⟨g, i, none⟩ = some (.string s) := ((unhide hwr).cell (p := ⟨g, i, none⟩) hg).trans (hc i s hs)
      have g1 : (i : Int) < (n : Int) := by omega
      have g3 : (0 : Int) ≤ (i : Int) := by omega
      have HS := hide (sees_any (hRD.keep (unhide hwr)) hT s)
      have HX := hide hs
      obtain ⟨b, hb⟩ : ∃ b, sees ts p s = b := ⟨_, rfl⟩
      rw [hb] at HS
      have HBB := hide hb
      clear hRD hT hg hl hc hs hb
      go_wp2_with fail
      refine (unhide HS).mono ?_
      rintro e w2 ⟨rfl, hb2⟩
      have HW := hide ((unhide hwr).trans (hb2.mono (unhide hwr).size))
      clear hb2 HS
      have hany : Hid ((l.take (i + 1)).any (sees ts p) = b) := by
        show _ = _
        rw [List.take_add_one, unhide HX, List.any_append, unhide hR]
        simp [unhide HBB]
      cases b with
      | true =>
        go_wp2
        go_ret
        refine ⟨?_, unhide HW⟩
        have h1 := unhide hany
        have h2 : l.any (sees ts p) = true := by
          rw [List.any_eq_true] at h1 ⊢
          obtain ⟨x, hx, hx2⟩ := h1
          exact ⟨x, List.mem_of_mem_take hx, hx2⟩
        rw [(unhide HN).2] at h2
        rw [h2]
        rfl
      | false =>
        go_wp2
        refine ⟨⟨i + 1, by omega, by simp, hany, HW⟩, ?_⟩
        simp [intOf]
        omega
    · have gi : decide ((i : Int) < (n : Int)) = false := by simp; omega
      have g1 : ¬ ((i : Int) < (n : Int)) := by omega
      obtain rfl : i = n := by omega
      have h2 := unhide hR
      rw [← (unhide HN).1, List.take_length, (unhide HN).2] at h2
      subst h2
      have HW := hwr
      clear hR hwr hi hi0
      go_wp2
      go_ret
      exact ⟨rfl, unhide HW⟩
set_option maxRecDepth 100000 in
set_option maxHeartbeats 4000000 in
theorem takeIf_any {w : World} {r p d : Nat} {ts : List (Int × ByteArray × Int)} (hR : RD w r ts p d) (hT : TsOk ts) {s : ByteArray} (hs : s ≠ ⟨#[]⟩) : Calls Tryz.prog 65 #[.pointer (some ⟨r, 0, none⟩), .string s] w fun e w' => e = .returned (.bool (sees ts p s)) ∧ But r w w' ∧ RD w' r ts (if sees ts p s then p + 1 else p) d := by
  have HS := hide (sees_any hR hT s)
  obtain ⟨b, hb⟩ : ∃ b, sees ts p s = b := ⟨_, rfl⟩
  have hlen : b = true → p + 1 < ts.length := fun h => nx_txt hT hR.lt (by rw [sees_txt (hb.trans h)]; exact hs)
  rw [hb] at HS ⊢
  have HA := hide (And.intro hR (And.intro hT hlen))
  clear hR hT hs hb hlen
  go_enter Tryz.func65, Tryz.ntmps65
  go_wp2_with fail
  refine (unhide HS).mono ?_
  rintro e w2 ⟨rfl, hb2⟩
  have HB := hide hb2
  clear hb2 HS
  cases b with
  | false =>
    go_wp2
    go_ret
    exact ⟨rfl, But.of (unhide HB), (unhide HA).1.keep (unhide HB)⟩
  | true =>
    have HT := hide (take_any ((unhide HA).1.keep (unhide HB)) (unhide HA).2.1 ((unhide HA).2.2 rfl))
    go_wp2_with fail
    refine (unhide HT).mono ?_
    rintro e w3 ⟨rfl, hb3, hR3⟩
    have HB3 := hide (And.intro hb3 hR3)
    clear hb3 hR3 HT
    go_wp2
    go_ret
    exact ⟨rfl, (But.of (unhide HB)).trans (unhide HB3).1, (unhide HB3).2⟩
set_option maxRecDepth 100000 in
set_option maxHeartbeats 4000000 in
theorem must_any {w : World} {r p d : Nat} {ts : List (Int × ByteArray × Int)} (hR : RD w r ts p d) (hT : TsOk ts) {s : ByteArray} (hs : s ≠ ⟨#[]⟩) : Calls Tryz.prog 67 #[.pointer (some ⟨r, 0, none⟩), .string s] w (RP UnOk (mustR ts s p) r ts p d w) := by
  have HS := hide (takeIf_any hR hT hs)
  obtain ⟨b, hb⟩ : ∃ b, sees ts p s = b := ⟨_, rfl⟩
  obtain ⟨X, hX⟩ : ∃ X, mustR ts s p = X := ⟨_, rfl⟩
  rw [hX]
  unfold mustR at hX
  rw [hb] at HS hX
  replace hX := hide hX
  have HT := hide hT
  clear hR hT hs hb
  go_enter Tryz.func67, Tryz.ntmps67
  go_wp2_with fail
  refine (unhide HS).mono ?_
  rintro e w2 ⟨rfl, hb2, hR2⟩
  have HB := hide (And.intro hb2 hR2)
  clear hb2 hR2 HS
  cases b with
  | true =>
    go_wp2
    obtain rfl := unhide hX
    refine bodyPost_ret (results_none rfl _ _ _) rfl ?_
    exact ⟨(unhide HB).1, Nat.le_succ _, (unhide HB).2, _, rfl, rfl⟩
  | false =>
    have HRf := hide (refused_any (unhide HB).2 (unhide HT) 150)
    go_wp2_with fail
    refine (unhide HRf).mono ?_
    rintro e w3 ⟨rfl, hb3⟩
    have HB3 := hide hb3
    clear hb3 HRf
    go_wp2
    obtain rfl := unhide hX
    refine ⟨rfl, (unhide HB).1.trans (But.of (unhide HB3)), rfl⟩
set_option maxRecDepth 100000 in
set_option maxHeartbeats 4000000 in
theorem mustBe_any {w : World} {r p d : Nat} {ts : List (Int × ByteArray × Int)} (hR : RD w r ts p d) (hT : TsOk ts) {k : Int} (hk : k ≠ 0) : Calls Tryz.prog 88 #[.pointer (some ⟨r, 0, none⟩), .int .i64 k] w (RP TkOk (mustBeR ts k p) r ts p d w) := by
  obtain ⟨A, eA, hbA, hsA, hhA⟩ := box_new w #[.int .i64 0, .string ⟨#[]⟩, .int .i64 0] 74
  have hRA := hR.keep hbA
  have HS := hide (next_any hRA hT)
  obtain ⟨X, hX⟩ : ∃ X, mustBeR ts k p = X := ⟨_, rfl⟩
  rw [hX]
  unfold mustBeR at hX
  have hlen : (nx ts p).1 = k → p + 1 < ts.length := fun h => nx_kind hT hR.lt (by rw [h]; exact hk)
  have HT := hide (And.intro hRA (And.intro hT hlen))
  unfold tkV at HS
  obtain ⟨⟨kk, T, i⟩, hN⟩ : ∃ Y, nx ts p = Y := ⟨_, rfl⟩
  rw [hN] at HS
  have HA := hide (And.intro hbA (And.intro hhA (And.intro hX hN)))
  have HE := hide eA
  have h0 := fld0 (.int .i64 kk) (.string T) (.int .i64 i)
  clear hR hT hk hX hN hlen hRA eA hbA hsA hhA
  by_cases hkk : kk = k
  · subst hkk
    go_enter Tryz.func88, Tryz.ntmps88
    go_wp2_with fail
    rw [unhide HE]
    refine (unhide HS).mono ?_
    rintro e w2 ⟨rfl, hb2⟩
    obtain ⟨hRA, hT, hlen⟩ := unhide HT
    obtain ⟨hbA, hhA, hX, hN⟩ := unhide HA
    have HTk := hide (take_any (hRA.keep hb2) hT (hlen (by rw [hN])))
    have HB2 := hide hb2
    unfold tkV at HTk
    rw [hN] at HTk
    clear hb2 HS hRA hT hlen hbA hhA hX hN
    go_wp2_with fail
    refine (unhide HTk).mono ?_
    rintro e w3 ⟨rfl, hb3, hR3⟩
    obtain ⟨hRA, hT, hlen⟩ := unhide HT
    obtain ⟨hbA, hhA, hX, hN⟩ := unhide HA
    have hrw : r < w.heap.size ∧ r < A.heap.size := by
      obtain ⟨⟨g, c, h1, -⟩, -⟩ := hRA
      refine ⟨?_, (blk h1).1⟩
      rcases Nat.lt_or_ge r w.heap.size with h | h
      · exact h
      · have := (blk h1).1
        have e : r = w.heap.size := by have := (blk hhA).1; have hs : A.heap.size = w.heap.size + 1 := by rw [← unhide HE]; simp
                                       omega
        rw [e, hhA] at h1
        cases h1
    have hh3 := (hb3.block w.heap.size (Nat.lt_of_lt_of_le (blk hhA).1 (unhide HB2).size) (by omega)).trans (((unhide HB2).block w.heap.size (blk hhA).1).trans hhA)
    have x0 : w3.cell? ⟨w.heap.size, 0, none⟩ = some (.int .i64 0) := (blk hh3).2.1 0 _ rfl
    have x1 : w3.cell? ⟨w.heap.size, 1, none⟩ = some (.string ⟨#[]⟩) := (blk hh3).2.1 1 _ rfl
    have x2 : w3.cell? ⟨w.heap.size, 2, none⟩ = some (.int .i64 0) := (blk hh3).2.1 2 _ rfl
    have z0 := (blk hh3).2.2 0
    have z1 := (blk hh3).2.2 1
    have z2 := (blk hh3).2.2 2
    have hbu : But r w w3 := (But.of hbA).trans ((But.of (unhide HB2)).trans hb3)
    have HB3 := hide (And.intro hbu (And.intro hR3 (And.intro hh3 (And.intro hrw.1 hX))))
    clear hbA hhA hX hRA hT hlen hb3 hR3 hh3 hbu hrw HTk
    go_wp2
    obtain ⟨hbu, hR3, hh3, hrw, hX⟩ := unhide HB3
    refine bodyPost_ret (res_row (cs := [.int .i64 kk, .string T, .int .i64 i]) rfl rfl (range_block (fill3 hh3)) rfl rfl rfl) rfl ?_
    rw [hN, if_pos rfl] at hX
    obtain rfl := hX
    have hb4 := but_new (but_new (but_new hbu (Nat.le_refl _) 0 (.int .i64 kk)) (Nat.le_refl _) 1 (.string T)) (Nat.le_refl _) 2 (.int .i64 i)
    refine ⟨hb4, Nat.le_succ _, ?_, _, rfl, rfl⟩
    have hb5 : But r w3 _ := ⟨rfl, rfl, rfl, by simp, fun k hk hr => rfl⟩
    obtain ⟨⟨g, c, h1, h2, h3, h4⟩, h5⟩ := hR3
    refine ⟨⟨g, c, ?_, h2, h3, fun j x hx => range_same (h4 j x hx) ?_⟩, h5⟩
    · rw [heap_set _ _ (by omega), heap_set _ _ (by omega), heap_set _ _ (by omega)]
      exact h1
    · rw [heap_set _ _ (by omega), heap_set _ _ (by omega), heap_set _ _ (by omega)]
  · have g0 : decide (kk = k) = false := by simpa using hkk
    go_enter Tryz.func88, Tryz.ntmps88
    go_wp2_with fail
    rw [unhide HE]
    refine (unhide HS).mono ?_
    rintro e w2 ⟨rfl, hb2⟩
    obtain ⟨hRA, hT, hlen⟩ := unhide HT
    have HRf := hide (refused_any (hRA.keep hb2) hT 150)
    have HB2 := hide hb2
    clear hb2 HS hRA hT hlen
    go_wp2_with fail
    refine (unhide HRf).mono ?_
    rintro e w3 ⟨rfl, hb3⟩
    have HB3 := hide hb3
    clear hb3 HRf
    go_wp2
    obtain ⟨hbA, hhA, hX, hN⟩ := unhide HA
    rw [hN, if_neg hkk] at hX
    obtain rfl := hX
    refine ⟨rfl, (But.of hbA).trans ((But.of (unhide HB2)).trans (But.of (unhide HB3))), ?_⟩
    rfl
end Go.Proofs.YtfkfnbehdcmgeaaGreatDoor

/- Package parse: small functions that make or ask. -/
namespace Go.Proofs.YtfkfnbehdcmgeaaGreatDoor
open Go Go.RowKit
theorem fill7 {w : World} {q : Nat} {a0 a1 a2 a3 a4 a5 a6 x0 x1 x2 x3 x4 x5 x6 : Value} {ty : TypeId} (h : w.heap[q]? = some (.cells #[a0, a1, a2, a3, a4, a5, a6] ty)) : (((((((w.setCell ⟨q, 0, none⟩ x0).setCell ⟨q, 1, none⟩ x1).setCell ⟨q, 2, none⟩ x2).setCell ⟨q, 3, none⟩ x3).setCell ⟨q, 4, none⟩ x4).setCell ⟨q, 5, none⟩ x5).setCell ⟨q, 6, none⟩ x6).heap[q]? = some (.cells #[x0, x1, x2, x3, x4, x5, x6] ty) := by
  have h0 : (w.setCell ⟨q, 0, none⟩ x0).heap[q]? = some (.cells #[x0, a1, a2, a3, a4, a5, a6] ty) := set_block h x0
  have h1 : ((w.setCell ⟨q, 0, none⟩ x0).setCell ⟨q, 1, none⟩ x1).heap[q]? = some (.cells #[x0, x1, a2, a3, a4, a5, a6] ty) := set_block h0 x1
  have h2 : (((w.setCell ⟨q, 0, none⟩ x0).setCell ⟨q, 1, none⟩ x1).setCell ⟨q, 2, none⟩ x2).heap[q]? = some (.cells #[x0, x1, x2, a3, a4, a5, a6] ty) := set_block h1 x2
  have h3 : ((((w.setCell ⟨q, 0, none⟩ x0).setCell ⟨q, 1, none⟩ x1).setCell ⟨q, 2, none⟩ x2).setCell ⟨q, 3, none⟩ x3).heap[q]? = some (.cells #[x0, x1, x2, x3, a4, a5, a6] ty) := set_block h2 x3
  have h4 : (((((w.setCell ⟨q, 0, none⟩ x0).setCell ⟨q, 1, none⟩ x1).setCell ⟨q, 2, none⟩ x2).setCell ⟨q, 3, none⟩ x3).setCell ⟨q, 4, none⟩ x4).heap[q]? = some (.cells #[x0, x1, x2, x3, x4, a5, a6] ty) := set_block h3 x4
  have h5 : ((((((w.setCell ⟨q, 0, none⟩ x0).setCell ⟨q, 1, none⟩ x1).setCell ⟨q, 2, none⟩ x2).setCell ⟨q, 3, none⟩ x3).setCell ⟨q, 4, none⟩ x4).setCell ⟨q, 5, none⟩ x5).heap[q]? = some (.cells #[x0, x1, x2, x3, x4, x5, a6] ty) := set_block h4 x5
  have h6 : (((((((w.setCell ⟨q, 0, none⟩ x0).setCell ⟨q, 1, none⟩ x1).setCell ⟨q, 2, none⟩ x2).setCell ⟨q, 3, none⟩ x3).setCell ⟨q, 4, none⟩ x4).setCell ⟨q, 5, none⟩ x5).setCell ⟨q, 6, none⟩ x6).heap[q]? = some (.cells #[x0, x1, x2, x3, x4, x5, x6] ty) := set_block h5 x6
  exact h6
def zE : Array Value := #[.int .i64 0, .string ⟨#[]⟩, .string ⟨#[]⟩, .bool false, .slice none 0 0, .int .i64 0, .int .i64 0]
/-- The facts on a block of an expression that a walk wants. -/
theorem blk7 {w : World} {q : Nat} {x0 x1 x2 x3 x4 x5 x6 : Value} {ty : TypeId} (h : w.heap[q]? = some (.cells #[x0, x1, x2, x3, x4, x5, x6] ty)) : w.cell? ⟨q, 0, none⟩ = some x0 ∧ w.cell? ⟨q, 1, none⟩ = some x1 ∧ w.cell? ⟨q, 2, none⟩ = some x2 ∧ w.cell? ⟨q, 3, none⟩ = some x3 ∧ w.cell? ⟨q, 4, none⟩ = some x4 ∧ w.cell? ⟨q, 5, none⟩ = some x5 ∧ w.cell? ⟨q, 6, none⟩ = some x6 := ⟨(blk h).2.1 0 _ rfl, (blk h).2.1 1 _ rfl, (blk h).2.1 2 _ rfl, (blk h).2.1 3 _ rfl, (blk h).2.1 4 _ rfl, (blk h).2.1 5 _ rfl, (blk h).2.1 6 _ rfl⟩
theorem frz7 {w : World} {q : Nat} {cs : Array Value} {ty : TypeId} (h : w.heap[q]? = some (.cells cs ty)) : w.frozen? ⟨q, 0, none⟩ = false ∧ w.frozen? ⟨q, 1, none⟩ = false ∧ w.frozen? ⟨q, 2, none⟩ = false ∧ w.frozen? ⟨q, 3, none⟩ = false ∧ w.frozen? ⟨q, 4, none⟩ = false ∧ w.frozen? ⟨q, 5, none⟩ = false ∧ w.frozen? ⟨q, 6, none⟩ = false := ⟨(blk h).2.2 0, (blk h).2.2 1, (blk h).2.2 2, (blk h).2.2 3, (blk h).2.2 4, (blk h).2.2 5, (blk h).2.2 6⟩
theorem below7 {w A : World} {B q : Nat} (h : Below B w A) (hq : B ≤ q) (x0 x1 x2 x3 x4 x5 x6 : Value) : Below B w (((((((A.setCell ⟨q, 0, none⟩ x0).setCell ⟨q, 1, none⟩ x1).setCell ⟨q, 2, none⟩ x2).setCell ⟨q, 3, none⟩ x3).setCell ⟨q, 4, none⟩ x4).setCell ⟨q, 5, none⟩ x5).setCell ⟨q, 6, none⟩ x6) := below_set (below_set (below_set (below_set (below_set (below_set (below_set h hq _ _) hq _ _) hq _ _) hq _ _) hq _ _) hq _ _) hq _ _
theorem but7 {w A : World} {r q : Nat} (h : But r w A) (hq : w.heap.size ≤ q) (x0 x1 x2 x3 x4 x5 x6 : Value) : But r w (((((((A.setCell ⟨q, 0, none⟩ x0).setCell ⟨q, 1, none⟩ x1).setCell ⟨q, 2, none⟩ x2).setCell ⟨q, 3, none⟩ x3).setCell ⟨q, 4, none⟩ x4).setCell ⟨q, 5, none⟩ x5).setCell ⟨q, 6, none⟩ x6) := but_new (but_new (but_new (but_new (but_new (but_new (but_new h hq _ _) hq _ _) hq _ _) hq _ _) hq _ _) hq _ _) hq _ _
theorem stays7 {w A : World} {lo q : Nat} (h : Stays lo w A) (hq : q < lo) (x0 x1 x2 x3 x4 x5 x6 : Value) : Stays lo w (((((((A.setCell ⟨q, 0, none⟩ x0).setCell ⟨q, 1, none⟩ x1).setCell ⟨q, 2, none⟩ x2).setCell ⟨q, 3, none⟩ x3).setCell ⟨q, 4, none⟩ x4).setCell ⟨q, 5, none⟩ x5).setCell ⟨q, 6, none⟩ x6) := ((((((h.set hq _ _).set hq _ _).set hq _ _).set hq _ _).set hq _ _).set hq _ _).set hq _ _
theorem same7 {A : World} {q k : Nat} (h : k ≠ q) (x0 x1 x2 x3 x4 x5 x6 : Value) : (((((((A.setCell ⟨q, 0, none⟩ x0).setCell ⟨q, 1, none⟩ x1).setCell ⟨q, 2, none⟩ x2).setCell ⟨q, 3, none⟩ x3).setCell ⟨q, 4, none⟩ x4).setCell ⟨q, 5, none⟩ x5).setCell ⟨q, 6, none⟩ x6).heap[k]? = A.heap[k]? := by
  rw [heap_set _ _ h, heap_set _ _ h, heap_set _ _ h, heap_set _ _ h, heap_set _ _ h, heap_set _ _ h, heap_set _ _ h]
set_option maxRecDepth 100000 in
set_option maxHeartbeats 4000000 in
theorem made_any (op k i : Int) (T : ByteArray) (a : Option Addr) (n c : Nat) (w : World) : Calls Tryz.prog 110 #[.int .i64 op, .agg #[.int .i64 k, .string T, .int .i64 i], .slice a n c] w (VP (.agg #[.int .i64 op, .string ⟨#[]⟩, .string ⟨#[]⟩, .bool false, .slice a n c, .int .i64 0, .int .i64 i]) w) := by
  unfold VP
  go_enter Tryz.func110, Tryz.ntmps110
  go_wp2
  obtain ⟨B, eB, hbB, hsB, hhB⟩ := box_new (w.alloc (.cells #[.int .i64 k, .string T, .int .i64 i] 74)) #[.int .i64 op, .string ⟨#[]⟩, .string ⟨#[]⟩, .bool false, .slice a n c, .int .i64 0, .int .i64 i] 36
  rw [eB]
  rw [World.size_alloc] at hhB
  refine bodyPost_ret (res_row (cs := [.int .i64 op, .string ⟨#[]⟩, .string ⟨#[]⟩, .bool false, .slice a n c, .int .i64 0, .int .i64 i]) rfl rfl (range_block hhB) rfl rfl rfl) rfl ?_
  exact ⟨rfl, ((Below.refl _ w).alloc (Nat.le_refl _) _).trans (hbB.mono (by simp))⟩
set_option maxRecDepth 100000 in
set_option maxHeartbeats 4000000 in
theorem named_any (op k i : Int) (T N : ByteArray) (a : Option Addr) (n c : Nat) (w : World) : Calls Tryz.prog 111 #[.int .i64 op, .agg #[.int .i64 k, .string T, .int .i64 i], .string N, .slice a n c] w (VP (.agg #[.int .i64 op, .string N, .string ⟨#[]⟩, .bool false, .slice a n c, .int .i64 0, .int .i64 i]) w) := by
  unfold VP
  go_enter Tryz.func111, Tryz.ntmps111
  go_wp2
  obtain ⟨B, eB, hbB, hsB, hhB⟩ := box_new (w.alloc (.cells #[.int .i64 k, .string T, .int .i64 i] 74)) #[.int .i64 op, .string N, .string ⟨#[]⟩, .bool false, .slice a n c, .int .i64 0, .int .i64 i] 36
  rw [eB]
  rw [World.size_alloc] at hhB
  refine bodyPost_ret (res_row (cs := [.int .i64 op, .string N, .string ⟨#[]⟩, .bool false, .slice a n c, .int .i64 0, .int .i64 i]) rfl rfl (range_block hhB) rfl rfl rfl) rfl ?_
  exact ⟨rfl, ((Below.refl _ w).alloc (Nat.le_refl _) _).trans (hbB.mono (by simp))⟩
end Go.Proofs.YtfkfnbehdcmgeaaGreatDoor

/- Package parse: what an operator's sign is; which tokens begin what. -/
namespace Go.Proofs.YtfkfnbehdcmgeaaGreatDoor
open Go Go.RowKit
theorem eqb (s l : ByteArray) (ll : List UInt8) (h : l.data.toList = ll) : (s = l) = ((s.toList == ll) = true) := by
  rw [← h, ← Lib.toList_data]
  exact propext ⟨fun h => by rw [h]; simp, fun h => toList_inj (by simpa using h)⟩
theorem strs_at {W : World} {l : List ByteArray} {cs : Array Value} {ty : TypeId} (h : cs = (l.map Value.string).toArray) (j : Nat) (s : ByteArray) (hs : l[j]? = some s) : (W.alloc (.cells cs ty)).cell? ⟨W.heap.size, j, none⟩ = some (.string s) :=
  (blk (MapKept.heap_alloc W (.cells cs ty)).1).2.1 j _ (by rw [h]; simp [hs])
set_option maxRecDepth 100000 in
set_option maxHeartbeats 16000000 in
theorem opOf_eq (s : ByteArray) (w : World) : Calls Tryz.prog 123 #[.string s] w (fun e w' => e = .returned (.int .i64 (opOf s)) ∧ w' = w) := by
  obtain ⟨o, ho⟩ : ∃ o, opOf s = o := ⟨_, rfl⟩
  rw [ho]
  unfold opOf at ho
  simp only [eqb s ⟨#[42]⟩ [42] rfl, eqb s ⟨#[43]⟩ [43] rfl, eqb s ⟨#[45]⟩ [45] rfl, eqb s ⟨#[61]⟩ [61] rfl, eqb s ⟨#[60, 62]⟩ [60, 62] rfl, eqb s ⟨#[60]⟩ [60] rfl, eqb s ⟨#[60, 61]⟩ [60, 61] rfl, eqb s ⟨#[62]⟩ [62] rfl, eqb s ⟨#[62, 61]⟩ [62, 61] rfl, eqb s ⟨#[38, 38]⟩ [38, 38] rfl] at ho
  replace ho := hide ho
  go_enter Tryz.func123, Tryz.ntmps123
  go_wp2_with fail
  all_goals
    go_ret
    refine ⟨?_, rfl⟩
    have ho2 := unhide ho
    simp only [*, if_true, if_false, Bool.false_eq_true] at ho2
    rw [← ho2]
    rfl
set_option maxRecDepth 100000 in
set_option maxHeartbeats 16000000 in
theorem begU_any {w : World} {r p d : Nat} {ts : List (Int × ByteArray × Int)} (hR : RD w r ts p d) (hT : TsOk ts) : Calls Tryz.prog 94 #[.pointer (some ⟨r, 0, none⟩)] w (VP (.bool (begU ts p)) w) := by
  have HS := hide (next_any hR hT)
  have HA := hide (And.intro hR hT)
  obtain ⟨b, hb⟩ : ∃ b, begU ts p = b := ⟨_, rfl⟩
  rw [hb]
  unfold VP
  unfold tkV at HS
  unfold begU at hb
  obtain ⟨⟨kk, T, i⟩, hN⟩ : ∃ Y, nx ts p = Y := ⟨_, rfl⟩
  rw [hN] at HS hb
  replace hb := hide hb
  have h0 := fld0 (.int .i64 kk) (.string T) (.int .i64 i)
  clear hR hT hN
  by_cases k1 : kk = 1
  · subst k1
    go_enter Tryz.func94, Tryz.ntmps94
    go_wp2_with fail
    refine (unhide HS).mono ?_
    rintro e w2 ⟨rfl, hb2⟩
    have HB := hide hb2
    clear hb2 HS
    go_wp2
    go_ret
    refine ⟨?_, unhide HB⟩
    rw [← unhide hb]
    rfl
  · by_cases k3 : kk = 3
    · subst k3
      go_enter Tryz.func94, Tryz.ntmps94
      go_wp2_with fail
      refine (unhide HS).mono ?_
      rintro e w2 ⟨rfl, hb2⟩
      have HB := hide hb2
      clear hb2 HS
      go_wp2
      go_ret
      refine ⟨?_, unhide HB⟩
      rw [← unhide hb]
      rfl
    · have d1 : decide (kk = 1) = false := by simpa using k1
      have d3 : decide (kk = 3) = false := by simpa using k3
      go_enter Tryz.func94, Tryz.ntmps94
      go_wp2_with fail
      refine (unhide HS).mono ?_
      rintro e w2 ⟨rfl, hb2⟩
      have HB := hide hb2
      clear hb2 HS
      obtain ⟨hRD, hT⟩ := unhide HA
      obtain ⟨B, eB, hbB, hsB, hhB⟩ := box_new w2 #[.string ⟨#[45]⟩, .string ⟨#[110, 111, 116]⟩, .string ⟨#[33]⟩, .string ⟨#[111, 108, 100]⟩, .string ⟨#[116, 114, 117, 101]⟩, .string ⟨#[102, 97, 108, 115, 101]⟩, .string ⟨#[40]⟩] 9
      have hb0 := (unhide HB).trans (hbB.mono (unhide HB).size)
      have HO := hide (one_any (c := 7) (l := [⟨#[45]⟩, ⟨#[110, 111, 116]⟩, ⟨#[33]⟩, ⟨#[111, 108, 100]⟩, ⟨#[116, 114, 117, 101]⟩, ⟨#[102, 97, 108, 115, 101]⟩, ⟨#[40]⟩]) (hRD.keep hb0) hT (blk hhB).1 (by decide) (fun j s hs => by rw [← eB]; exact strs_at rfl j s hs))
      have hb1 := unhide hb
      rw [d1, d3, Bool.false_or, Bool.false_or] at hb1
      rw [hb1] at HO
      have HB0 := hide hb0
      have HEB := hide eB
      have e1 : (kk == 1) = false := by simpa using k1
      have e3 : (kk == 3) = false := by simpa using k3
      clear hRD hT eB hbB hsB hhB hb0 hb1
      go_wp2_with fail
      rw [unhide HEB]
      refine (unhide HO).mono ?_
      rintro e w3 ⟨rfl, hb3⟩
      have HB3 := hide ((unhide HB0).trans (hb3.mono (unhide HB0).size))
      clear hb3 HO
      go_wp2
      go_ret
      refine ⟨?_, unhide HB3⟩
      simp [e1, e3]
set_option maxRecDepth 100000 in
set_option maxHeartbeats 16000000 in
theorem begE_any {w : World} {r p d : Nat} {ts : List (Int × ByteArray × Int)} (hR : RD w r ts p d) (hT : TsOk ts) : Calls Tryz.prog 74 #[.pointer (some ⟨r, 0, none⟩)] w (VP (.bool (begE ts p)) w) := by
  have HS := hide (begU_any hR hT)
  have HA := hide (And.intro hR hT)
  obtain ⟨b, hb⟩ : ∃ b, begE ts p = b := ⟨_, rfl⟩
  rw [hb]
  unfold VP
  unfold begE at hb
  obtain ⟨u, hu⟩ : ∃ u, begU ts p = u := ⟨_, rfl⟩
  rw [hu] at HS hb
  replace hb := hide hb
  clear hR hT hu
  cases u with
  | true =>
    go_enter Tryz.func74, Tryz.ntmps74
    go_wp2_with fail
    refine (unhide HS).mono ?_
    rintro e w2 ⟨rfl, hb2⟩
    have HB := hide hb2
    clear hb2 HS
    go_wp2
    go_ret
    refine ⟨?_, unhide HB⟩
    rw [← unhide hb]
    rfl
  | false =>
    go_enter Tryz.func74, Tryz.ntmps74
    go_wp2_with fail
    refine (unhide HS).mono ?_
    rintro e w2 ⟨rfl, hb2⟩
    have HB := hide hb2
    clear hb2 HS
    obtain ⟨hRD, hT⟩ := unhide HA
    obtain ⟨B, eB, hbB, hsB, hhB⟩ := box_new w2 #[.string ⟨#[105, 102]⟩, .string ⟨#[108, 101, 116]⟩, .string ⟨#[116, 114, 121]⟩, .string ⟨#[114, 97, 105, 115, 101]⟩, .string ⟨#[97, 115, 115, 101, 114, 116]⟩] 9
    have hb0 := (unhide HB).trans (hbB.mono (unhide HB).size)
    have HO := hide (one_any (c := 5) (l := [⟨#[105, 102]⟩, ⟨#[108, 101, 116]⟩, ⟨#[116, 114, 121]⟩, ⟨#[114, 97, 105, 115, 101]⟩, ⟨#[97, 115, 115, 101, 114, 116]⟩]) (hRD.keep hb0) hT (blk hhB).1 (by decide) (fun j s hs => by rw [← eB]; exact strs_at rfl j s hs))
    have hb1 := unhide hb
    rw [Bool.false_or] at hb1
    rw [hb1] at HO
    have HB0 := hide hb0
    have HEB := hide eB
    clear hRD hT eB hbB hsB hhB hb0 hb1
    go_wp2_with fail
    rw [unhide HEB]
    refine (unhide HO).mono ?_
    rintro e w3 ⟨rfl, hb3⟩
    have HB3 := hide ((unhide HB0).trans (hb3.mono (unhide HB0).size))
    clear hb3 HO
    go_wp2
    go_ret
    exact ⟨rfl, unhide HB3⟩
end Go.Proofs.YtfkfnbehdcmgeaaGreatDoor

/- The laws of regions (walked by a spec an operation), and the steps of straight code: what hangs on no program. -/
namespace Go.Proofs.YtfkfnbehdcmgeaaGreatDoor
open Go Go.RowKit

section
variable {P : Program} {ops : Array Oper} {Q : Exit → Act → World → Prop} {md : Region.Mode}

theorem filter_lt (p q : Nat → Bool) (hqp : ∀ j, q j = true → p j = true) (i : Nat) (hp : p i = true) (hq : q i = false) :
    ∀ l : List Nat, i ∈ l → (l.filter q).length < (l.filter p).length := by
  have hle : ∀ l : List Nat, (l.filter q).length ≤ (l.filter p).length := by
    intro l
    induction l with
    | nil => simp
    | cons x l ih =>
      simp only [List.filter_cons]
      cases hx : q x with
      | true => simp [hqp x hx, ih]
      | false =>
        cases p x with
        | true => simp; omega
        | false => simpa using ih
  intro l
  induction l with
  | nil => intro h; cases h
  | cons x l ih =>
    intro h
    rcases List.mem_cons.1 h with rfl | h
    · simp only [List.filter_cons, hp, hq]
      have := hle l
      simp
      omega
    · have := ih h
      simp only [List.filter_cons]
      cases hx : q x with
      | true => simp [hqp x hx, this]
      | false =>
        cases p x with
        | true => simp; omega
        | false => simpa using this

/-- How many have not come up. -/
def toCome (ops : Array Oper) (listed : Array Bool) : Nat := ((List.range ops.size).filter fun i => !listed.getD i true).length

theorem toCome_lt {listed : Array Bool} {i : Nat} (h : i ∈ Region.ready md ops listed) : toCome ops (listed.setIfInBounds i true) < toCome ops listed := by
  obtain ⟨h0, o, ho, _⟩ := mem_ready.1 h
  have hi : i < ops.size := (Array.getElem?_eq_some_iff.1 ho).1
  refine filter_lt _ _ ?_ i ?_ ?_ _ (List.mem_range.2 hi)
  · intro j hj
    by_cases e : i = j
    · subst e; simp [h0]
    · rw [getD_set_ne true e] at hj; exact hj
  · simp [h0]
  · by_cases hs : i < listed.size
    · simp [hs]
    · simp [Array.getElem?_eq_none (Nat.le_of_not_lt hs)] at h0

theorem ready_nil_of_toCome {listed : Array Bool} (h : toCome ops listed = 0) : Region.ready md ops listed = [] := by
  apply List.eq_nil_iff_forall_not_mem.2
  intro i hi
  have := toCome_lt hi
  omega

/-- An invariant that each operation hands on, in whatever order. -/
theorem wpAny_inv (I : Array Bool → Act → World → Prop)
    (hstep : ∀ listed a w i, I listed a w → i ∈ Region.ready md ops listed → wpOp P ops Q i (fun a' w' => I (listed.setIfInBounds i true) a' w') a w)
    (hend : ∀ listed a w, I listed a w → Region.ready md ops listed = [] → Q .normal a w) :
    ∀ fuel listed a w, toCome ops listed ≤ fuel → I listed a w → wpAny P md ops Q fuel listed a w := by
  intro fuel
  induction fuel with
  | zero => intro listed a w h hI; exact ⟨ready_nil_of_toCome (by omega), hend _ _ _ hI (ready_nil_of_toCome (by omega))⟩
  | succ fuel ih =>
    intro listed a w h hI
    refine ⟨fun hr => hend _ _ _ hI hr, fun i hi => wpOp_mono (fun a' w' h' => ih _ a' w' ?_ h') (hstep _ _ _ _ hI hi)⟩
    have := toCome_lt hi
    omega

/-- The slot that operation i writes. -/
def slotOf (ops : Array Oper) (a : Act) (i : Nat) : Value := a.tmps.getD (((ops[i]?).bind (·.dst)).getD 0) undef

theorem slot_put_same {a : Act} {i : Nat} {o : Oper} {d : Nat} {v : Value} (ho : ops[i]? = some o) (hd : o.dst = some d) (hlt : d < a.tmps.size) :
    slotOf ops (a.put o.dst v) i = v := by
  simp [slotOf, ho, hd, Act.put, hlt]

theorem slot_put_other {a : Act} {i : Nat} {o' : Oper} {d d' : Nat} {v : Value} (ho' : ops[i]? = some o') (hd' : o'.dst = some d') (hne : d ≠ d') :
    slotOf ops (a.put (some d) v) i = slotOf ops a i := by
  simp [slotOf, ho', hd', Act.put, Array.getElem?_setIfInBounds_ne hne]

/-- Those that an operation waits for, whatever the order. -/
def preds (o : Oper) : List Nat := (o.after.toList.filter (Region.binds .any)).map (·.on)
theorem preds_spec {o : Oper} {j : Nat} (h : (preds o).contains j = true) : ∃ e, (e ∈ o.after ∧ Region.binds .any e = true) ∧ e.on = j := by
  have h1 : j ∈ preds o := by simpa using h
  obtain ⟨e, he, rfl⟩ := List.mem_map.1 h1
  obtain ⟨h2, h3⟩ := List.mem_filter.1 he
  exact ⟨e, ⟨by simpa using h2, h3⟩, rfl⟩

section
variable {o : Oper} {a : Act} {w : World} {K : Act → World → Prop} {dst : Option Tmp} {ty : TypeId} {pos : String} {af : Array Edge} {gd : Option (Nat × Bool)}

theorem op_move {x : Operand} (h : K (a.put dst (a.eval x)) w) : Oper.wp P ⟨dst, .move x, ty, pos, af, gd⟩ a w K Q := h
theorem op_assign {x : Operand} (h : K (a.put dst (a.eval x)) w) : Oper.wp P ⟨dst, .assign x, ty, pos, af, gd⟩ a w K Q := h
theorem op_load {t : TypeId} {x : Operand} {p v : Value} (hx : a.eval x = p) (hr : (Instr.loadAt t p).run P w = .ok v w) (h : K (a.put dst v) w) : Oper.wp P ⟨dst, .load t x, ty, pos, af, gd⟩ a w K Q := by
  unfold Oper.wp
  simp [execOp, hx, hr, Oper.upon, h]
end

end
end Go.Proofs.YtfkfnbehdcmgeaaGreatDoor

namespace Go.Proofs.YtfkfnbehdcmgeaaGreatDoor
open Go Go.RowKit

section
variable {Q : Exit → Act → World → Prop} {a a0 : Act} {w w0 : World} {dst : Option Tmp} {ty : TypeId} {pos : String} {af : Array Edge} {gd : Option (Nat × Bool)}

/-- A call of this function enters it. -/
structure Enters (P : Program) (f : FuncId) : Prop where
  run : ∀ (xs : Array Value) (w : World), (callFunc f xs).run P w = .ok (.enter f xs) w
theorem op_call {P : Program} {K : Act → World → Prop} {f : FuncId} {args : Array Operand} {tys : Array TypeId}
    (hf : Enters P f)
    (hc : Calls P f (args.map a.eval) w fun e w' => ∃ v, e = .returned v ∧ K (a.put dst v) w') :
    Oper.wp P ⟨dst, .call ⟨.value (.func f), args, tys⟩, ty, pos, af, gd⟩ a w K Q := by
  unfold Oper.wp
  simp [go_sem]
  rw [hf.run]
  refine Calls.mono hc ?_
  rintro e w' ⟨v, rfl, h⟩
  exact h
variable {tys : Array TypeId} {s t : Nat} {y z : Int} {j k : Nat}
/-- An operation that is wanted. -/
theorem st_want {P : Program} {ops : Array Oper} {o : Oper} {X : Act → World → Prop} {Y : Prop} (hw : Region.wanted o (yielded ops a.tmps) = true) (h : o.wp P a w X Q) : if Region.wanted o (yielded ops a.tmps) then o.wp P a w X Q else Y := by
  rw [if_pos hw]; exact h
end

end Go.Proofs.YtfkfnbehdcmgeaaGreatDoor

namespace Go.Proofs.YtfkfnbehdcmgeaaGreatDoor
open Go Go.RowKit

section
variable {P : Program} {Q : Exit → Act → World → Prop}

end
end Go.Proofs.YtfkfnbehdcmgeaaGreatDoor

namespace Go.Proofs.YtfkfnbehdcmgeaaGreatDoor
open Go Go.RowKit

end Go.Proofs.YtfkfnbehdcmgeaaGreatDoor

namespace Go.Proofs.YtfkfnbehdcmgeaaGreatDoor
open Go Go.RowKit

theorem op_fieldAddr {P : Program} {Q : Exit → Act → World → Prop} {K : Act → World → Prop} {a : Act} {w : World} {dst : Option Tmp} {ty : TypeId} {pos : String} {af : Array Edge} {gd : Option (Nat × Bool)} {x : Operand} {vx v : Value} {t : TypeId} {f : Nat}
    (hx : a.eval x = vx) (hr : (Instr.fieldAt t vx f).run P w = .ok v w) (h : K (a.put dst v) w) : Oper.wp P ⟨dst, .fieldAddr t x f, ty, pos, af, gd⟩ a w K Q := by
  unfold Oper.wp
  simp [execOp, hx, hr, Oper.upon, h]

end Go.Proofs.YtfkfnbehdcmgeaaGreatDoor

namespace Go.Proofs.YtfkfnbehdcmgeaaGreatDoor.T4

end Go.Proofs.YtfkfnbehdcmgeaaGreatDoor.T4

namespace Go.Proofs.YtfkfnbehdcmgeaaGreatDoor.T4
open Go.RowKit
end Go.Proofs.YtfkfnbehdcmgeaaGreatDoor.T4

namespace Go.Proofs.YtfkfnbehdcmgeaaGreatDoor
open Go Go.RowKit

section
variable {P : Program} {Q : Exit → Act → World → Prop}
/-- Each operation waits only for such as stand ahead of it, and writes, if any, a slot of its own, below N. -/
def fitF (N : Nat) : Nat → List Nat → List Oper → Bool
  | _, _, [] => true
  | i, ds, o :: l => (o.after.toList.all fun e => !Region.binds .any e || decide (e.on < i)) && (match o.dst with | some d => !ds.contains d && decide (d < N) && fitF N (i + 1) (d :: ds) l | none => fitF N (i + 1) ds l)

theorem fitF_spec {N : Nat} : ∀ (l : List Oper) (i : Nat) (ds : List Nat), fitF N i ds l = true →
    ∀ j o, l[j]? = some o → (∀ e ∈ o.after, Region.binds .any e = true → e.on < i + j) ∧ ∀ d : Nat, o.dst = some d → d ∉ ds ∧ d < N ∧ ∀ k o', k < j → l[k]? = some o' → o'.dst ≠ some d
  | [], _, _, _, j, o, h => by simp at h
  | x :: l, i, ds, hg, j, o, h => by
    simp only [fitF, Bool.and_eq_true] at hg
    obtain ⟨hon, hd⟩ := hg
    cases hx : x.dst with
    | none =>
      simp only [hx] at hd
      cases j with
      | zero =>
        simp at h
        subst h
        refine ⟨fun e he hb => ?_, fun d hd' => by rw [hx] at hd'; cases hd'⟩
        have := List.all_eq_true.1 hon e (by simpa using he)
        simpa [hb] using this
      | succ j =>
        have h' : l[j]? = some o := by simpa using h
        obtain ⟨h1, h2⟩ := fitF_spec l (i + 1) ds hd j o h'
        refine ⟨fun e he hb => by have := h1 e he hb; omega, fun d hd' => ?_⟩
        obtain ⟨h3, h4, h5⟩ := h2 d hd'
        refine ⟨h3, h4, fun k o' hk ho' => ?_⟩
        cases k with
        | zero => simp at ho'; subst ho'; rw [hx]; simp
        | succ k => exact h5 k o' (by omega) (by simpa using ho')
    | some d0 =>
      simp only [hx, Bool.and_eq_true, decide_eq_true_eq] at hd
      obtain ⟨⟨hB, hN⟩, hr⟩ := hd
      have hB' : d0 ∉ ds := by simpa using hB
      cases j with
      | zero =>
        simp at h
        subst h
        refine ⟨fun e he hb => ?_, fun d hd' => ?_⟩
        · have := List.all_eq_true.1 hon e (by simpa using he)
          simpa [hb] using this
        · rw [hx] at hd'
          have e0 : d0 = d := Option.some.inj hd'
          subst e0
          exact ⟨hB', hN, fun k _ hk => absurd hk (by omega)⟩
      | succ j =>
        have h' : l[j]? = some o := by simpa using h
        obtain ⟨h1, h2⟩ := fitF_spec l (i + 1) (d0 :: ds) hr j o h'
        refine ⟨fun e he hb => by have := h1 e he hb; omega, fun d hd' => ?_⟩
        obtain ⟨h3, h4, h5⟩ := h2 d hd'
        refine ⟨fun hm => h3 (List.mem_cons_of_mem _ hm), h4, fun k o' hk ho' => ?_⟩
        cases k with
        | zero =>
          simp at ho'; subst ho'; rw [hx]
          intro e
          have e0 : d0 = d := Option.some.inj e
          exact h3 (e0 ▸ List.mem_cons_self)
        | succ k => exact h5 k o' (by omega) (by simpa using ho')

/-- Whatever order is picked: specs of the slots, and an invariant of what has come up, the frame and the world. -/
theorem stepsF {l : List Oper} {a0 : Act} {w0 : World} (N : Nat) (kept : List Nat) (Φ : Nat → Value → Prop) (J : Array Bool → Act → World → Prop)
    (hg : fitF N 0 kept l = true) (hN : a0.tmps.size = N) (h0 : J (Array.replicate l.length false) a0 w0)
    (hstep : ∀ i o, l[i]? = some o → ∀ (listed : Array Bool) (a : Act) (w : World), listed.size = l.length → listed.getD i true = false →
      (∀ j o', l[j]? = some o' → listed.getD j false = true → ∀ k, (preds o').contains k = true → listed.getD k false = true) →
      a.defers = a0.defers → a.tmps.size = N → (∀ k, k ∈ kept → a.tmps[k]? = a0.tmps[k]?) →
      (∀ j, (preds o).contains j = true → listed.getD j false = true ∧ Φ j (slotOf l.toArray a j)) → J listed a w →
      if Region.wanted o (yielded l.toArray a.tmps) then o.wp P a w (fun a' w' => ∃ v, a' = a.put o.dst v ∧ (o.dst.isSome = true → Φ i v) ∧ J (listed.setIfInBounds i true) a' w') Q
      else (o.dst.isSome = true → Φ i undef) ∧ J (listed.setIfInBounds i true) (a.put o.dst undef) w)
    (hsome : ∀ i o, l[i]? = some o → o.dst = none → ∀ v, Φ i v)
    (hend : ∀ (listed : Array Bool) (a : Act) (w : World), listed.size = l.length → (∀ i, i < l.length → listed.getD i false = true) → a.defers = a0.defers → a.tmps.size = N → (∀ k, k ∈ kept → a.tmps[k]? = a0.tmps[k]?) → (∀ i, i < l.length → Φ i (slotOf l.toArray a i)) → J listed a w → Q .normal a w) :
    wpAny P .any l.toArray Q l.toArray.size (Array.replicate l.toArray.size false) a0 w0 := by
  let I : Array Bool → Act → World → Prop := fun listed a w => listed.size = l.length ∧ (∀ j o', l[j]? = some o' → listed.getD j false = true → ∀ k, (preds o').contains k = true → listed.getD k false = true) ∧
    a.defers = a0.defers ∧ a.tmps.size = N ∧ (∀ k, k ∈ kept → a.tmps[k]? = a0.tmps[k]?) ∧ (∀ i, listed.getD i false = true → Φ i (slotOf l.toArray a i)) ∧ J listed a w
  have hspec := fitF_spec l 0 kept hg
  refine wpAny_inv (md := .any) I ?_ ?_ _ _ _ _ ?_ ?_
  · rintro listed a w i ⟨hsz, hdown, hdf, hn, hbase, hΦ, hJ⟩ hr
    obtain ⟨hun, o, ho, hpre⟩ := mem_ready.1 hr
    have hol : l[i]? = some o := by simpa using ho
    have hilt : i < l.length := (List.getElem?_eq_some_iff.1 hol).1
    have hpre' : ∀ j, (preds o).contains j = true → listed.getD j false = true := fun j hj => by
      obtain ⟨e, he, rfl⟩ := preds_spec hj
      exact hpre e he.1 he.2
    have hs := hstep i o hol listed a w hsz hun hdown hdf hn hbase (fun j hj => ⟨hpre' j hj, hΦ j (hpre' j hj)⟩) hJ
    have hdown' : ∀ j o', l[j]? = some o' → (listed.setIfInBounds i true).getD j false = true → ∀ k, (preds o').contains k = true → (listed.setIfInBounds i true).getD k false = true := by
      intro j o' ho' hj k hk
      by_cases e : i = j
      · subst e
        rw [hol] at ho'
        cases ho'
        exact getD_set_true (hpre' k hk)
      · rw [getD_set_ne false e] at hj
        exact getD_set_true (hdown j o' ho' hj k hk)
    have keep : ∀ w' v, (o.dst.isSome = true → Φ i v) → J (listed.setIfInBounds i true) (a.put o.dst v) w' → I (listed.setIfInBounds i true) (a.put o.dst v) w' := by
      intro w' v hv hJ'
      refine ⟨by simpa using hsz, hdown', ?_, ?_, ?_, ?_, hJ'⟩
      · cases hd : o.dst <;> simpa [Act.put] using hdf
      · cases hd : o.dst <;> simpa [Act.put] using hn
      · intro k hk
        cases hd : o.dst with
        | none => exact hbase k hk
        | some d =>
          simp only [Act.put]
          rw [Array.getElem?_setIfInBounds_ne (fun (e : d = k) => ((hspec i o hol).2 d hd).1 (e.symm ▸ hk))]
          exact hbase k hk
      · intro j hj
        by_cases e : i = j
        · subst e
          cases hd : o.dst with
          | none => exact hsome i o hol hd _
          | some d =>
            rw [← hd, slot_put_same ho hd (by have := ((hspec i o hol).2 d hd).2.1; omega)]
            exact hv (by simp [hd])
        · rw [getD_set_ne false e] at hj
          have hj' := hΦ j hj
          have hjlt : j < l.length := by
            rcases Nat.lt_or_ge j listed.size with h | h
            · omega
            · simp [Array.getElem?_eq_none h] at hj
          have hoj : l[j]? = some l[j] := List.getElem?_eq_getElem hjlt
          have hoj' : l.toArray[j]? = some l[j] := by simp [hjlt]
          cases hd : o.dst with
          | none => exact hj'
          | some d =>
            cases hd' : (l[j]).dst with
            | none => exact hsome j _ hoj hd' _
            | some d' =>
              have hne : d ≠ d' := by
                intro ee
                subst ee
                rcases Nat.lt_or_gt_of_ne e with h | h
                · exact ((hspec j _ hoj).2 d hd').2.2 i o h hol hd
                · exact ((hspec i _ hol).2 d hd).2.2 j _ h hoj hd'
              rw [slot_put_other hoj' hd' hne]
              exact hj'
    unfold wpOp
    simp only [ho]
    split
    · rename_i hw
      simp only [hw, if_true] at hs
      refine .inl (Oper.wp_mono ?_ hs)
      rintro a' w' ⟨v, rfl, hv, hJ'⟩
      exact keep w' v hv hJ'
    · rename_i hw
      simp only [hw] at hs
      exact keep w undef hs.1 hs.2
  · rintro listed a w ⟨hsz, hdown, hdf, hn, hbase, hΦ, hJ⟩ hr
    have hall : ∀ i, i < l.length → listed.getD i false = true := by
      intro i
      induction i using Nat.strongRecOn with
      | ind i ih =>
        intro hi
        cases hl : listed.getD i true with
        | true =>
          have : i < listed.size := by omega
          simpa [this] using hl
        | false =>
          exfalso
          have hoi : l[i]? = some l[i] := List.getElem?_eq_getElem hi
          have : i ∈ Region.ready .any l.toArray listed := by
            refine mem_ready.2 ⟨hl, l[i], by simp [hi], fun e he hb => ?_⟩
            have := (hspec i _ hoi).1 e he hb
            exact ih e.on (by omega) (by omega)
          rw [hr] at this
          cases this
    exact hend listed a w hsz hall hdf hn hbase (fun i hi => hΦ i (hall i hi)) hJ
  · unfold toCome
    exact Nat.le_trans (List.length_filter_le _ _) (by simp)
  · have hf : ∀ i, (Array.replicate l.toArray.size false).getD i false = true → False := by
      intro i hi
      rcases Nat.lt_or_ge i l.length with h | h
      · simp [h] at hi
      · simp [h] at hi
    exact ⟨by simp, fun j _ _ hj => (hf j hj).elim, rfl, hN, fun _ _ => rfl, fun i hi => (hf i hi).elim, by simpa using h0⟩
end

end Go.Proofs.YtfkfnbehdcmgeaaGreatDoor

namespace Go.Proofs.YtfkfnbehdcmgeaaGreatDoor
open Go Go.RowKit

/-- w' is w but for one block. -/
structure PutAt (r : Nat) (w w' : World) : Prop where
  os : w'.os = w.os
  tape : w'.tape = w.tape
  output : w'.output = w.output
  size : w'.heap.size = w.heap.size
  block : ∀ k, k ≠ r → w'.heap[k]? = w.heap[k]?
theorem PutAt.below {r B : Nat} {w0 w w' : World} (h : PutAt r w w') (hb : Below B w0 w) (hr : B ≤ r) : Below B w0 w' :=
  ⟨h.os.trans hb.os, h.tape.trans hb.tape, h.output.trans hb.output, by rw [h.size]; exact hb.size, fun k hk => (h.block k (by omega)).trans (hb.block k hk)⟩

/-- The kinds of boxes, by types. -/
structure Kinds where
  K : TypeId → World → Nat → Prop
  loc : ∀ t w w' r, w'.heap[r]? = w.heap[r]? → K t w r → K t w' r
  lt : ∀ t w r, K t w r → r < w.heap.size
  inj : ∀ t t' w r, K t w r → K t' w r → t = t'
  Z : World → Nat → Prop
/-- What is said of a slot: it stands when memory grows, and when a box is filled. -/
structure Sx (κ : Kinds) where
  ok : World → Value → Prop
  mono : ∀ w w' v, ok w v → Below w.heap.size w w' → ok w' v
  put : ∀ t w w' v r, ok w v → κ.K t w r → κ.Z w r → PutAt r w w' → κ.K t w' r → ok w' v
def Sx.any (κ : Kinds) : Sx κ := ⟨fun _ _ => True, fun _ _ _ h _ => h, fun _ _ _ _ _ h _ _ _ _ => h⟩
/-- A store: its number, the slot of its pointer, what the box then holds. -/
structure St (κ : Kinds) where
  op : Nat
  pt : Nat
  H : World → Nat → Value → Prop
  S : Sx κ
  loc : ∀ w w' r v, w'.heap[r]? = w.heap[r]? → H w r v → H w' r v
  lt : ∀ w r v, H w r v → r < w.heap.size
  ob : Nat := 0
  O : World → Prop := fun _ => True
  om : ∀ w w', O w → Below w.heap.size w w' → O w' := by exact fun _ _ h _ => h
  oput : ∀ t w w' r, O w → κ.K t w r → κ.Z w r → PutAt r w w' → κ.K t w' r → r ≠ ob → O w' := by exact fun _ _ _ _ h _ _ _ _ _ => h
  F : World → Nat → Prop := fun _ _ => True
  floc : ∀ w w' r, w'.heap[r]? = w.heap[r]? → F w r → F w' r := by exact fun _ _ _ _ _ => trivial

end Go.Proofs.YtfkfnbehdcmgeaaGreatDoor

namespace Go.Proofs.YtfkfnbehdcmgeaaGreatDoor
open Go Go.RowKit

end Go.Proofs.YtfkfnbehdcmgeaaGreatDoor

namespace Go.Proofs.YtfkfnbehdcmgeaaGreatDoor
open Go Go.RowKit

theorem getD_of {a : Act} {k : Nat} {v : Value} (h : a.tmps[k]? = some v) : a.tmps.getD k undef = v := by simp [Array.getD_eq_getD_getElem?, h]
section
variable {Q : Exit → Act → World → Prop} {a : Act} {w : World} {ty : TypeId} {pos : String} {af : Array Edge} {gd : Option (Nat × Bool)} {dst : Option Tmp} {K : Act → World → Prop}
end

theorem res_t {W : World} {fn : Func} {a : Act} {s : Nat} {u : Value} (hf : fn.results = #[.tmp s]) (hs : a.tmps[s]? = some u) : (results fn a.tmps).run Tryz.prog W = .ok u W := by
  simp [results, hf, hs, go_sem]

end Go.Proofs.YtfkfnbehdcmgeaaGreatDoor

namespace Go.Proofs.YtfkfnbehdcmgeaaGreatDoor
open Go Go.RowKit

section
variable {κ : Kinds} {Q : Exit → Act → World → Prop} {a : Act} {w : World} {ty : TypeId} {pos : String} {af : Array Edge} {gd : Option (Nat × Bool)} {dst : Option Tmp} {Y : Prop} {ops : Array Oper} {S : Sx κ} {G : World → Value → Prop}
end
end Go.Proofs.YtfkfnbehdcmgeaaGreatDoor

namespace Go.Proofs.YtfkfnbehdcmgeaaGreatDoor
open Go Go.RowKit
theorem IsEP.form {w : World} {P : Nat → Prop} {v : Value} {t : Ex} (h : IsEP w P v t) : ∃ (i0 i6 : Int) (s1 s2 : ByteArray) (b3 : Bool) (a4 : Option Addr) (n4 c4 : Nat), v = .agg #[.int .i64 i0, .string s1, .string s2, .bool b3, .slice a4 n4 c4, .int .i64 0, .int .i64 i6] := by
  obtain ⟨op, nm, nu, bl, l, i⟩ := t
  obtain ⟨k, a, c, e, -⟩ := h
  exact ⟨_, _, _, _, _, _, _, _, e⟩
theorem IsE.form {w : World} {lo : Nat} {v : Value} {t : Ex} (h : IsE w lo v t) : ∃ (i0 i6 : Int) (s1 s2 : ByteArray) (b3 : Bool) (a4 : Option Addr) (n4 c4 : Nat), v = .agg #[.int .i64 i0, .string s1, .string s2, .bool b3, .slice a4 n4 c4, .int .i64 0, .int .i64 i6] := IsEP.form h
def PE (x : (Except (Int × Int) (Ex × Nat))) (r : Nat) (ts : List (Int × ByteArray × Int)) (p d : Nat) (w : World) (e : Ending) (w' : World) : Prop := RP (fun w' v t => IsE w' w.heap.size v t) x r ts p d w e w'
/-- A rule's contract, from a place on. -/
def RuC (f : Nat) (r : Nat) (ts : List (Int × ByteArray × Int)) (d lo : Nat) (X : Nat → (Except (Int × Int) (Ex × Nat))) : Prop := ∀ (w : World) (p : Nat), lo ≤ p → RD w r ts p d → Calls Tryz.prog f #[.pointer (some ⟨r, 0, none⟩)] w (PE (X p) r ts p d w)
set_option maxRecDepth 100000 in
set_option maxHeartbeats 4000000 in
theorem nested_any {w : World} {r p d k lo : Nat} {ts : List (Int × ByteArray × Int)} {X : Nat → (Except (Int × Int) (Ex × Nat))} (hR : RD w r ts p d) (hT : TsOk ts) (b : Bool) (hd : d ≤ 1000000) (hE : Enters Tryz.prog k) (hX : RuC k r ts (d + 1) lo X) (hlo : lo ≤ p) : Calls Tryz.prog 73 #[.pointer (some ⟨r, 0, none⟩), .bool b, .func (.func k) #[.pointer (some ⟨r, 0, none⟩)] #[]] w (PE (if b ∧ d = 200 then bad ts p 151 else X p) r ts p d w) := by
  obtain ⟨A, eA, hbA, hsA, hhA⟩ := box_new w #[.int .i64 0, .string ⟨#[]⟩, .string ⟨#[]⟩, .bool false, .slice none 0 0, .int .i64 0, .int .i64 0] 36
  have hRA := hR.keep hbA
  obtain ⟨g, c, x0, x1, x2, hc, hrl, f1, f2, ht⟩ := hRA.facts (Below.refl _ _)
  obtain ⟨Y, hY⟩ : ∃ Y, (if b ∧ d = 200 then bad ts p 151 else X p) = Y := ⟨_, rfl⟩
  rw [hY]
  have HA := hide (And.intro hR (And.intro hRA (And.intro hT (And.intro hbA (And.intro hhA (And.intro hY (And.intro hX (And.intro hlo hE))))))))
  have HE := hide eA
  have g3 : (0 : Int) ≤ (d : Int) := by omega
  have g4 : (d : Int) ≤ 1000000 := by omega
  rw [← eA] at x0 x1 x2 f1 f2 hrl
  clear hR hT hd hE hX hlo hRA hY eA hbA hsA hhA ht hc
  by_cases hb : b = true ∧ d = 200
  · obtain ⟨rfl, rfl⟩ := hb
    go_enter Tryz.func73, Tryz.ntmps73
    have HRf := hide (refused_any (unhide HA).2.1 (unhide HA).2.2.1 151)
    go_wp2_with fail
    rw [unhide HE]
    refine (unhide HRf).mono ?_
    rintro e w3 ⟨rfl, hb3⟩
    have HB3 := hide hb3
    clear hb3 HRf
    go_wp2
    obtain ⟨hR, hRA, hT, hbA, hhA, hY, -⟩ := unhide HA
    rw [if_pos (by simp)] at hY
    obtain rfl := hY
    exact ⟨rfl, (But.of hbA).trans (But.of (unhide HB3)), rfl⟩
  · have HNB := hide hb
    have hrw : r < w.heap.size := by
      obtain ⟨⟨g, c, h1, -⟩, -⟩ := (unhide HA).1
      exact (blk h1).1
    obtain ⟨W1, hW1⟩ : ∃ W1, (w.alloc (.cells #[.int .i64 0, .string ⟨#[]⟩, .string ⟨#[]⟩, .bool false, .slice none 0 0, .int .i64 0, .int .i64 0] 36)).setCell ⟨r, 2, none⟩ (.int .i64 ((d : Int) + 1)) = W1 := ⟨_, rfl⟩
    have hbu1 : But r w W1 := by
      rw [← hW1, unhide HE]
      exact (But.of (unhide HA).2.2.2.1).set 2 _
    have hR1 : RD W1 r ts p (d + 1) := (unhide HA).1.set hbu1 (unhide HA).1.lt fun g c h => by
      rw [← hW1, unhide HE]
      exact set_block (((unhide HA).2.2.2.1.block r hrw).trans h) _
    have hz1 : W1.heap[w.heap.size]? = some (.cells #[.int .i64 0, .string ⟨#[]⟩, .string ⟨#[]⟩, .bool false, .slice none 0 0, .int .i64 0, .int .i64 0] 36) := by
      rw [← hW1, unhide HE, heap_set _ _ (by omega)]
      exact (unhide HA).2.2.2.2.1
    have HC := hide ((unhide HA).2.2.2.2.2.2.1 W1 p (unhide HA).2.2.2.2.2.2.2.1 hR1)
    have HW := hide (And.intro hbu1 (And.intro hz1 hrw))
    have HW1 := hide hW1
    have hY := (unhide HA).2.2.2.2.2.1
    rw [if_neg hb] at hY
    have hEn := hide (unhide HA).2.2.2.2.2.2.2.2
    clear hbu1 hR1 hz1 hW1 hrw
    have hcond : b = true → ¬ (d : Int) = 200 := fun h1 h2 => hb ⟨h1, by omega⟩
    clear hb
    rw [hY] at HC
    clear hY
    cases b with
    | false =>
      clear hcond
      go_enter Tryz.func73, Tryz.ntmps73
      go_wp2_with fail
      rw [(unhide hEn).run, unhide HW1]
      refine Calls.mono (unhide HC) ?_
      rintro e w3 ⟨hb3, h3⟩
      cases hYY : Y with
      | error er =>
        obtain ⟨i, n⟩ := er
        rw [hYY] at h3
        obtain rfl : e = _ := h3
        go_wp2
        exact ⟨rfl, (unhide HW).1.trans hb3, rfl⟩
      | ok tq =>
        obtain ⟨t, q⟩ := tq
        rw [hYY] at h3
        obtain ⟨hpq, hR3, v, rfl, hv⟩ := h3
        obtain ⟨i0, i6, s1, s2, b3, a4, n4, c4, rfl⟩ := hv.form
        have hrw := (unhide HW).2.2
        have hsz : w.heap.size < W1.heap.size := (blk (unhide HW).2.1).1
        have hs3 := hb3.size
        have hz3 := (hb3.block w.heap.size hsz (by omega)).trans (unhide HW).2.1
        obtain ⟨B, eB, hbB, hsB, hhB⟩ := box_new w3 #[.int .i64 i0, .string s1, .string s2, .bool b3, .slice a4 n4 c4, .int .i64 0, .int .i64 i6] 36
        have hzB := (hbB.block w.heap.size (blk hz3).1).trans hz3
        have hRB := hR3.keep hbB
        obtain ⟨g', c', p0, p1, p2, -, hrB, pf1, pf2, -⟩ := hRB.facts (Below.refl _ _)
        obtain ⟨y0, y1, y2, y3, y4, y5, y6⟩ := blk7 hzB
        obtain ⟨z0, z1, z2, z3, z4, z5, z6⟩ := frz7 hzB
        obtain ⟨q0, q1, q2, q3, q4, q5, q6⟩ := blk7 hhB
        have n1 : r ≠ w.heap.size := by omega
        have n2 : r ≠ w3.heap.size := by omega
        have n3 : w.heap.size ≠ w3.heap.size := by omega
        have HF := hide (And.intro hb3 (And.intro hpq (And.intro hR3 (And.intro hv (And.intro hbB (And.intro hzB hYY))))))
        have HEB := hide eB
        rw [← eB] at p0 p1 p2 pf1 pf2 hrB y0 y1 y2 y3 y4 y5 y6 z0 z1 z2 z3 z4 z5 z6 q0 q1 q2 q3 q4 q5 q6
        clear x0 x1 x2 f1 f2 hrl hb3 hpq hR3 hv hrw hsz hs3 hz3 eB hbB hsB hhB hzB hRB HC hEn
        go_wp2
        rw [unhide HEB]
        obtain ⟨hb3, hpq, hR3, hv, hbB, hzB, hYY⟩ := unhide HF
        refine bodyPost_ret (res_row (cs := [.int .i64 i0, .string s1, .string s2, .bool b3, .slice a4 n4 c4, .int .i64 0, .int .i64 i6]) rfl rfl (range_block (fill7 ((heap_set _ _ (Ne.symm n1)).trans hzB))) rfl rfl rfl) rfl ?_
        have hbu := but7 (((unhide HW).1.trans (hb3.trans (But.of hbB))).set 2 (.int .i64 (d : Int))) (Nat.le_refl _) (.int .i64 i0) (.string s1) (.string s2) (.bool b3) (.slice a4 n4 c4) (.int .i64 0) (.int .i64 i6)
        have hrw := (unhide HW).2.2
        rw [hYY]
        refine ⟨hbu, hpq, ?_, _, rfl, ?_⟩
        · obtain ⟨⟨g, c, h1, h2, h3, h4⟩, h5⟩ := hR3
          have hg : g < w3.heap.size := Nat.lt_trans h2 (blk h1).1
          refine ⟨⟨g, c, ?_, h2, h3, fun j x hx => range_same (h4 j x hx) ?_⟩, h5⟩
          · rw [same7 n1]
            exact set_block ((hbB.block r (blk h1).1).trans h1) _
          · rw [same7 (by omega), heap_set _ _ (by omega)]
            exact hbB.block g hg
        · have hlo : w.heap.size < W1.heap.size := (blk (unhide HW).2.1).1
          exact hv.keep (stays7 ((Stays.of hbB).set (by omega) _ _) hlo _ _ _ _ _ _ _) (by omega)
    | true =>
      have k1 : ¬ (d : Int) = 200 := hcond rfl
      have k2 : decide ((d : Int) = 200) = false := by simpa using k1
      have k3 : ((d : Int) == 200) = false := by simpa using k1
      clear hcond
      go_enter Tryz.func73, Tryz.ntmps73
      go_wp2_with fail
      rw [(unhide hEn).run, unhide HW1]
      refine Calls.mono (unhide HC) ?_
      rintro e w3 ⟨hb3, h3⟩
      cases hYY : Y with
      | error er =>
        obtain ⟨i, n⟩ := er
        rw [hYY] at h3
        obtain rfl : e = _ := h3
        go_wp2
        exact ⟨rfl, (unhide HW).1.trans hb3, rfl⟩
      | ok tq =>
        obtain ⟨t, q⟩ := tq
        rw [hYY] at h3
        obtain ⟨hpq, hR3, v, rfl, hv⟩ := h3
        obtain ⟨i0, i6, s1, s2, b3, a4, n4, c4, rfl⟩ := hv.form
        have hrw := (unhide HW).2.2
        have hsz : w.heap.size < W1.heap.size := (blk (unhide HW).2.1).1
        have hs3 := hb3.size
        have hz3 := (hb3.block w.heap.size hsz (by omega)).trans (unhide HW).2.1
        obtain ⟨B, eB, hbB, hsB, hhB⟩ := box_new w3 #[.int .i64 i0, .string s1, .string s2, .bool b3, .slice a4 n4 c4, .int .i64 0, .int .i64 i6] 36
        have hzB := (hbB.block w.heap.size (blk hz3).1).trans hz3
        have hRB := hR3.keep hbB
        obtain ⟨g', c', p0, p1, p2, -, hrB, pf1, pf2, -⟩ := hRB.facts (Below.refl _ _)
        obtain ⟨y0, y1, y2, y3, y4, y5, y6⟩ := blk7 hzB
        obtain ⟨z0, z1, z2, z3, z4, z5, z6⟩ := frz7 hzB
        obtain ⟨q0, q1, q2, q3, q4, q5, q6⟩ := blk7 hhB
        have n1 : r ≠ w.heap.size := by omega
        have n2 : r ≠ w3.heap.size := by omega
        have n3 : w.heap.size ≠ w3.heap.size := by omega
        have HF := hide (And.intro hb3 (And.intro hpq (And.intro hR3 (And.intro hv (And.intro hbB (And.intro hzB hYY))))))
        have HEB := hide eB
        rw [← eB] at p0 p1 p2 pf1 pf2 hrB y0 y1 y2 y3 y4 y5 y6 z0 z1 z2 z3 z4 z5 z6 q0 q1 q2 q3 q4 q5 q6
        clear x0 x1 x2 f1 f2 hrl hb3 hpq hR3 hv hrw hsz hs3 hz3 eB hbB hsB hhB hzB hRB HC hEn
        go_wp2
        rw [unhide HEB]
        obtain ⟨hb3, hpq, hR3, hv, hbB, hzB, hYY⟩ := unhide HF
        refine bodyPost_ret (res_row (cs := [.int .i64 i0, .string s1, .string s2, .bool b3, .slice a4 n4 c4, .int .i64 0, .int .i64 i6]) rfl rfl (range_block (fill7 ((heap_set _ _ (Ne.symm n1)).trans hzB))) rfl rfl rfl) rfl ?_
        have hbu := but7 (((unhide HW).1.trans (hb3.trans (But.of hbB))).set 2 (.int .i64 (d : Int))) (Nat.le_refl _) (.int .i64 i0) (.string s1) (.string s2) (.bool b3) (.slice a4 n4 c4) (.int .i64 0) (.int .i64 i6)
        have hrw := (unhide HW).2.2
        rw [hYY]
        refine ⟨hbu, hpq, ?_, _, rfl, ?_⟩
        · obtain ⟨⟨g, c, h1, h2, h3, h4⟩, h5⟩ := hR3
          have hg : g < w3.heap.size := Nat.lt_trans h2 (blk h1).1
          refine ⟨⟨g, c, ?_, h2, h3, fun j x hx => range_same (h4 j x hx) ?_⟩, h5⟩
          · rw [same7 n1]
            exact set_block ((hbB.block r (blk h1).1).trans h1) _
          · rw [same7 (by omega), heap_set _ _ (by omega)]
            exact hbB.block g hg
        · have hlo : w.heap.size < W1.heap.size := (blk (unhide HW).2.1).1
          exact hv.keep (stays7 ((Stays.of hbB).set (by omega) _ _) hlo _ _ _ _ _ _ _) (by omega)
end Go.Proofs.YtfkfnbehdcmgeaaGreatDoor
