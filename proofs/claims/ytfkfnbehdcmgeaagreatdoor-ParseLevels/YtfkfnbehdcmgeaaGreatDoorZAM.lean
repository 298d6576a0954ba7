/- Package parse: a refinement. -/
import Derived.Test.YtfkfnbehdcmgeaaGreatDoorZAL
import Derived.Defers
import Derived.Recover
set_option linter.unusedVariables false
set_option linter.unusedSimpArgs false

/- Package parse: a text is read: a refusal is caught. -/
namespace Go.Proofs.YtfkfnbehdcmgeaaGreatDoor
open Go Go.RowKit
theorem tkl_len (s : ByteArray) : (tkL s).length ≤ 65537 := by
  rw [tkL_len]
  have : (tk s).1.length ≤ 65536 := by
    unfold tk
    split
    · simp
    · have := lx_len s s.size 0
      omega
  omega
theorem tsok_of (s : ByteArray) : TsOk (tkL s) := by
  refine ⟨by have := tkl_len s; omega, by rw [tkL_len]; omega, fun j x hx hne => ?_⟩
  have hj := (List.getElem?_eq_some_iff.1 hx).1
  rw [tkL_len] at hj ⊢
  rcases Nat.lt_or_ge j (tk s).1.length with h | h
  · omega
  · have e : j = (tk s).1.length := by omega
    subst e
    unfold tkL at hx
    rw [List.getElem?_append_right (by simp)] at hx
    simp at hx
    subst hx
    rcases hne with h | h
    · exact absurd rfl h
    · exact absurd rfl h
theorem tkp_rd {s : ByteArray} {w w' : World} {e : Ending} (h : TkP s (tk s) w e w') (hn : (tk s).2 = none) : Below w.heap.size w w' ∧ ∃ g c, e = .returned (.tuple #[.slice (some ⟨g, 0, none⟩) (tkL s).length c, .nilIface]) ∧ g < w'.heap.size ∧ (tkL s).length ≤ c ∧ ∀ j x, (tkL s)[j]? = some x → w'.rangeAt g (j * 3) [.int .i64 x.1, .string x.2.1, .int .i64 x.2.2] := by
  obtain ⟨hb, v, he, hr⟩ := tkp_ok h hn
  obtain ⟨a, c, rfl, hr⟩ := hr
  obtain ⟨g, rfl, hg, hc⟩ := hr (by unfold tkL; simp)
  refine ⟨hb, g, c, he, hg, ?_, fun j x hx => ?_⟩
  · obtain ⟨_, ⟨_, v, he2, ho⟩ | ⟨a, n, b, hx, _⟩⟩ := h
    · have e1 : (Value.slice (some ⟨g, 0, none⟩) (tkL s).length c) = v := by
        rw [he] at he2
        simpa using he2
      subst e1
      obtain ⟨-, h1 | ⟨g', c', cur, e, -, -, h2, -⟩⟩ := ho
      · exact absurd h1.2 (by omega)
      · obtain ⟨-, -, rfl⟩ : g = g' ∧ _ ∧ c = c' := by simpa using e
        rw [tkL_len]
        exact h2
    · rw [hn] at hx; cases hx
  · obtain ⟨c0, c1, c2⟩ := hc j x hx
    intro i u hu
    rcases i with _ | _ | _ | i
    · obtain rfl := Option.some.inj hu
      exact c0
    · obtain rfl := Option.some.inj hu
      exact c1
    · obtain rfl := Option.some.inj hu
      exact c2
    · simp at hu
theorem heap_two {w : World} {k : Nat} (h : k < w.heap.size) (o1 o2 : Obj) : ((w.alloc o1).alloc o2).heap[k]? = w.heap[k]? :=
  (((Below.refl (w.alloc o1).heap.size (w.alloc o1)).alloc (Nat.le_refl _) o2).block k (by simp; omega)).trans (((Below.refl w.heap.size w).alloc (Nat.le_refl _) o1).block k h)
set_option maxRecDepth 100000 in
set_option maxHeartbeats 4000000 in
/-- The closure that catches, where a refusal was thrown. -/
theorem catch_panicking (wb : Nat) (old : Value) (i n : Int) (w : World) (hh : w.heap[wb]? = some (.cells #[old] 25)) :
    CallsD Tryz.prog 42 #[.pointer (some ⟨wb, 0, none⟩)] (.panicking [{ v := .iface 89 (.agg #[.int .i64 i, .int .i64 n]), recovered := false }]) w fun e u' w' =>
      e = .returned (.tuple #[]) ∧ u' = .panicking [{ v := .iface 89 (.agg #[.int .i64 i, .int .i64 n]), recovered := true }] ∧ But wb w w' ∧
      ∃ b, w'.heap[wb]? = some (.cells #[.iface 61 (.pointer (some ⟨b, 0, none⟩))] 25) ∧ w'.heap[b]? = some (.cells #[.int .i64 i, .int .i64 n] 66) := by
  refine callsD_of_wpS Tryz.func42 rfl fun c₀ cs hu => ?_
  apply wpS_seq
  apply wpS_region
  simp [wpOpsS, go_sem, recoverD, hu, Tryz.ntmps42, Exit.thenS]
  apply wpS_seq
  apply wpS_region
  simp [wpOpsS, go_sem, Exit.thenS]
  refine wpS_cond (t := true) (by simp [Act.eval, Array.replicate]) ?_
  simp only [if_true]
  refine wpS_of_wp ?_
  have elit : (#[Value.pointer (some { block := wb, off := 0 })] ++ ((((Array.replicate 14 undef).setIfInBounds 2 (Value.iface 89 (Value.agg #[Value.int IntKind.i64 i, Value.int IntKind.i64 n]))).setIfInBounds 0 (Value.iface 89 (Value.agg #[Value.int IntKind.i64 i, Value.int IntKind.i64 n]))).setIfInBounds 3 (Value.iface 89 (Value.agg #[Value.int IntKind.i64 i, Value.int IntKind.i64 n]))).setIfInBounds 4 (Value.bool true)) = #[Value.pointer (some { block := wb, off := 0 }), Value.iface 89 (Value.agg #[Value.int IntKind.i64 i, Value.int IntKind.i64 n]), undef, Value.iface 89 (Value.agg #[Value.int IntKind.i64 i, Value.int IntKind.i64 n]), Value.iface 89 (Value.agg #[Value.int IntKind.i64 i, Value.int IntKind.i64 n]), Value.bool true, undef, undef, undef, undef, undef, undef, undef, undef, undef] := rfl
  rw [elit]
  have hta : ∀ (W : World), (Instr.typeAssert (.iface 89 (.agg #[.int .i64 i, .int .i64 n])) 20 89 false).run Tryz.prog W = .ok (.agg #[.int .i64 i, .int .i64 n]) W := fun W => by rfl
  have hw1 : ∀ o1 o2, ((w.alloc o1).alloc o2).heap[wb]? = some (.cells #[old] 25) := fun o1 o2 => (heap_two (blk hh).1 o1 o2).trans hh
  have hc1 : ∀ o1 o2, ((w.alloc o1).alloc o2).cell? ⟨wb, 0, none⟩ = some old := fun o1 o2 => (blk (hw1 o1 o2)).2.1 0 _ rfl
  have hf1 : ∀ o1 o2, ((w.alloc o1).alloc o2).frozen? ⟨wb, 0, none⟩ = false := fun o1 o2 => (blk (hw1 o1 o2)).2.2 0
  have hlt := (blk hh).1
  have hw0 := hide hh
  clear hw1
  clear elit hu hh
  go_wp2
  obtain ⟨w1, hw9⟩ : ∃ w1, w.setCell ⟨wb, 0, none⟩ (.iface 61 (.pointer (some ⟨w.heap.size + 1, 0, none⟩))) = w1 := ⟨_, rfl⟩
  have hbw : But wb w w1 := by rw [← hw9]; exact (But.refl wb w).set 0 _
  have hs1 : w1.heap.size = w.heap.size := by rw [← hw9]; simp
  have hw2 : w1.heap[wb]? = some (.cells #[.iface 61 (.pointer (some ⟨w.heap.size + 1, 0, none⟩))] 25) := by rw [← hw9]; exact set_block (unhide hw0) _
  rw [hw9]
  refine ⟨rfl, _, rfl, _, results_none rfl _ _ _, rfl, rfl, hbw.trans (But.of (((Below.refl _ w1).alloc (Nat.le_refl _) _).trans ((Below.refl _ _).alloc (by simp) _))), w.heap.size + 1, ?_, ?_⟩
  · rw [heap_two (by omega)]
    exact hw2
  · rw [← hs1]
    have := (MapKept.heap_alloc (w1.alloc (Obj.cells #[Value.int IntKind.i64 i, Value.int IntKind.i64 n] 89)) (Obj.cells #[Value.int IntKind.i64 i, Value.int IntKind.i64 n] 66)).1
    simpa using this
set_option maxRecDepth 100000 in
set_option maxHeartbeats 4000000 in
/-- The closure that catches, where nothing was thrown. -/
theorem catch_idle (wb : Nat) (w : World) :
    CallsD Tryz.prog 42 #[.pointer (some ⟨wb, 0, none⟩)] .returning w fun e u' w' => e = .returned (.tuple #[]) ∧ u' = .returning ∧ w' = w := by
  refine callsD_of_wpS Tryz.func42 rfl fun c₀ cs hu => ?_
  apply wpS_seq
  apply wpS_region
  simp [wpOpsS, go_sem, recoverD, hu, Tryz.ntmps42, Exit.thenS]
  apply wpS_seq
  apply wpS_region
  simp [wpOpsS, go_sem, Exit.thenS]
  refine wpS_cond (t := false) (by simp [Act.eval, Array.replicate]) ?_
  simp only [Bool.false_eq_true, if_false]
  refine wpS_of_wp (wp_skip ?_)
  cases c₀
  simp_all [bodyPostS, results, Tryz.results42]
end Go.Proofs.YtfkfnbehdcmgeaaGreatDoor

/- Package parse: read. -/
namespace Go.Proofs.YtfkfnbehdcmgeaaGreatDoor
open Go Go.RowKit
/-- All stands but two blocks. -/
structure Bu (q r : Nat) (w w' : World) : Prop where
  os : w'.os = w.os
  tape : w'.tape = w.tape
  output : w'.output = w.output
  size : w.heap.size ≤ w'.heap.size
  block : ∀ k, k < w.heap.size → k ≠ r → k ≠ q → w'.heap[k]? = w.heap[k]?
/-- What read has its rule do. -/
def KP {α : Type} (X : List (Int × ByteArray × Int) → (Except (Int × Int) (α × Nat))) (Φ : World → α → Prop) (s : ByteArray) (ob r : Nat) (W : World) (e : Ending) (w' : World) : Prop :=
  match X (tkL s) with
  | .ok (t, _) => e = .returned (.tuple #[]) ∧ Bu ob r W w' ∧ Φ w' t
  | .error (i, n) => But r W w' ∧ Ref i n e
/-- An error that tells a place. -/
def PErr (w : World) (v : Value) (i n : Int) : Prop := ∃ b, v = .iface 61 (.pointer (some ⟨b, 0, none⟩)) ∧ w.heap[b]? = some (.cells #[.int .i64 i, .int .i64 n] 66)
/-- What read answers. -/
def ReadP {α : Type} (X : List (Int × ByteArray × Int) → (Except (Int × Int) (α × Nat))) (Φ : World → α → Prop) (s : ByteArray) (ob : Nat) (w : World) (e : Ending) (w' : World) : Prop :=
  match (tk s).2 with
  | some (a, n) => Below w.heap.size w w' ∧ ∃ v, e = .returned v ∧ PErr w' v a n
  | none => match X (tkL s) with
    | .ok (t, _) => e = .returned .nilIface ∧ But ob w w' ∧ Φ w' t
    | .error (i, n) => Below w.heap.size w w' ∧ ∃ v, e = .returned v ∧ PErr w' v i n
theorem res_cell {P : Program} {W : World} {fn : Func} {tmps : Array Value} {t b : Nat} {ty : TypeId} {v : Value} (hf : fn.results = #[.cell t ty]) (ht : tmps[t]? = some (.pointer (some ⟨b, 0, none⟩))) (hl : (loadVar ty ⟨b, 0, none⟩).run P W = .ok v W) : (results fn tmps).run P W = .ok v W := by
  simp [results, hf, ht, asAddr, hl]
theorem load_err {W : World} {b : Nat} {v : Value} (h : W.heap[b]? = some (.cells #[v] 25)) : (loadVar 25 ⟨b, 0, none⟩).run Tryz.prog W = .ok v W := by
  have hc : W.cell? ⟨b, 0, none⟩ = some v := (blk h).2.1 0 _ rfl
  go_simp
set_option maxRecDepth 100000 in
set_option maxHeartbeats 8000000 in
theorem pread_any {α : Type} {k ob : Nat} {X : List (Int × ByteArray × Int) → (Except (Int × Int) (α × Nat))} {Φ : World → α → Prop} (s : ByteArray) (w : World) (hG : SG w) (hEn : Enters Tryz.prog k) (hob : ob < w.heap.size)
    (hΦ : ∀ w1 w2 t, But w.heap.size w1 w2 → w.heap.size < w1.heap.size → Φ w1 t → Φ w2 t)
    (hK : ∀ (W : World) (r : Nat), Below w.heap.size w W → w.heap.size < r → RD W r (tkL s) 0 0 → Calls Tryz.prog k #[.pointer (some ⟨r, 0, none⟩), .pointer (some ⟨ob, 0, none⟩)] W (KP X Φ s ob r W)) :
    Calls Tryz.prog 24 #[.string s, .func (.func k) #[] #[.pointer (some ⟨ob, 0, none⟩)]] w (ReadP X Φ s ob w) := by
  obtain ⟨A, eA, hbA, hsA, hhA⟩ := box_new w #[.nilIface] 25
  have h1w := hG.lt
  have HC := hide (tokens_any s A (hG.below hbA h1w))
  have hmf : ∀ (fn : Fn) (first cap : Array Value) (w : World), (Instr.makeFunc fn first cap).run Tryz.prog w = .ok (.func fn first cap) w := fun _ _ _ _ => rfl
  have HA := hide (And.intro hEn (And.intro hob (And.intro hΦ (And.intro hK (And.intro hbA (And.intro hhA hsA))))))
  have HE := hide eA
  clear hEn hob hΦ hK hbA hhA hsA eA hG h1w
  go_enter_defers Tryz.func24, Tryz.ntmps24
  go_wp2_with fail
  rw [unhide HE]
  refine (unhide HC).mono ?_
  intro e w1 h1
  rcases hn : (tk s).2 with _ | ⟨a, n⟩
  · obtain ⟨hb1, g, c, rfl, hg, hc, ht⟩ := tkp_rd h1 hn
    obtain ⟨hEn, hob, hΦ, hK, hbA, hhA, hsA⟩ := unhide HA
    have hh1 := (hb1.block w.heap.size (blk hhA).1).trans hhA
    have hw1 : Below w.heap.size w w1 := hbA.trans (hb1.mono hbA.size)
    obtain ⟨W, eW, hbW, hsW, hhW⟩ := box_new w1 #[.slice (some ⟨g, 0, none⟩) (tkL s).length c, .int .i64 0, .int .i64 0] 91
    have hRD : RD W w1.heap.size (tkL s) 0 0 := ⟨⟨g, c, hhW, hg, hc, fun j x hx => range_same (ht j x hx) (hbW.block g hg)⟩, by have := (tsok_of s).pos; omega⟩
    have hs1 : w.heap.size < w1.heap.size := by have := hb1.size; omega
    have HK := hide (hK W w1.heap.size (hw1.trans (hbW.mono hw1.size)) hs1 hRD)
    have hEn' := hide hEn
    have HF := hide (And.intro hw1 (And.intro hbW (And.intro hs1 (And.intro hh1 hhW))))
    have HEW := hide eW
    have HN := hide hn
    obtain ⟨L, hL⟩ : ∃ L, (tkL s).length = L := ⟨_, rfl⟩
    rw [hL] at HEW
    rw [hL]
    clear HC h1 hn hb1 hg hc ht hEn hob hΦ hK hbA hhA hsA hh1 hw1 hbW hsW hhW hRD hs1 eW hL
    go_wp2_with fail
    rw [(unhide hEn').run, unhide HEW]
    refine Calls.mono (unhide HK) ?_
    intro e w3 h3
    unfold KP at h3
    obtain ⟨hw1, hbW, hs1, hh1, hhW⟩ := unhide HF
    have hhW1 := (hbW.block w.heap.size (blk hh1).1).trans hh1
    obtain ⟨hEn, hob, hΦ, hK, hbA, hhA, hsA⟩ := unhide HA
    rcases hX : X (tkL s) with ⟨i, n⟩ | ⟨t, q⟩
    · rw [hX] at h3
      obtain ⟨hb3, h3⟩ := h3
      obtain rfl : e = _ := h3
      have hh3 := (hb3.block w.heap.size (blk hhW1).1 (by omega)).trans hhW1
      have hB3 : Below w.heap.size w w3 := ⟨hb3.os.trans (hbW.os.trans hw1.os), hb3.tape.trans (hbW.tape.trans hw1.tape), hb3.output.trans (hbW.output.trans hw1.output), Nat.le_trans hw1.size (Nat.le_trans hbW.size hb3.size), fun j hj => by
        have h1 := hw1.size
        have h2 := hbW.size
        exact (hb3.block j (by omega) (by omega)).trans ((hbW.block j (by omega)).trans (hw1.block j hj))⟩
      have HQ := hide (And.intro hh3 (And.intro hB3 hX))
      clear HK hw1 hbW hs1 hh1 hhW hhW1 hEn hob hΦ hK hbA hhA hsA hX hb3 hh3 hB3
      go_wp2
      obtain ⟨hh3, hB3, hX⟩ := unhide HQ
      refine leaves_cons (f := 42) (args := #[.pointer (some ⟨w.heap.size, 0, none⟩)]) (by simp) (by simp [go_sem]) ?_
      refine (catch_panicking w.heap.size _ i n w3 hh3).mono ?_
      rintro e u' w4 ⟨rfl, rfl, hb4, b, hv4, hd4⟩
      refine ⟨_, res_cell rfl rfl (load_err hv4), ?_⟩
      unfold ReadP
      rw [unhide HN, hX]
      exact ⟨⟨hb4.os.trans hB3.os, hb4.tape.trans hB3.tape, hb4.output.trans hB3.output, Nat.le_trans hB3.size hb4.size, fun j hj => (hb4.block j (Nat.lt_of_lt_of_le hj hB3.size) (by omega)).trans (hB3.block j hj)⟩, _, rfl, b, rfl, hd4⟩
    · rw [hX] at h3
      obtain ⟨rfl, hb3, hΦ3⟩ := h3
      have hh3 := (hb3.block w.heap.size (blk hhW1).1 (by omega) (by omega)).trans hhW1
      have hs3 := (blk hh3).1
      have c0 : w3.cell? ⟨w.heap.size, 0, none⟩ = some .nilIface := (blk hh3).2.1 0 _ rfl
      have f0 := (blk hh3).2.2 0
      have hB3 : But ob w w3 := ⟨hb3.os.trans (hbW.os.trans hw1.os), hb3.tape.trans (hbW.tape.trans hw1.tape), hb3.output.trans (hbW.output.trans hw1.output), Nat.le_trans hw1.size (Nat.le_trans hbW.size hb3.size), fun j hj hjo => by
        have h1 := hw1.size
        have h2 := hbW.size
        exact (hb3.block j (by omega) (by omega) hjo).trans ((hbW.block j (by omega)).trans (hw1.block j hj))⟩
      have HQ := hide (And.intro hh3 (And.intro hB3 (And.intro hX (And.intro hΦ3 (And.intro hΦ hs3)))))
      clear HK hw1 hbW hs1 hh1 hhW hhW1 hEn hob hΦ hK hbA hhA hsA hX hb3 hh3 hB3 hΦ3 hs3
      go_wp2
      obtain ⟨hh3, hB3, hX, hΦ3, hΦ, hs3⟩ := unhide HQ
      refine leaves_cons (f := 42) (args := #[.pointer (some ⟨w.heap.size, 0, none⟩)]) (by simp) (by simp [go_sem]) ?_
      refine (catch_idle w.heap.size _).mono ?_
      rintro e u' w4 ⟨rfl, rfl, rfl⟩
      refine ⟨_, res_cell rfl rfl (load_err (set_block hh3 _)), ?_⟩
      unfold ReadP
      rw [unhide HN, hX]
      have hb4 : But w.heap.size w3 (w3.setCell ⟨w.heap.size, 0, none⟩ .nilIface) := (But.refl _ w3).set 0 _
      refine ⟨rfl, ⟨hb4.os.trans hB3.os, hb4.tape.trans hB3.tape, hb4.output.trans hB3.output, Nat.le_trans hB3.size hb4.size, fun j hj hjo => (hb4.block j (Nat.lt_of_lt_of_le hj hB3.size) (by omega)).trans (hB3.block j hj hjo)⟩, hΦ _ _ _ hb4 hs3 hΦ3⟩
  · obtain ⟨hb1, b, rfl, hd⟩ := tkp_err h1 hn
    obtain ⟨hEn, hob, hΦ, hK, hbA, hhA, hsA⟩ := unhide HA
    have hh1 := (hb1.block w.heap.size (blk hhA).1).trans hhA
    have hw1 : Below w.heap.size w w1 := hbA.trans (hb1.mono hbA.size)
    have c0 : w1.cell? ⟨w.heap.size, 0, none⟩ = some .nilIface := (blk hh1).2.1 0 _ rfl
    have f0 := (blk hh1).2.2 0
    have HQ := hide (And.intro hh1 (And.intro hw1 (And.intro hn (And.intro hd hhA))))
    have hne : b ≠ w.heap.size := by
      intro e
      subst e
      rw [hh1] at hd
      cases hd
    replace hne := hide hne
    clear HC h1 hn hb1 hd hEn hob hΦ hK hbA hhA hsA hh1 hw1
    go_wp2
    obtain ⟨hh1, hw1, hn, hd, hhA⟩ := unhide HQ
    refine ⟨_, res_cell rfl rfl (load_err (set_block hh1 _)), ?_⟩
    unfold ReadP
    rw [hn]
    have hb4 : But w.heap.size w1 (w1.setCell ⟨w.heap.size, 0, none⟩ (.iface 61 (.pointer (some ⟨b, 0, none⟩)))) := (But.refl _ w1).set 0 _
    exact ⟨⟨hb4.os.trans hw1.os, hb4.tape.trans hw1.tape, hb4.output.trans hw1.output, Nat.le_trans hw1.size hb4.size, fun j hj => (hb4.block j (Nat.lt_of_lt_of_le hj hw1.size) (by omega)).trans (hw1.block j hj)⟩, _, rfl, b, rfl, (heap_set _ _ (unhide hne)).trans hd⟩
end Go.Proofs.YtfkfnbehdcmgeaaGreatDoor

/- Package parse: Expr. -/
namespace Go.Proofs.YtfkfnbehdcmgeaaGreatDoor
open Go Go.RowKit
def aloneF (ts : List (Int × ByteArray × Int)) : (Except (Int × Int) (Ex × Nat)) := aloneP ts 0
theorem aloneF_eq (ts : List (Int × ByteArray × Int)) : aloneF ts = aloneP ts 0 := rfl
/-- What a text is as an expression, or its error. -/
def exprS (s : ByteArray) : Except (Int × Int) Ex :=
  match (tk s).2 with
  | some (a, n) => .error (a, n)
  | none => match aloneF (tkL s) with
    | .ok (t, _) => .ok t
    | .error e => .error e
/-- What Expr answers. -/
def ExprP (s : ByteArray) (w : World) (e : Ending) (w' : World) : Prop := Below w.heap.size w w' ∧
  match exprS s with
  | .ok t => ∃ v, e = .returned (.tuple #[v, .nilIface]) ∧ IsE w' w.heap.size v t
  | .error (i, n) => ∃ v, e = .returned (.tuple #[.agg zE, v]) ∧ PErr w' v i n
theorem results_two {P : Program} {W : World} {fn : Func} {tmps : Array Value} {t b j : Nat} {ty : TypeId} {v u : Value} (hf : fn.results = #[.cell t ty, .tmp j]) (ht : tmps[t]? = some (.pointer (some ⟨b, 0, none⟩))) (hl : (loadVar ty ⟨b, 0, none⟩).run P W = .ok v W) (hj : tmps[j]? = some u) : (results fn tmps).run P W = .ok (.tuple #[v, u]) W := by
  simp [results, hf, ht, asAddr, hl, hj]
theorem Bu.set {q r : Nat} {w w' : World} (h : Bu q r w w') (o : Nat) (v : Value) : Bu q r w (w'.setCell ⟨q, o, none⟩ v) :=
  ⟨h.os, h.tape, h.output, by simpa using h.size, fun k hk h1 h2 => (Below.heap_setCell w' ⟨q, o, none⟩ v k h2).trans (h.block k hk h1 h2)⟩
theorem Bu.of_but {q r : Nat} {w w' : World} (h : But r w w') : Bu q r w w' := ⟨h.os, h.tape, h.output, h.size, fun k hk h1 _ => h.block k hk h1⟩
/-- The box that Expr's closure fills. -/
def OutE (ob : Nat) (w : World) (t : Ex) : Prop := ∃ x0 x1 x2 x3 x4 x5 x6, w.heap[ob]? = some (.cells #[x0, x1, x2, x3, x4, x5, x6] 36) ∧ IsE w (ob + 2) (.agg #[x0, x1, x2, x3, x4, x5, x6]) t
set_option maxRecDepth 100000 in
set_option maxHeartbeats 8000000 in
theorem exprClo_any {s : ByteArray} {W : World} {r ob : Nat} (hR : RD W r (tkL s) 0 0) (hz : ZB W ob) (hob : ob + 1 < r) :
    Calls Tryz.prog 35 #[.pointer (some ⟨r, 0, none⟩), .pointer (some ⟨ob, 0, none⟩)] W (KP aloneF (OutE ob) s ob r W) := by
  have hT := tsok_of s
  have hlen := hT.len
  have hE : RuC 59 r (tkL s) 0 0 (exR (tkL s)) := (rules_all hT (tkL s).length 0 0 (by omega) (by omega)).1
  have HC := hide (alone_of (g := fun _ _ _ => .error (0, 0)) hT hE (Nat.zero_le 0) hR)
  have hrl := hR.rlt
  have HA := hide (And.intro hz (And.intro hob hrl))
  clear hR hz hob hT hlen hE hrl
  go_enter Tryz.func35, Tryz.ntmps35
  go_wp2_with fail
  refine (unhide HC).mono ?_
  intro e w3 h3
  obtain ⟨hz, hob, hrl⟩ := unhide HA
  rcases hX : aloneP (tkL s) 0 with ⟨i, n⟩ | ⟨t, q⟩
  · rw [hX] at h3
    obtain ⟨hb3, h3⟩ := h3
    obtain rfl : e = _ := h3
    have HQ := hide (And.intro hb3 hX)
    clear HC hz hob hrl hX hb3
    go_wp2
    obtain ⟨hb3, hX⟩ := unhide HQ
    refine ⟨rfl, ?_⟩
    unfold KP
    rw [aloneF_eq, hX]
    exact ⟨hb3, rfl⟩
  · rw [hX] at h3
    obtain ⟨hb3, hle, hR3, v, rfl, hv⟩ := h3
    obtain ⟨i0, i6, s1, s2, b3, a4, n4, c4, rfl⟩ := hv.form
    have hz3 : ZB w3 ob := hz.but hb3 (by omega)
    obtain ⟨y0, y1, y2, y3, y4, y5, y6⟩ := blk7 hz3
    obtain ⟨z0, z1, z2, z3, z4, z5, z6⟩ := frz7 hz3
    have HQ := hide (And.intro hb3 (And.intro hX (And.intro hv (And.intro hz3 (And.intro hob hrl)))))
    clear HC hz hob hrl hX hb3 hle hR3 hv hz3
    go_wp2
    obtain ⟨hb3, hX, hv, hz3, hob, hrl⟩ := unhide HQ
    refine bodyPost_end (results_none rfl _ _ _) rfl ?_
    unfold KP
    rw [aloneF_eq, hX]
    have k1 := fill7 (x0 := .int .i64 i0) (x1 := .string s1) (x2 := .string s2) (x3 := .bool b3) (x4 := .slice a4 n4 c4) (x5 := .int .i64 0) (x6 := .int .i64 i6) hz3
    have k3 := hv.keep (lo' := ob + 2) (stays7 (lo := W.heap.size) (Stays.of (Below.refl w3.heap.size w3)) (show ob < W.heap.size by omega) (.int .i64 i0) (.string s1) (.string s2) (.bool b3) (.slice a4 n4 c4) (.int .i64 0) (.int .i64 i6)) (by omega)
    have k4 := ((((((((Bu.of_but (q := ob) hb3).set 0 (.int .i64 i0)).set 1 (.string s1)).set 2 (.string s2)).set 3 (.bool b3)).set 4 (.slice a4 n4 c4)).set 5 (.int .i64 0)).set 6 (.int .i64 i6))
    exact ⟨rfl, k4, _, _, _, _, _, _, _, k1, k3⟩
end Go.Proofs.YtfkfnbehdcmgeaaGreatDoor

/- Package parse: Expr, whole. -/
namespace Go.Proofs.YtfkfnbehdcmgeaaGreatDoor
open Go Go.RowKit
set_option maxRecDepth 100000 in
set_option maxHeartbeats 8000000 in
theorem pexpr_any (s : ByteArray) (w : World) (hG : SG w) : Calls Tryz.prog 17 #[.string s] w (ExprP s w) := by
  obtain ⟨A, eA, hbA, hzA, hsA⟩ := zb_new w
  have h1w := hG.lt
  have HC := hide (pread_any (k := 35) (ob := w.heap.size) (X := aloneF) (Φ := OutE w.heap.size) s A (hG.below hbA h1w) ⟨fun xs w => by go_simp⟩ (by omega)
    (fun w1 w2 t hb hs h => by
      obtain ⟨x0, x1, x2, x3, x4, x5, x6, h1, h2⟩ := h
      exact ⟨x0, x1, x2, x3, x4, x5, x6, (hb.block _ (blk h1).1 (by omega)).trans h1, h2.keep (Stays.but hb (by omega)) (Nat.le_refl _)⟩)
    (fun W r hb hr hR => exprClo_any hR ((hb.block _ (by omega)).trans hzA) (by omega)))
  have hmf : ∀ (fn : Fn) (first cap : Array Value) (w : World), (Instr.makeFunc fn first cap).run Tryz.prog w = .ok (.func fn first cap) w := fun _ _ _ _ => rfl
  have HA := hide (And.intro hbA (And.intro hzA hsA))
  have HE := hide eA
  clear hbA hzA hsA eA hG h1w
  go_enter Tryz.func17, Tryz.ntmps17
  go_wp2_with fail
  rw [unhide HE]
  refine (unhide HC).mono ?_
  intro e w3 h3
  obtain ⟨hbA, hzA, hsA⟩ := unhide HA
  have bad9 : ∀ (i n : Int) (v : Value), exprS s = .error (i, n) → Below A.heap.size A w3 → e = .returned v → PErr w3 v i n → ∃ b, v = .iface 61 (.pointer (some ⟨b, 0, none⟩)) ∧ b ≠ w.heap.size := fun i n v _ hb _ ⟨b, hv, hh⟩ => ⟨b, hv, fun e => by
    subst e
    have := (hb.block _ (by omega)).trans hzA
    rw [this] at hh
    cases hh⟩
  unfold ReadP at h3
  rcases hS : exprS s with ⟨i, n⟩ | t
  · have h4 : Below A.heap.size A w3 ∧ ∃ v, e = .returned v ∧ PErr w3 v i n := by
      unfold exprS at hS
      rcases hn : (tk s).2 with _ | ⟨a, m⟩
      · rw [hn] at hS h3
        rcases hX : aloneF (tkL s) with ⟨a, m⟩ | ⟨t, q⟩
        · rw [hX] at hS h3
          obtain ⟨rfl, rfl⟩ : a = i ∧ m = n := by simpa using hS
          exact h3
        · rw [hX] at hS
          cases hS
      · rw [hn] at hS h3
        obtain ⟨rfl, rfl⟩ : (a : Int) = i ∧ (m : Int) = n := by simpa using hS
        exact h3
    obtain ⟨hb, v, rfl, hP⟩ := h4
    obtain ⟨b, rfl, hne⟩ := bad9 i n v hS hb rfl hP
    have hz3 := (hb.block _ (by omega)).trans hzA
    obtain ⟨y0, y1, y2, y3, y4, y5, y6⟩ := blk7 hz3
    obtain ⟨z0, z1, z2, z3, z4, z5, z6⟩ := frz7 hz3
    have HQ := hide (And.intro hb (And.intro hP (And.intro hz3 (And.intro hne (And.intro hS (And.intro hbA hsA))))))
    clear HC h3 bad9 hS hb hP hne hz3 hbA hzA hsA
    go_wp2
    obtain ⟨hb, hP, hz3, hne, hS, hbA, hsA⟩ := unhide HQ
    refine bodyPost_ret (results_two rfl rfl (run_loadVar_mid _ _ _ _ _ _ (range_block (fill7 hz3)) Tryz.underlying36 rfl (by kernel_rfl)) rfl) rfl ?_
    unfold ExprP
    rw [hS]
    obtain ⟨b2, e2, hd⟩ := hP
    obtain rfl : b = b2 := by simpa using e2
    refine ⟨below_set (below_set (below_set (below_set (below_set (below_set (below_set (hbA.trans (hb.mono (by omega))) (Nat.le_refl _) _ _) (Nat.le_refl _) _ _) (Nat.le_refl _) _ _) (Nat.le_refl _) _ _) (Nat.le_refl _) _ _) (Nat.le_refl _) _ _) (Nat.le_refl _) _ _, _, rfl, b, rfl, (same7 hne _ _ _ _ _ _ _).trans hd⟩
  · have h4 : e = .returned .nilIface ∧ But w.heap.size A w3 ∧ OutE w.heap.size w3 t := by
      unfold exprS at hS
      rcases hn : (tk s).2 with _ | ⟨a, m⟩
      · rw [hn] at hS h3
        rcases hX : aloneF (tkL s) with ⟨a, m⟩ | ⟨t2, q⟩
        · rw [hX] at hS
          cases hS
        · rw [hX] at hS h3
          obtain rfl : t2 = t := by simpa using hS
          exact h3
      · rw [hn] at hS
        cases hS
    obtain ⟨rfl, hb, x0, x1, x2, x3, x4, x5, x6, hz3, hv⟩ := h4
    obtain ⟨i0, i6, s1, s2, b3, a4, n4, c4, ev⟩ := hv.form
    obtain ⟨rfl, rfl, rfl, rfl, rfl, rfl, rfl⟩ : x0 = .int .i64 i0 ∧ x1 = .string s1 ∧ x2 = .string s2 ∧ x3 = .bool b3 ∧ x4 = .slice a4 n4 c4 ∧ x5 = .int .i64 0 ∧ x6 = .int .i64 i6 := by simpa using ev
    obtain ⟨y0, y1, y2, y3, y4, y5, y6⟩ := blk7 hz3
    obtain ⟨z0, z1, z2, z3, z4, z5, z6⟩ := frz7 hz3
    have HQ := hide (And.intro hb (And.intro hv (And.intro hz3 (And.intro hS (And.intro hbA hsA)))))
    clear HC h3 bad9 hS hb hv hz3 hbA hzA hsA ev
    go_wp2
    obtain ⟨hb, hv, hz3, hS, hbA, hsA⟩ := unhide HQ
    refine bodyPost_ret (results_two rfl rfl (run_loadVar_mid _ _ _ _ _ _ (range_block (fill7 hz3)) Tryz.underlying36 rfl (by kernel_rfl)) rfl) rfl ?_
    unfold ExprP
    rw [hS]
    have hb9 : Below w.heap.size w w3 := ⟨hb.os.trans hbA.os, hb.tape.trans hbA.tape, hb.output.trans hbA.output, Nat.le_trans hbA.size hb.size, fun j hj => (hb.block j (by omega) (by omega)).trans (hbA.block j hj)⟩
    exact ⟨below7 hb9 (Nat.le_refl _) _ _ _ _ _ _ _, _, rfl, hv.keep (stays7 (lo := w.heap.size + 2) (Stays.of (Below.refl _ _)) (by omega) _ _ _ _ _ _ _) (by omega)⟩
end Go.Proofs.YtfkfnbehdcmgeaaGreatDoor

/- Package parse: words of effects and kinds. -/
namespace Go.Proofs.YtfkfnbehdcmgeaaGreatDoor
open Go Go.RowKit
set_option maxRecDepth 100000 in
set_option maxHeartbeats 16000000 in
theorem effOf_eq (s : ByteArray) (w : World) : Calls Tryz.prog 106 #[.string s] w (fun e w' => e = .returned (.int .i64 (effD s)) ∧ w' = w) := by
  obtain ⟨o, ho⟩ : ∃ o, effD s = o := ⟨_, rfl⟩
  rw [ho]
  unfold effD at ho
  simp only [eqb s ⟨#[80, 117, 114, 101]⟩ [80, 117, 114, 101] rfl, eqb s ⟨#[83, 116, 97, 116, 101]⟩ [83, 116, 97, 116, 101] rfl, eqb s ⟨#[69, 120, 110]⟩ [69, 120, 110] rfl, eqb s ⟨#[65, 108, 108]⟩ [65, 108, 108] rfl, eqb s ⟨#[68, 105, 118]⟩ [68, 105, 118] rfl] at ho
  replace ho := hide ho
  go_enter Tryz.func106, Tryz.ntmps106
  go_wp2_with fail
  all_goals
    go_ret
    refine ⟨?_, rfl⟩
    have ho2 := unhide ho
    simp only [*, if_true, if_false, Bool.false_eq_true] at ho2
    rw [← ho2]
    rfl
theorem effOf_any (s : ByteArray) (w : World) : Calls Tryz.prog 106 #[.string s] w (VP (.int .i64 (effD s)) w) := (effOf_eq s w).mono fun _ _ h => ⟨h.1, by rw [h.2]; exact Below.refl _ _⟩
set_option maxRecDepth 100000 in
set_option maxHeartbeats 16000000 in
theorem kindOf_eq (s : ByteArray) (w : World) : Calls Tryz.prog 108 #[.string s] w (fun e w' => e = .returned (.int .i64 (kindD s)) ∧ w' = w) := by
  obtain ⟨o, ho⟩ : ∃ o, kindD s = o := ⟨_, rfl⟩
  rw [ho]
  unfold kindD at ho
  simp only [eqb s ⟨#[105, 110, 116]⟩ [105, 110, 116] rfl, eqb s ⟨#[98, 111, 111, 108]⟩ [98, 111, 111, 108] rfl, eqb s ⟨#[117, 110, 105, 116]⟩ [117, 110, 105, 116] rfl] at ho
  replace ho := hide ho
  go_enter Tryz.func108, Tryz.ntmps108
  go_wp2_with fail
  all_goals
    go_ret
    refine ⟨?_, rfl⟩
    have ho2 := unhide ho
    simp only [*, if_true, if_false, Bool.false_eq_true] at ho2
    rw [← ho2]
    rfl
theorem kindOf_any (s : ByteArray) (w : World) : Calls Tryz.prog 108 #[.string s] w (VP (.int .i64 (kindD s)) w) := (kindOf_eq s w).mono fun _ _ h => ⟨h.1, by rw [h.2]; exact Below.refl _ _⟩
theorem effD_txt {s : ByteArray} (h : effD s ≠ 0) : s ≠ ⟨#[]⟩ := fun e => h (by subst e; decide)
theorem kindD_txt {s : ByteArray} (h : kindD s ≠ 0) : s ≠ ⟨#[]⟩ := fun e => h (by subst e; decide)
def InOk (_ : World) (v : Value) (x : Int) : Prop := v = .int .i64 x
set_option maxRecDepth 100000 in
set_option maxHeartbeats 4000000 in
theorem effect_any {w : World} {r p d : Nat} {ts : List (Int × ByteArray × Int)} (hR : RD w r ts p d) (hT : TsOk ts) : Calls Tryz.prog 90 #[.pointer (some ⟨r, 0, none⟩)] w (RP InOk (effR ts p) r ts p d w) := by
  have HS := hide (next_any hR hT)
  obtain ⟨X, hX⟩ : ∃ X, effR ts p = X := ⟨_, rfl⟩
  rw [hX]
  unfold effR txt at hX
  have hlen : effD (nx ts p).2.1 ≠ 0 → p + 1 < ts.length := fun h => nx_txt hT hR.lt (effD_txt h)
  have HT := hide (And.intro hR (And.intro hT hlen))
  unfold tkV at HS
  obtain ⟨⟨kk, T, i⟩, hN⟩ : ∃ Y, nx ts p = Y := ⟨_, rfl⟩
  rw [hN] at HS hX
  have h1 := fld1 (.int .i64 kk) (.string T) (.int .i64 i)
  obtain ⟨o, ho⟩ : ∃ o, effD T = o := ⟨_, rfl⟩
  have HO := effOf_any T
  rw [ho] at HO
  replace HO := hide HO
  have HA := hide (And.intro hX (And.intro hN ho))
  clear hR hT hX hN hlen ho
  by_cases ho0 : o = 0
  · subst ho0
    go_enter Tryz.func90, Tryz.ntmps90
    go_wp2_with fail
    refine (unhide HS).mono ?_
    rintro e w2 ⟨rfl, hb2⟩
    have HB2 := hide hb2
    clear hb2 HS
    go_wp2_with fail
    refine (unhide HO w2).mono ?_
    rintro e w3 ⟨rfl, hb3⟩
    have HRf := hide (refused_any (((unhide HT).1.keep (unhide HB2)).keep hb3) (unhide HT).2.1 150)
    have HB3 := hide hb3
    clear hb3
    go_wp2_with fail
    refine (unhide HRf).mono ?_
    rintro e w4 ⟨rfl, hb4⟩
    have HB4 := hide hb4
    clear hb4 HRf
    go_wp2
    obtain ⟨hX, hN, ho⟩ := unhide HA
    rw [if_pos ho] at hX
    obtain rfl := hX
    refine ⟨rfl, (But.of (unhide HB2)).trans ((But.of (unhide HB3)).trans (But.of (unhide HB4))), ?_⟩
    show Ref _ _ _
    rw [show (nx ts p).2.2 = i from by rw [hN]]
    rfl
  · have g0 : (o == 0) = false := by simpa using ho0
    have g1 : decide (o = 0) = false := by simpa using ho0
    go_enter Tryz.func90, Tryz.ntmps90
    go_wp2_with fail
    refine (unhide HS).mono ?_
    rintro e w2 ⟨rfl, hb2⟩
    have HB2 := hide hb2
    clear hb2 HS
    go_wp2_with fail
    refine (unhide HO w2).mono ?_
    rintro e w3 ⟨rfl, hb3⟩
    have HTk := hide (take_any (((unhide HT).1.keep (unhide HB2)).keep hb3) (unhide HT).2.1 ((unhide HT).2.2 (by rw [(unhide HA).2.1]; show effD T ≠ 0; rw [(unhide HA).2.2]; exact ho0)))
    have HB3 := hide hb3
    clear hb3
    go_wp2_with fail
    refine (unhide HTk).mono ?_
    rintro e w4 ⟨rfl, hb4, hR4⟩
    have HB4 := hide (And.intro hb4 hR4)
    clear hb4 hR4 HTk
    go_wp2
    obtain ⟨hX, hN, ho⟩ := unhide HA
    rw [if_neg (by rw [ho]; exact ho0), ho] at hX
    obtain rfl := hX
    refine bodyPost_ret (results_tmp rfl _ _ _) rfl ?_
    exact ⟨(But.of (unhide HB2)).trans ((But.of (unhide HB3)).trans (unhide HB4).1), Nat.le_succ _, (unhide HB4).2, _, rfl, rfl⟩
end Go.Proofs.YtfkfnbehdcmgeaaGreatDoor

/- Package parse: types, parameters, declarations as they lie. -/
namespace Go.Proofs.YtfkfnbehdcmgeaaGreatDoor
open Go Go.RowKit
/-- Cells are written one behind the other. -/
def setN (W : World) (q : Nat) : Nat → List Value → World
  | _, [] => W
  | o, x :: cs => setN (W.setCell ⟨q, o, none⟩ x) q (o + 1) cs
theorem But.setN {r q : Nat} {w : World} : ∀ (cs : List Value) (A : World) (o : Nat), But r w A → w.heap.size ≤ q → But r w (setN A q o cs)
  | [], _, _, h, _ => h
  | x :: cs, A, o, h, hq => But.setN cs _ (o + 1) (but_new h hq o x) hq
theorem Stays.setN {lo q : Nat} {w : World} : ∀ (cs : List Value) (A : World) (o : Nat), Stays lo w A → q < lo → Stays lo w (setN A q o cs)
  | [], _, _, h, _ => h
  | x :: cs, A, o, h, hq => Stays.setN cs _ (o + 1) (h.set hq o x) hq
theorem Bu.setN {q r : Nat} {w : World} : ∀ (cs : List Value) (A : World) (o : Nat), Bu q r w A → Bu q r w (setN A q o cs)
  | [], _, _, h => h
  | x :: cs, A, o, h => Bu.setN cs _ (o + 1) (h.set o x)
theorem heap_setN {q k : Nat} (h : k ≠ q) : ∀ (cs : List Value) (A : World) (o : Nat), (setN A q o cs).heap[k]? = A.heap[k]?
  | [], _, _ => rfl
  | x :: cs, A, o => (heap_setN h cs _ (o + 1)).trans (heap_set o x h)
theorem blk_setN {q : Nat} {ty : TypeId} : ∀ (cs : List Value) (A : World) (o : Nat) (xs : List Value), A.heap[q]? = some (.cells xs.toArray ty) → o + cs.length ≤ xs.length → (setN A q o cs).heap[q]? = some (.cells (xs.take o ++ cs ++ xs.drop (o + cs.length)).toArray ty)
  | [], A, o, xs, h, _ => by
    simp only [List.append_nil, List.length_nil, Nat.add_zero, List.take_append_drop]
    exact h
  | x :: cs, A, o, xs, h, hl => by
    have hl' : o + 1 + cs.length ≤ xs.length := by simpa [Nat.add_assoc, Nat.add_comm 1] using hl
    have h2 := blk_setN (ty := ty) cs (A.setCell ⟨q, o, none⟩ x) (o + 1) (xs.set o x) (by rw [set_block h x]; simp) (by simpa using hl')
    rw [show setN A q o (x :: cs) = setN (A.setCell ⟨q, o, none⟩ x) q (o + 1) cs from rfl, h2]
    have ho : o < xs.length := by omega
    have e1 : (xs.set o x).take (o + 1) = xs.take o ++ [x] := by
      rw [List.take_add_one, List.take_set_of_le (Nat.le_refl _)]
      simp [ho]
    have e2 : (xs.set o x).drop (o + 1 + cs.length) = xs.drop (o + 1 + cs.length) := by
      rw [List.drop_set_of_lt (by omega)]
    rw [e1, e2]
    simp [Nat.add_assoc, Nat.add_comm 1]
theorem blk_all {q : Nat} {ty : TypeId} {A : World} {cs xs : List Value} (h : A.heap[q]? = some (.cells xs.toArray ty)) (hl : cs.length = xs.length) : (setN A q 0 cs).heap[q]? = some (.cells cs.toArray ty) := by
  rw [blk_setN cs A 0 xs h (by omega)]
  simp [hl]
theorem size_setN {q : Nat} : ∀ (cs : List Value) (A : World) (o : Nat), (setN A q o cs).heap.size = A.heap.size
  | [], _, _ => rfl
  | x :: cs, A, o => (size_setN cs _ (o + 1)).trans (by simp)
theorem RD.setN {r p d q : Nat} {ts : List (Int × ByteArray × Int)} {A : World} (hR : RD A r ts p d) (hq : r < q) (o : Nat) (cs : List Value) : RD (setN A q o cs) r ts p d := by
  obtain ⟨⟨g, c, h1, h2, h3, h4⟩, h5⟩ := hR
  exact ⟨⟨g, c, (heap_setN (by omega) cs A o).trans h1, h2, h3, fun j x hx => range_same (h4 j x hx) (heap_setN (by omega) cs A o)⟩, h5⟩
theorem zkeep {w w' : World} {q r : Nat} {cs : Array Value} {ty : TypeId} (h : w.heap[q]? = some (.cells cs ty)) (hb : But r w w') (hr : r ≠ q) : w'.heap[q]? = some (.cells cs ty) := (hb.block q (blk h).1 (Ne.symm hr)).trans h
/-- A row of rows of k cells. -/
def IsRow (w : World) (k lo : Nat) (v : Value) (n : Nat) (p : Nat → List Value → Prop) : Prop := ∃ a c, v = .slice a n c ∧ n ≤ c ∧ n ≤ 1000000 ∧ (n ≠ 0 → ∃ b off, a = some ⟨b, off, none⟩ ∧ lo ≤ b ∧ b < w.heap.size ∧ ∀ j, j < n → ∃ cs, w.rangeAt b (off + j * k) cs ∧ p j cs)
theorem IsRow.keep {w w' : World} {k lo lo' n : Nat} {v : Value} {p q : Nat → List Value → Prop} (h : IsRow w k lo v n p) (hb : Stays lo w w') (hl : lo' ≤ lo) (hp : ∀ j cs, p j cs → q j cs) : IsRow w' k lo' v n q := by
  obtain ⟨a, c, e, h1, h2, h3⟩ := h
  refine ⟨a, c, e, h1, h2, fun h0 => ?_⟩
  obtain ⟨b, off, e2, h4, h5, h6⟩ := h3 h0
  refine ⟨b, off, e2, Nat.le_trans hl h4, Nat.lt_of_lt_of_le h5 hb.1, fun j hj => ?_⟩
  obtain ⟨cs, h7, h8⟩ := h6 j hj
  exact ⟨cs, range_same h7 (hb.2 b h4 h5), hp j cs h8⟩
/-- A type's cells. -/
def IsTy (w : World) (lo : Nat) (cs : List Value) (t : Ty) : Prop := ∃ a n c, cs = [.int .i64 t.kind, .string t.name, .slice a n c, .int .i64 t.at'] ∧ IsLs w lo (.slice a n c) t.r
theorem IsTy.keep {w w' : World} {lo lo' : Nat} {cs : List Value} {t : Ty} (h : IsTy w lo cs t) (hb : Stays lo w w') (hl : lo' ≤ lo) : IsTy w' lo' cs t := by
  obtain ⟨a, n, c, e, h⟩ := h
  exact ⟨a, n, c, e, h.keep hb hl⟩
/-- A type as a value. -/
def TyV (w : World) (lo : Nat) (v : Value) (t : Ty) : Prop := ∃ a n c, v = .agg #[.int .i64 t.kind, .string t.name, .slice a n c, .int .i64 t.at'] ∧ IsLs w lo (.slice a n c) t.r
theorem TyV.keep (w w' : World) (lo lo' : Nat) (v : Value) (t : Ty) (h : TyV w lo v t) (hb : Stays lo w w') (hl : lo' ≤ lo) : TyV w' lo' v t := by
  obtain ⟨a, n, c, e, h⟩ := h
  exact ⟨a, n, c, e, h.keep hb hl⟩
/-- A parameter's cells. -/
def IsPm (w : World) (lo : Nat) (cs : List Value) (x : Pm) : Prop := ∃ a n c, cs = [.string x.name, .int .i64 x.t.kind, .string x.t.name, .slice a n c, .int .i64 x.t.at', .int .i64 x.at'] ∧ IsLs w lo (.slice a n c) x.t.r
theorem IsPm.keep {w w' : World} {lo lo' : Nat} {cs : List Value} {t : Pm} (h : IsPm w lo cs t) (hb : Stays lo w w') (hl : lo' ≤ lo) : IsPm w' lo' cs t := by
  obtain ⟨a, n, c, e, h⟩ := h
  exact ⟨a, n, c, e, h.keep hb hl⟩
/-- A row of parameters. -/
def IsPs (w : World) (lo : Nat) (v : Value) (l : List Pm) : Prop := IsRow w 6 lo v l.length fun j cs => ∀ x, l[j]? = some x → IsPm w lo cs x
theorem IsPs.keep {w w' : World} {lo lo' : Nat} {v : Value} {l : List Pm} (h : IsPs w lo v l) (hb : Stays lo w w') (hl : lo' ≤ lo) : IsPs w' lo' v l := IsRow.keep h hb hl fun _ _ h x hx => (h x hx).keep hb hl
/-- A declaration's cells. -/
structure DeV where
  pa : Option Addr
  pn : Nat
  pc : Nat
  ta : Option Addr
  tn : Nat
  tc : Nat
  ra : Option Addr
  rn : Nat
  rc : Nat
  ea : Option Addr
  en : Nat
  ec : Nat
  ma : Option Addr
  mn : Nat
  mc : Nat
  ba : Option Addr
  bn : Nat
  bc : Nat
def deCells (d : De) (x : DeV) : List Value := [.bool d.cell, .string d.name, .string d.num, .bool d.again, .slice x.pa x.pn x.pc, .int .i64 d.eff, .int .i64 d.t.kind, .string d.t.name, .slice x.ta x.tn x.tc, .int .i64 d.t.at', .slice x.ra x.rn x.rc, .string d.res, .slice x.ea x.en x.ec, .slice x.ma x.mn x.mc, .int .i64 d.body.op, .string d.body.name, .string d.body.num, .bool d.body.b, .slice x.ba x.bn x.bc, .int .i64 0, .int .i64 d.body.at', .int .i64 d.at']
structure DeIn (w : World) (lo : Nat) (d : De) (x : DeV) : Prop where
  ps : IsPs w lo (.slice x.pa x.pn x.pc) d.ps
  ty : IsLs w lo (.slice x.ta x.tn x.tc) d.t.r
  req : IsLs w lo (.slice x.ra x.rn x.rc) d.req
  ens : IsLs w lo (.slice x.ea x.en x.ec) d.ens
  mea : IsLs w lo (.slice x.ma x.mn x.mc) d.mea
  body : IsLs w lo (.slice x.ba x.bn x.bc) d.body.l
theorem DeIn.keep {w w' : World} {lo lo' : Nat} {d : De} {x : DeV} (h : DeIn w lo d x) (hb : Stays lo w w') (hl : lo' ≤ lo) : DeIn w' lo' d x := ⟨h.ps.keep hb hl, h.ty.keep hb hl, h.req.keep hb hl, h.ens.keep hb hl, h.mea.keep hb hl, h.body.keep hb hl⟩
def IsDe (w : World) (lo : Nat) (cs : List Value) (d : De) : Prop := ∃ x, cs = deCells d x ∧ DeIn w lo d x
theorem IsDe.keep {w w' : World} {lo lo' : Nat} {cs : List Value} {d : De} (h : IsDe w lo cs d) (hb : Stays lo w w') (hl : lo' ≤ lo) : IsDe w' lo' cs d := by
  obtain ⟨x, e, h⟩ := h
  exact ⟨x, e, h.keep hb hl⟩
def IsDs (w : World) (lo : Nat) (v : Value) (l : List De) : Prop := IsRow w 22 lo v l.length fun j cs => ∀ x, l[j]? = some x → IsDe w lo cs x
theorem IsDs.keep {w w' : World} {lo lo' : Nat} {v : Value} {l : List De} (h : IsDs w lo v l) (hb : Stays lo w w') (hl : lo' ≤ lo) : IsDs w' lo' v l := IsRow.keep h hb hl fun _ _ h x hx => (h x hx).keep hb hl
theorem lsn {w : World} {lo : Nat} : IsLs w lo (.slice none 0 0) [] := ⟨0, none, 0, rfl, Nat.le_refl _, by simp, fun h => absurd rfl h⟩
theorem psn {w : World} {lo : Nat} : IsPs w lo (.slice none 0 0) [] := ⟨none, 0, rfl, Nat.le_refl _, by simp, fun h => absurd rfl h⟩
/-- An expression's row of operands. -/
theorem IsE.ls {w : World} {lo : Nat} {i0 i6 : Int} {s1 s2 : ByteArray} {b3 : Bool} {a4 : Option Addr} {n4 c4 : Nat} {t : Ex} (h : IsE w lo (.agg #[.int .i64 i0, .string s1, .string s2, .bool b3, .slice a4 n4 c4, .int .i64 0, .int .i64 i6]) t) : i0 = t.op ∧ s1 = t.name ∧ s2 = t.num ∧ b3 = t.b ∧ i6 = t.at' ∧ IsLs w lo (.slice a4 n4 c4) t.l := by
  obtain ⟨op, nm, nu, bl, l, i⟩ := t
  obtain ⟨k, a, c, e, h2⟩ := h
  obtain ⟨rfl, rfl, rfl, rfl, ⟨rfl, rfl, rfl⟩, rfl⟩ : i0 = op ∧ s1 = nm ∧ s2 = nu ∧ b3 = bl ∧ (a4 = a ∧ n4 = l.length ∧ c4 = c) ∧ i6 = i := by simpa using e
  exact ⟨rfl, rfl, rfl, rfl, rfl, k, _, _, rfl, h2⟩
/-- A row of one expression. -/
theorem one_ls {w W : World} {lo : Nat} {x0 x1 x2 x3 x4 x5 x6 : Value} {t : Ex} (h : IsE w lo (.agg #[x0, x1, x2, x3, x4, x5, x6]) t) (eW : w.alloc (.cells #[x0, x1, x2, x3, x4, x5, x6] 36) = W) (hlo : lo ≤ w.heap.size) : IsLs W lo (.slice (some ⟨w.heap.size, 0, none⟩) 1 1) [t] :=
  (node (l := [t]) (vs := [[x0, x1, x2, x3, x4, x5, x6]]) 0 0 ⟨#[]⟩ ⟨#[]⟩ false eW rfl (by simp) rfl (by simp) hlo (fun j v t' hv ht => by
    rcases j with _ | j
    · obtain rfl := Option.some.inj hv
      obtain rfl := Option.some.inj ht
      exact h
    · simp at hv)).ls.2.2.2.2.2
/-- A rule hands back what it was handed: a result in a box. -/
theorem ret_row {α : Type} {Φ : World → Nat → Value → α → Prop} (hΦ : ∀ w w' lo lo' v t, Φ w lo v t → Stays lo w w' → lo' ≤ lo → Φ w' lo' v t) {fn : Func} {a : Act} {tt : Nat} {w w3 : World} {r p q d lo : Nat} {ts : List (Int × ByteArray × Int)} {t : α} {Y : (Except (Int × Int) (α × Nat))} {xs cs : List Value} {ty : TypeId} {dd : TypeDesc} (hf : fn.results = #[.cell tt ty]) (ht : a.tmps[tt]? = some (.pointer (some ⟨w.heap.size, 0, none⟩))) (hdf : a.defers = []) (hbu : But r w w3) (hr : r < w.heap.size) (hz : w3.heap[w.heap.size]? = some (.cells xs.toArray ty)) (hl : cs.length = xs.length) (hu : Tryz.prog.underlying ty = some dd) (hd : dd.isRow = true) (hi : (Tryz.prog.info? ty).map (·.size) = some cs.length) (hY : Y = .ok (t, q)) (hpq : p ≤ q) (hR : RD w3 r ts q d) (hlo : w.heap.size < lo) (hv : Φ w3 lo (.agg cs.toArray) t) :
    bodyPost Tryz.prog fn (RP (fun w' v t => Φ w' w.heap.size v t) Y r ts p d w) .ret a (setN w3 w.heap.size 0 cs) := by
  subst hY
  refine bodyPost_ret (res_row (cs := cs) hf ht (range_block (blk_all hz hl)) hu hd hi) hdf ?_
  refine ⟨But.setN cs w3 0 hbu (Nat.le_refl _), hpq, ?_, _, rfl, hΦ _ _ _ _ _ _ hv (Stays.setN cs w3 0 (Stays.of (Below.refl _ _)) hlo) (by omega)⟩
  obtain ⟨⟨g, c, h1, h2, h3, h4⟩, h5⟩ := hR
  refine ⟨⟨g, c, (heap_setN (by omega) cs w3 0).trans h1, h2, h3, fun j x hx => range_same (h4 j x hx) (heap_setN (by omega) cs w3 0)⟩, h5⟩
end Go.Proofs.YtfkfnbehdcmgeaaGreatDoor

namespace Go.Proofs.YtfkfnbehdcmgeaaGreatDoor
open Go Go.RowKit
set_option maxRecDepth 100000 in
set_option maxHeartbeats 8000000 in
theorem refinement_of {r d lo : Nat} {ts : List (Int × ByteArray × Int)} (hT : TsOk ts) (hE : RuC 59 r ts d lo (exR ts)) {w : World} {p : Nat} (hlo : lo ≤ p) (hp1 : p + 1 < ts.length) (hR : RD w r ts p d) : Calls Tryz.prog 107 #[.pointer (some ⟨r, 0, none⟩)] w (RP (fun w' v t => TyV w' w.heap.size v t) (refR ts p) r ts p d w) := by
  obtain ⟨Y, hY⟩ : ∃ Y, refR ts p = Y := ⟨_, rfl⟩
  rw [hY]
  unfold refR at hY
  have hr := hR.rlt
  obtain ⟨A, eA, hbA, hsA, hzA⟩ := box_new w #[.int .i64 0, .string ⟨#[]⟩, .slice none 0 0, .int .i64 0] 54
  have HB := hide (But.of (r := r) hbA)
  have HR := hide (hR.keep hbA)
  have HZ := hide hzA
  have HS : Hid (w.heap.size < A.heap.size) := by show _ < _; omega
  have HL : Hid (p ≤ p ∧ lo ≤ p) := ⟨Nat.le_refl _, hlo⟩
  have HSA := hide hsA
  have HE := hide eA
  have HT := hide hT
  have HY := hide hY
  have hrne : r ≠ w.heap.size := by omega
  replace hE := hide hE
  replace hp1 := hide hp1
  clear hlo hR hbA hzA hsA eA hT hY
  go_enter Tryz.func107, Tryz.ntmps107
  have HC0 := hide (take_any (unhide HR) (unhide HT) (unhide hp1))
  unfold tkV at HC0
  obtain ⟨⟨kk0, T0, at0⟩, hN0⟩ : ∃ X, nx ts p = X := ⟨_, rfl⟩
  rw [hN0] at HC0
  have HN0 := hide hN0
  clear hN0
  go_wp2_with fail
  rw [unhide HE]
  refine (unhide HC0).mono ?_
  rintro e w0 ⟨rfl, hb0, hR0⟩
  replace HB := hide ((unhide HB).trans hb0)
  replace HZ := hide (zkeep (unhide HZ) hb0 hrne)
  replace HS := hide (Nat.lt_of_lt_of_le (unhide HS) hb0.size)
  replace HR := hide hR0
  replace HL : Hid (p ≤ p + 1 ∧ lo + 1 ≤ p + 1) := And.intro (Nat.le_succ_of_le (unhide HL).1) (Nat.succ_le_succ (unhide HL).2)
  clear hb0 hR0 HC0
  have hf2 := fld2 (.int .i64 kk0) (.string T0) (.int .i64 at0)
  obtain ⟨B1, eB1, hbB1, hsB1, hhB1⟩ := box_new w0 #[.int .i64 1, .string ⟨#[]⟩, .slice none 0 0, .int .i64 at0] 54
  have ne1 : r ≠ w0.heap.size := by have := unhide HS; omega
  have HQHX1 := HS
  have hbu2 := But.of (r := r) hbB1
  replace HR := hide ((unhide HR).keep hbB1)
  replace HB := hide ((unhide HB).trans hbu2)
  replace HZ := hide (zkeep (unhide HZ) hbu2 hrne)
  replace HS := hide (Nat.lt_of_lt_of_le (unhide HS) hbu2.size)
  have HX1 := hide hhB1
  have HEB1 := hide eB1
  have HSB1 := hide hsB1
  clear eB1 hbB1 hhB1 hsB1
  have hwq1 : w.heap.size < w0.heap.size := by have := unhide HQHX1; omega
  have HQ1 : Hid (w0.heap.size < B1.heap.size) := by show _ < _; have := unhide HSB1; omega
  have HC3 := hide (mustBe_any (unhide HR) (unhide HT) (k := 1) (by decide))
  go_wp2_with fail
  rw [unhide HEB1]
  refine (unhide HC3).mono ?_
  intro e w3 h3
  rcases hX3 : mustBeR ts 1 (p + 1) with er | ⟨t3, q3⟩
  · rw [hX3] at h3
    obtain ⟨ei, en⟩ := er
    have hYe : Y = .error (ei, en) := by have h := unhide HY; rw [hX3] at h; exact h.symm
    subst hYe
    obtain ⟨hb3, h3⟩ := h3
    obtain rfl : e = _ := h3
    have HP := hide ((unhide HB).trans hb3)
    clear hb3 HC3 hX3
    go_wp2
    exact ⟨rfl, unhide HP, rfl⟩
  rw [hX3] at h3
  obtain ⟨hb3, hle3, hR3, v3, rfl, hv3⟩ := h3
  have hY3 := unhide HY
  rw [hX3] at hY3
  simp only [thenR] at hY3
  replace HY := hide hY3
  clear hY3
  obtain ⟨kk3, T3, at3⟩ := t3
  obtain rfl : v3 = _ := hv3
  have hf03 := fld0 (.int .i64 kk3) (.string T3) (.int .i64 at3)
  have hf13 := fld1 (.int .i64 kk3) (.string T3) (.int .i64 at3)
  unfold tkV
  replace HB := hide ((unhide HB).trans hb3)
  replace HZ := hide (zkeep (unhide HZ) hb3 hrne)
  replace HX1 := hide (zkeep (unhide HX1) hb3 ne1)
  replace HS := hide (Nat.lt_of_lt_of_le (unhide HS) hb3.size)
  replace HQ1 := hide (Nat.lt_of_lt_of_le (unhide HQ1) hb3.size)
  replace HR := hide hR3
  replace HL := hide (And.intro (Nat.le_trans (unhide HL).1 hle3) (Nat.le_trans (unhide HL).2 hle3))
  clear hb3 hle3 hR3 HC3 hX3
  have st4_0 := (blk (unhide HX1)).2.1 1 _ rfl
  have sz4_0 := (blk (unhide HX1)).2.2 1
  obtain ⟨V4, eV4⟩ : ∃ V, (w3.setCell ⟨w0.heap.size, 1, none⟩ (.string T3)) = V := ⟨_, rfl⟩
  have eN4 : setN w3 w0.heap.size 1 [.string T3] = V4 := eV4
  replace HB := hide (by rw [← eN4]; exact But.setN [.string T3] w3 1 (unhide HB) (by omega) : But r w V4)
  replace HR := hide (by rw [← eN4]; exact (unhide HR).setN (by omega) 1 [.string T3] : RD V4 r ts (q3) d)
  replace HZ := hide (by rw [← eN4]; exact (heap_setN (by omega) [.string T3] w3 1).trans (unhide HZ) : V4.heap[w.heap.size]? = some (.cells #[.int .i64 0, .string ⟨#[]⟩, .slice none 0 0, .int .i64 0] 54))
  replace HX1 := hide (by rw [← eN4]; exact blk_setN [.string T3] w3 1 [.int .i64 1, .string ⟨#[]⟩, .slice none 0 0, .int .i64 at0] (unhide HX1) (by simp) : V4.heap[w0.heap.size]? = some (.cells #[.int .i64 1, .string T3, .slice none 0 0, .int .i64 at0] 54))
  have hsz4 : V4.heap.size = w3.heap.size := by rw [← eN4]; exact size_setN [.string T3] w3 1
  replace HS := hide (by rw [hsz4]; exact unhide HS : w.heap.size < V4.heap.size)
  replace HQ1 := hide (by rw [hsz4]; exact unhide HQ1 : w0.heap.size < V4.heap.size)
  have HEV4 := hide eV4
  replace hsz4 := hide hsz4
  clear eV4 eN4
  have HC5 := hide (must_any (unhide HR) (unhide HT) (s := ⟨#[58]⟩) (by decide))
  go_wp2_with fail
  rw [unhide HEV4]
  refine (unhide HC5).mono ?_
  intro e w5 h5
  rcases hX5 : mustR ts ⟨#[58]⟩ (q3) with er | ⟨t5, q5⟩
  · rw [hX5] at h5
    obtain ⟨ei, en⟩ := er
    have hYe : Y = .error (ei, en) := by have h := unhide HY; rw [hX5] at h; exact h.symm
    subst hYe
    obtain ⟨hb5, h5⟩ := h5
    obtain rfl : e = _ := h5
    have HP := hide ((unhide HB).trans hb5)
    clear hb5 HC5 hX5
    go_wp2
    exact ⟨rfl, unhide HP, rfl⟩
  rw [hX5] at h5
  obtain ⟨hb5, hle5, hR5, v5, rfl, hv5⟩ := h5
  have hY5 := unhide HY
  rw [hX5] at hY5
  simp only [thenR] at hY5
  replace HY := hide hY5
  clear hY5
  obtain rfl : v5 = _ := hv5
  replace HB := hide ((unhide HB).trans hb5)
  replace HZ := hide (zkeep (unhide HZ) hb5 hrne)
  replace HX1 := hide (zkeep (unhide HX1) hb5 ne1)
  replace HS := hide (Nat.lt_of_lt_of_le (unhide HS) hb5.size)
  replace HQ1 := hide (Nat.lt_of_lt_of_le (unhide HQ1) hb5.size)
  replace HR := hide hR5
  replace HL := hide (And.intro (Nat.le_trans (unhide HL).1 hle5) (Nat.le_trans (unhide HL).2 hle5))
  clear hb5 hle5 hR5 HC5 hX5
  have HC6 := hide (must_any (unhide HR) (unhide HT) (s := ⟨#[105, 110, 116]⟩) (by decide))
  go_wp2_with fail
  refine (unhide HC6).mono ?_
  intro e w6 h6
  rcases hX6 : mustR ts ⟨#[105, 110, 116]⟩ (q5) with er | ⟨t6, q6⟩
  · rw [hX6] at h6
    obtain ⟨ei, en⟩ := er
    have hYe : Y = .error (ei, en) := by have h := unhide HY; rw [hX6] at h; exact h.symm
    subst hYe
    obtain ⟨hb6, h6⟩ := h6
    obtain rfl : e = _ := h6
    have HP := hide ((unhide HB).trans hb6)
    clear hb6 HC6 hX6
    go_wp2
    exact ⟨rfl, unhide HP, rfl⟩
  rw [hX6] at h6
  obtain ⟨hb6, hle6, hR6, v6, rfl, hv6⟩ := h6
  have hY6 := unhide HY
  rw [hX6] at hY6
  simp only [thenR] at hY6
  replace HY := hide hY6
  clear hY6
  obtain rfl : v6 = _ := hv6
  replace HB := hide ((unhide HB).trans hb6)
  replace HZ := hide (zkeep (unhide HZ) hb6 hrne)
  replace HX1 := hide (zkeep (unhide HX1) hb6 ne1)
  replace HS := hide (Nat.lt_of_lt_of_le (unhide HS) hb6.size)
  replace HQ1 := hide (Nat.lt_of_lt_of_le (unhide HQ1) hb6.size)
  replace HR := hide hR6
  replace HL := hide (And.intro (Nat.le_trans (unhide HL).1 hle6) (Nat.le_trans (unhide HL).2 hle6))
  clear hb6 hle6 hR6 HC6 hX6
  have HC7 := hide (must_any (unhide HR) (unhide HT) (s := ⟨#[124]⟩) (by decide))
  go_wp2_with fail
  refine (unhide HC7).mono ?_
  intro e w7 h7
  rcases hX7 : mustR ts ⟨#[124]⟩ (q6) with er | ⟨t7, q7⟩
  · rw [hX7] at h7
    obtain ⟨ei, en⟩ := er
    have hYe : Y = .error (ei, en) := by have h := unhide HY; rw [hX7] at h; exact h.symm
    subst hYe
    obtain ⟨hb7, h7⟩ := h7
    obtain rfl : e = _ := h7
    have HP := hide ((unhide HB).trans hb7)
    clear hb7 HC7 hX7
    go_wp2
    exact ⟨rfl, unhide HP, rfl⟩
  rw [hX7] at h7
  obtain ⟨hb7, hle7, hR7, v7, rfl, hv7⟩ := h7
  have hY7 := unhide HY
  rw [hX7] at hY7
  simp only [thenR] at hY7
  replace HY := hide hY7
  clear hY7
  obtain rfl : v7 = _ := hv7
  replace HB := hide ((unhide HB).trans hb7)
  replace HZ := hide (zkeep (unhide HZ) hb7 hrne)
  replace HX1 := hide (zkeep (unhide HX1) hb7 ne1)
  replace HS := hide (Nat.lt_of_lt_of_le (unhide HS) hb7.size)
  replace HQ1 := hide (Nat.lt_of_lt_of_le (unhide HQ1) hb7.size)
  replace HR := hide hR7
  replace HL := hide (And.intro (Nat.le_trans (unhide HL).1 hle7) (Nat.le_trans (unhide HL).2 hle7))
  clear hb7 hle7 hR7 HC7 hX7
  have HC8 := hide (unhide hE w7 (q7) (by have := (unhide HL).2; omega) (unhide HR))
  go_wp2_with fail
  refine (unhide HC8).mono ?_
  intro e w8 h8
  rcases hX8 : exR ts (q7) with er | ⟨t8, q8⟩
  · rw [hX8] at h8
    obtain ⟨ei, en⟩ := er
    have hYe : Y = .error (ei, en) := by have h := unhide HY; rw [hX8] at h; exact h.symm
    subst hYe
    obtain ⟨hb8, h8⟩ := h8
    obtain rfl : e = _ := h8
    have HP := hide ((unhide HB).trans hb8)
    clear hb8 HC8 hX8
    go_wp2
    exact ⟨rfl, unhide HP, rfl⟩
  rw [hX8] at h8
  obtain ⟨hb8, hle8, hR8, v8, rfl, hv8⟩ := h8
  have hY8 := unhide HY
  rw [hX8] at hY8
  simp only [thenR] at hY8
  replace HY := hide hY8
  clear hY8
  obtain ⟨i8, j8, s8, m8, b8, a8, n8, c8, rfl⟩ := hv8.form
  have HT8 := hide (hv8.keep (lo' := w0.heap.size + 1) (Stays.of (Below.refl _ _)) (unhide HQ1))
  replace HB := hide ((unhide HB).trans hb8)
  replace HZ := hide (zkeep (unhide HZ) hb8 hrne)
  replace HX1 := hide (zkeep (unhide HX1) hb8 ne1)
  replace HS := hide (Nat.lt_of_lt_of_le (unhide HS) hb8.size)
  replace HQ1 := hide (Nat.lt_of_lt_of_le (unhide HQ1) hb8.size)
  replace HR := hide hR8
  replace HL := hide (And.intro (Nat.le_trans (unhide HL).1 hle8) (Nat.le_trans (unhide HL).2 hle8))
  clear hb8 hle8 hR8 hv8 HC8 hX8
  have HPT9 := HT8
  have HPQ9 := HQ1
  obtain ⟨B9, eB9, hbB9, hsB9, hhB9⟩ := box_new w8 #[.int .i64 i8, .string s8, .string m8, .bool b8, .slice a8 n8 c8, .int .i64 0, .int .i64 j8] 36
  have ne9 : r ≠ w8.heap.size := by have := unhide HS; omega
  have HQHX9 := HS
  have hbu10 := But.of (r := r) hbB9
  replace HR := hide ((unhide HR).keep hbB9)
  replace HB := hide ((unhide HB).trans hbu10)
  replace HZ := hide (zkeep (unhide HZ) hbu10 hrne)
  replace HX1 := hide (zkeep (unhide HX1) hbu10 ne1)
  replace HT8 := hide ((unhide HT8).keep (Stays.but hbu10 (by omega)) (Nat.le_refl _))
  replace HS := hide (Nat.lt_of_lt_of_le (unhide HS) hbu10.size)
  replace HQ1 := hide (Nat.lt_of_lt_of_le (unhide HQ1) hbu10.size)
  have HX9 := hide hhB9
  have HEB9 := hide eB9
  have HSB9 := hide hsB9
  clear eB9 hbB9 hhB9 hsB9
  have hone9 := one_ls (unhide HPT9) (unhide HEB9) (by have := unhide HPQ9; omega)
  have HO9 := hide hone9
  clear hone9 HPT9 HPQ9
  have st11_0 := (blk (unhide HX1)).2.1 2 _ rfl
  have sz11_0 := (blk (unhide HX1)).2.2 2
  rw [← unhide HEB9] at st11_0 sz11_0
  obtain ⟨V11, eV11⟩ : ∃ V, (B9.setCell ⟨w0.heap.size, 2, none⟩ (.slice (some ⟨w8.heap.size, 0, none⟩) 1 1)) = V := ⟨_, rfl⟩
  have eN11 : setN B9 w0.heap.size 2 [.slice (some ⟨w8.heap.size, 0, none⟩) 1 1] = V11 := eV11
  replace HB := hide (by rw [← eN11]; exact But.setN [.slice (some ⟨w8.heap.size, 0, none⟩) 1 1] B9 2 (unhide HB) (by omega) : But r w V11)
  replace HR := hide (by rw [← eN11]; exact (unhide HR).setN (by omega) 2 [.slice (some ⟨w8.heap.size, 0, none⟩) 1 1] : RD V11 r ts (q8) d)
  replace HZ := hide (by rw [← eN11]; exact (heap_setN (by omega) [.slice (some ⟨w8.heap.size, 0, none⟩) 1 1] B9 2).trans (unhide HZ) : V11.heap[w.heap.size]? = some (.cells #[.int .i64 0, .string ⟨#[]⟩, .slice none 0 0, .int .i64 0] 54))
  replace HX1 := hide (by rw [← eN11]; exact blk_setN [.slice (some ⟨w8.heap.size, 0, none⟩) 1 1] B9 2 [.int .i64 1, .string T3, .slice none 0 0, .int .i64 at0] (unhide HX1) (by simp) : V11.heap[w0.heap.size]? = some (.cells #[.int .i64 1, .string T3, .slice (some ⟨w8.heap.size, 0, none⟩) 1 1, .int .i64 at0] 54))
  replace HO9 := hide (eN11 ▸ (unhide HO9).keep (Stays.setN [.slice (some ⟨w8.heap.size, 0, none⟩) 1 1] B9 2 (Stays.of (Below.refl _ _)) (by omega)) (Nat.le_refl _))
  have hsz11 : V11.heap.size = B9.heap.size := by rw [← eN11]; exact size_setN [.slice (some ⟨w8.heap.size, 0, none⟩) 1 1] B9 2
  replace HS := hide (by rw [hsz11]; exact unhide HS : w.heap.size < V11.heap.size)
  replace HQ1 := hide (by rw [hsz11]; exact unhide HQ1 : w0.heap.size < V11.heap.size)
  have HEV11 := hide eV11
  replace hsz11 := hide hsz11
  clear eV11 eN11
  have HC12 := hide (must_any (unhide HR) (unhide HT) (s := ⟨#[125]⟩) (by decide))
  go_wp2_with fail
  rw [unhide HEB9, unhide HEV11]
  refine (unhide HC12).mono ?_
  intro e w12 h12
  rcases hX12 : mustR ts ⟨#[125]⟩ (q8) with er | ⟨t12, q12⟩
  · rw [hX12] at h12
    obtain ⟨ei, en⟩ := er
    have hYe : Y = .error (ei, en) := by have h := unhide HY; rw [hX12] at h; exact h.symm
    subst hYe
    obtain ⟨hb12, h12⟩ := h12
    obtain rfl : e = _ := h12
    have HP := hide ((unhide HB).trans hb12)
    clear hb12 HC12 hX12
    go_wp2
    exact ⟨rfl, unhide HP, rfl⟩
  rw [hX12] at h12
  obtain ⟨hb12, hle12, hR12, v12, rfl, hv12⟩ := h12
  have hY12 := unhide HY
  rw [hX12] at hY12
  simp only [thenR] at hY12
  replace HY := hide hY12
  clear hY12
  obtain rfl : v12 = _ := hv12
  replace HB := hide ((unhide HB).trans hb12)
  replace HZ := hide (zkeep (unhide HZ) hb12 hrne)
  replace HX1 := hide (zkeep (unhide HX1) hb12 ne1)
  replace HO9 := hide ((unhide HO9).keep (Stays.but hb12 (by omega)) (Nat.le_refl _))
  replace HS := hide (Nat.lt_of_lt_of_le (unhide HS) hb12.size)
  replace HQ1 := hide (Nat.lt_of_lt_of_le (unhide HQ1) hb12.size)
  replace HR := hide hR12
  replace HL := hide (And.intro (Nat.le_trans (unhide HL).1 hle12) (Nat.le_trans (unhide HL).2 hle12))
  clear hb12 hle12 hR12 HC12 hX12
  have x0 := (blk (unhide HX1)).2.1 0 _ rfl
  have x1 := (blk (unhide HX1)).2.1 1 _ rfl
  have x2 := (blk (unhide HX1)).2.1 2 _ rfl
  have x3 := (blk (unhide HX1)).2.1 3 _ rfl
  have HF0 : TyV w12 (w0.heap.size + 1) (.agg #[.int .i64 1, .string T3, .slice (some ⟨w8.heap.size, 0, none⟩) 1 1, .int .i64 at0]) (.mk 1 T3 [t8] at0) := ⟨_, _, _, rfl, unhide HO9⟩
  have HF := hide HF0
  clear HF0
  have y0 := (blk (unhide HZ)).2.1 0 _ rfl
  have z0 := (blk (unhide HZ)).2.2 0
  have y1 := (blk (unhide HZ)).2.1 1 _ rfl
  have z1 := (blk (unhide HZ)).2.2 1
  have y2 := (blk (unhide HZ)).2.1 2 _ rfl
  have z2 := (blk (unhide HZ)).2.2 2
  have y3 := (blk (unhide HZ)).2.1 3 _ rfl
  have z3 := (blk (unhide HZ)).2.2 3
  go_wp2
  exact ret_row (cs := [.int .i64 1, .string T3, .slice (some ⟨w8.heap.size, 0, none⟩) 1 1, .int .i64 at0]) (xs := [.int .i64 0, .string ⟨#[]⟩, .slice none 0 0, .int .i64 0]) TyV.keep rfl rfl rfl (unhide HB) hr (unhide HZ) rfl Tryz.underlying54 rfl (by kernel_rfl) (by have h := unhide HY; rw [unhide HN0] at h; exact h.symm) (unhide HL).1 (unhide HR) (lo := w0.heap.size + 1) (by omega) (unhide HF)
end Go.Proofs.YtfkfnbehdcmgeaaGreatDoor
